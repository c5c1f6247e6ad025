/-
  Contract of the reference's Number.
-/
import Derived.Test.YtakjiehncoankaaDoorRefDigits
import Derived.Test.YtakjiehncoankaaDoorCodeSub
namespace Go.Proofs.YtakjiehncoankaaDoor
open Go.RowKit Go.Sort

def valD (t : List UInt8) : Nat := t.foldl (fun a b => a * 10 + (b.toNat - 48)) 0
def digB (b : UInt8) : Bool := decide (48 ≤ b.toNat ∧ b.toNat ≤ 57)
def allD (t : List UInt8) : Bool := t.all digB
theorem digB_iff {b : UInt8} : digB b = true ↔ 48 ≤ b.toNat ∧ b.toNat ≤ 57 := by unfold digB; simp
theorem valD_snoc (t : List UInt8) (b : UInt8) : valD (t ++ [b]) = valD t * 10 + (b.toNat - 48) := by unfold valD; rw [List.foldl_append]; rfl
theorem valD_step {t : List UInt8} {k : Nat} {b : UInt8} (h : t[k]? = some b) : valD (t.take (k + 1)) = valD (t.take k) * 10 + (b.toNat - 48) := by
  obtain ⟨hk, rfl⟩ := List.getElem?_eq_some_iff.1 h
  rw [List.take_succ_eq_append_getElem hk, valD_snoc]
theorem valD_dec : ∀ (u : Nat), valD (Lib.decDigits u) = u := by
  intro u
  induction u using Nat.strongRecOn with
  | _ u ih =>
    by_cases h : u < 10
    · rw [dec_small h]
      show 0 * 10 + ((UInt8.ofNat (48 + u)).toNat - 48) = u
      rw [digit_nat h]; omega
    · rw [dec_big h, valD_snoc, ih (u / 10) (by omega), digit_nat (by omega)]
      omega
theorem dec_len : ∀ (k u : Nat), u < 10 ^ (k + 1) → (Lib.decDigits u).length ≤ k + 1
  | 0, u, h => by rw [dec_small (by simpa using h)]; simp
  | k + 1, u, h => by
    by_cases h10 : u < 10
    · rw [dec_small h10]; simp
    · rw [dec_big h10]
      have := dec_len k (u / 10) (by rw [Nat.pow_succ] at h; omega)
      simp; omega
theorem dec_all (u : Nat) : allD (Lib.decDigits u) = true := List.all_eq_true.2 fun b hb => digB_iff.2 (dec_digits u b hb)
/-- A text, and what stands behind its sign. -/
def PT (p t : List UInt8) : Prop := p = 45 :: t ∨ (p = t ∧ p.head? ≠ some 45)
/-- What Number answers of a text. -/
def NumRes (p : List UInt8) (w : World) (e : Ending) (w' : World) : Prop :=
  ∃ (v : Int) (b : Bool), e = .returned (.tuple #[.int .i64 v, .bool b]) ∧ (b = true → numOf p = some v) ∧ (∀ n : Int, numOf p = some n → -1000000000000000000 < n → n < 1000000000000000000 → b = true ∧ v = n) ∧ Below w.heap.size w w'
theorem num_shape {p t : List UInt8} {n : Int} (h : PT p t) (hn : numOf p = some n) (h1 : -1000000000000000000 < n) (h2 : n < 1000000000000000000) :
    t = Lib.decDigits n.natAbs ∧ 1 ≤ t.length ∧ t.length ≤ 18 ∧ allD t = true ∧ valD t = n.natAbs ∧ (t.length < p.length ↔ n < 0) := by
  obtain ⟨_, hp⟩ := numOf_iff.1 hn
  have ht : t = Lib.decDigits n.natAbs ∧ (t.length < p.length ↔ n < 0) := by
    unfold Lib.itoa at hp
    by_cases hneg : n < 0
    · rw [if_pos hneg] at hp
      rcases h with h | ⟨h, hh⟩
      · rw [hp] at h
        injection h with _ h
        refine ⟨h.symm, ?_⟩
        rw [hp, ← h]
        simp [hneg]
      · rw [hp] at hh; simp at hh
    · rw [if_neg hneg, show n.toNat = n.natAbs by omega] at hp
      rcases h with h | ⟨h, hh⟩
      · exfalso
        have := dec_digits n.natAbs 45 (by rw [← hp, h]; simp)
        have h45 : (45 : UInt8).toNat = 45 := by decide
        omega
      · refine ⟨by rw [← h, hp], ?_⟩
        rw [h]
        constructor
        · intro hh; omega
        · intro hh; omega
  obtain ⟨ht, hs⟩ := ht
  refine ⟨ht, ?_, ?_, ?_, ?_, hs⟩
  · rw [ht]
    have := dec_ne n.natAbs
    cases hq : Lib.decDigits n.natAbs with
    | nil => exact absurd hq this
    | cons => simp
  · rw [ht]; exact dec_len 17 _ (by omega)
  · rw [ht]; exact dec_all _
  · rw [ht]; exact valD_dec _
theorem NumRes.no {p t : List UInt8} {w w' : World} (h : PT p t) (hno : ¬ (1 ≤ t.length ∧ t.length ≤ 18 ∧ allD t = true)) (hb : Below w.heap.size w w') : NumRes p w (.returned (.tuple #[.int .i64 0, .bool false])) w' :=
  ⟨0, false, rfl, (fun h => by cases h), (fun n hn h1 h2 => by
    obtain ⟨_, q1, q2, q3, _⟩ := num_shape h hn h1 h2
    exact absurd ⟨q1, q2, q3⟩ hno), hb⟩

noncomputable def nuR0 : Code := subCode [0] (Tryd.f24.body.getD .skip)
noncomputable def nuR1 : Code := subCode [1, 0] (Tryd.f24.body.getD .skip)
noncomputable def nu2 : Code := subCode [1, 1, 0] (Tryd.f24.body.getD .skip)
noncomputable def nuRest : Code := subCode [1, 1, 1] (Tryd.f24.body.getD .skip)

set_option maxRecDepth 100000 in
set_option maxHeartbeats 4000000 in
theorem nuRest_any (s1 s2 s3 s5 s6 s7 s8 s9 s10 s11 s12 s13 s14 s15 s16 s17 s18 s19 s20 s21 s22 s23 s24 s25 s26 s27 s28 s29 s30 s31 s32 s33 s34 s35 s36 s37 s38 s39 s40 s41 s42 s43 s44 s45 s46 s47 s48 s49 s50 s51 s52 s53 s54 s55 s56 s57 s58 s59 s60 s61 : Value) (p t : List UInt8) (w : World) (hpt : PT p t) (hp : p.length ≤ 1000) :
    Code.wp Tryd.prog nuRest (bodyPost Tryd.prog Tryd.f24 fun e w' => NumRes p w e w') ⟨#[.string (bs p), s1, s2, s3, .string (bs t), s5, s6, s7, s8, s9, s10, s11, s12, s13, s14, s15, s16, s17, s18, s19, s20, s21, s22, s23, s24, s25, s26, s27, s28, s29, s30, s31, s32, s33, s34, s35, s36, s37, s38, s39, s40, s41, s42, s43, s44, s45, s46, s47, s48, s49, s50, s51, s52, s53, s54, s55, s56, s57, s58, s59, s60, s61], []⟩ w := by
  have hst := bs_size t
  have hsp := bs_size p
  have htp : t.length ≤ p.length ∧ p.length ≤ t.length + 1 := by
    rcases hpt with h | ⟨h, _⟩
    · rw [h]; simp
    · rw [h]; omega
  conv => arg 2; whnf
  conv => arg 4; dsimp only
  by_cases h1 : t.length < 1
  · have h1I : ((t.length : Nat) : Int) < 1 := by omega
    have hres := Lib.hid (NumRes.no hpt (by omega) (Below.refl w.heap.size w))
    clear hpt
    go_wp2_with fail
    go_ret2
    exact hres.out
  by_cases h2 : 18 < t.length
  · have h2I : (18 : Int) < ((t.length : Nat) : Int) := by omega
    have h1I : ¬ ((t.length : Nat) : Int) < 1 := by omega
    have hres := Lib.hid (NumRes.no hpt (by omega) (Below.refl w.heap.size w))
    clear hpt
    go_wp2_with fail
    go_ret2
    exact hres.out
  have h2I : ¬ (18 : Int) < ((t.length : Nat) : Int) := by omega
  have h1I : ¬ ((t.length : Nat) : Int) < 1 := by omega
  have HPT := Lib.hid hpt
  clear hpt
  go_wp2_with fail
  go_loop [5, 6] (fun vv iv => ∃ k : Nat, k ≤ t.length ∧ iv = .int .i64 k ∧ vv = .int .i64 (valD (t.take k) : Nat) ∧ Hid (allD (t.take k) = true ∧ valD (t.take k) < 10 ^ k)) (fun _ iv => t.length - (intOf iv).toNat)
  case atStart => exact ⟨0, Nat.zero_le _, rfl, rfl, rfl, by simp [valD]⟩
  case round =>
    obtain ⟨k, hk, rfl, rfl, hin⟩ := hrel
    have hpow : valD (t.take k) < 1000000000000000000 := Nat.lt_of_lt_of_le hin.out.2 (Nat.le_trans (Nat.pow_le_pow_right (by omega) (show k ≤ 18 by omega)) (by decide))
    by_cases hlt : k < t.length
    · have hpow2 : valD (t.take k) < 100000000000000000 := Nat.lt_of_lt_of_le hin.out.2 (Nat.le_trans (Nat.pow_le_pow_right (by omega) (show k ≤ 17 by omega)) (by decide))
      obtain ⟨b, hb⟩ : ∃ b : UInt8, t[k]? = some b := ⟨_, List.getElem?_eq_getElem hlt⟩
      have hi1 : ∀ w, (Instr.index 9 (.string (bs t)) (.int .i64 (k : Int))).run Tryd.prog w = .ok (.int .u8 (b.toNat : Int)) w := fun w => by
        rw [run_index_string w _ _ _ _ Tryd.underlying9, dif_pos (by rw [hst]; omega)]
        have e : (bs t)[(k : Int).toNat]'(by rw [hst]; simpa using hlt) = b := by
          have := (List.getElem?_eq_some_iff.1 hb).2
          rw [← this]; rfl
        rw [e]
      have HV := Lib.hid (valD_step hb)
      have hlt8 := b.toNat_lt
      have hkI : (k : Int) < (t.length : Int) := by omega
      have HD := Lib.hid hin.out.1
      have HP := Lib.hid hin.out.2
      generalize valD (t.take k) = V at *
      by_cases d1 : b.toNat < 48
      · have hres := Lib.hid (NumRes.no (w := w) HPT.out (by rintro ⟨_, _, h3⟩; have := digB_iff.1 (List.all_eq_true.1 h3 b (List.mem_of_getElem? hb)); omega) (Below.refl w.heap.size w))
        have d1I : ((b.toNat : Nat) : Int) < 48 := by omega
        clear hin hb
        go_wp2_with fail
        go_ret2
        exact hres.out
      by_cases d2 : 57 < b.toNat
      · have hres := Lib.hid (NumRes.no (w := w) HPT.out (by rintro ⟨_, _, h3⟩; have := digB_iff.1 (List.all_eq_true.1 h3 b (List.mem_of_getElem? hb)); omega) (Below.refl w.heap.size w))
        have d1I : ¬ ((b.toNat : Nat) : Int) < 48 := by omega
        have d2I : (57 : Int) < ((b.toNat : Nat) : Int) := by omega
        clear hin hb
        go_wp2_with fail
        go_ret2
        exact hres.out
      · have d1I : ¬ ((b.toNat : Nat) : Int) < 48 := by omega
        have d2I : ¬ (57 : Int) < ((b.toNat : Nat) : Int) := by omega
        have HN : Hid (allD (t.take (k + 1)) = true ∧ valD (t.take (k + 1)) < 10 ^ (k + 1)) := by
          constructor
          · exact all_step HD.out hb (digB_iff.2 (by omega))
          · rw [HV.out, Nat.pow_succ]
            have := HP.out
            omega
        clear hin hb
        go_wp2_with fail
        refine ⟨⟨k + 1, by omega, by go_num, ?_, HN.out⟩, by simp [intOf]; omega⟩
        rw [HV.out]
        go_num
    · obtain rfl : k = t.length := by omega
      have hte : t.take t.length = t := List.take_of_length_le (Nat.le_refl _)
      rw [hte] at hpow hin ⊢
      have HAL := Lib.hid hin.out.1
      have FIN : Hid (∀ (v : Int) (b : Bool) (w' : World), v = (if t.length < p.length then -(valD t : Int) else (valD t : Int)) → b = ((bs (Lib.itoa v)).toList == (bs p).toList) → Below w.heap.size w w' → NumRes p w (.returned (.tuple #[.int .i64 v, .bool b])) w') := by
        intro v b w' hv hb hbel
        have hin64 : in64 v := by
          show -9223372036854775808 ≤ v ∧ v ≤ 9223372036854775807
          rw [hv]
          split <;> omega
        have hbi : b = true ↔ Lib.itoa v = p := by
          rw [hb, beq_iff_eq, ByteArray.toList_eq, ByteArray.toList_eq, bs_list, bs_list]
        refine ⟨v, b, rfl, fun h => numOf_iff.2 ⟨hin64, (hbi.1 h).symm⟩, fun n hn g1 g2 => ?_, hbel⟩
        obtain ⟨_, _, _, _, q4, q5⟩ := num_shape HPT.out hn g1 g2
        have hvn : v = n := by
          rw [hv, q4]
          by_cases hneg : n < 0
          · rw [if_pos (q5.2 hneg)]; omega
          · rw [if_neg (fun h => hneg (q5.1 h))]; omega
        exact ⟨hbi.2 (by rw [hvn]; exact ((numOf_iff.1 hn).2).symm), hvn⟩
      generalize valD t = V at *
      clear hin hte
      by_cases hs : t.length < p.length
      · have hsI : ((t.length : Nat) : Int) < ((p.length : Nat) : Int) := by omega
        rw [if_pos hs] at FIN
        have kd := Lib.hid (refDigits_any (-(V : Int)) w (by constructor <;> omega))
        obtain ⟨T, hT⟩ : ∃ T, Lib.itoa (-(V : Int)) = T := ⟨_, rfl⟩
        have F2 : Hid (∀ (b : Bool) (w' : World), b = ((bs T).toList == (bs p).toList) → Below w.heap.size w w' → NumRes p w (.returned (.tuple #[.int .i64 (-(V : Int)), .bool b])) w') := fun b w' h1 h2 => FIN.out _ b w' rfl (by rw [hT]; exact h1) h2
        rw [hT] at kd
        clear FIN hT
        go_wp2_with fail
        refine kd.out.mono ?_
        rintro e w1 ⟨rfl, hb1⟩
        go_wp2_with fail
        go_ret2
        exact F2.out _ _ rfl hb1
      · have hsI : ¬ ((t.length : Nat) : Int) < ((p.length : Nat) : Int) := by omega
        rw [if_neg hs] at FIN
        have kd := Lib.hid (refDigits_any (V : Int) w (by constructor <;> omega))
        obtain ⟨T, hT⟩ : ∃ T, Lib.itoa (V : Int) = T := ⟨_, rfl⟩
        have F2 : Hid (∀ (b : Bool) (w' : World), b = ((bs T).toList == (bs p).toList) → Below w.heap.size w w' → NumRes p w (.returned (.tuple #[.int .i64 (V : Int), .bool b])) w') := fun b w' h1 h2 => FIN.out _ b w' rfl (by rw [hT]; exact h1) h2
        rw [hT] at kd
        clear FIN hT
        go_wp2_with fail
        refine kd.out.mono ?_
        rintro e w1 ⟨rfl, hb1⟩
        go_wp2_with fail
        go_ret2
        exact F2.out _ _ rfl hb1

theorem bs_tail (c : UInt8) (r : List UInt8) : (bs (c :: r)).extract 1 (r.length + 1) = bs r := by
  apply ByteArray.ext
  simp [bs]

set_option maxRecDepth 100000 in
set_option maxHeartbeats 1000000 in
theorem refNumber_any (p : List UInt8) (w : World) (hp : p.length ≤ 1000) :
    Calls Tryd.prog 24 #[.string (bs p)] w fun e w' => NumRes p w e w' := by
  have hsp := bs_size p
  cases p with
  | nil =>
    go_enter Tryd.func24, Tryd.ntmps24
    go_wp2_with fail
    go_ret2
    exact NumRes.no (t := []) (.inr ⟨rfl, by simp⟩) (by simp) (Below.refl _ _)
  | cons c r =>
    have hi0 : ∀ w, (Instr.index 9 (.string (bs (c :: r))) (.int .i64 0)).run Tryd.prog w = .ok (.int .u8 (c.toNat : Int)) w := fun w => by
      rw [run_index_string w _ _ _ _ Tryd.underlying9, dif_pos (by rw [hsp]; simp)]
      rfl
    have hlen : (bs (c :: r)).size = r.length + 1 := by rw [hsp]; rfl
    clear hsp
    have hpos : (0 : Int) < (r.length : Int) + 1 := by omega
    have h1 : (1 : Int) ≤ (r.length : Int) + 1 := by omega
    have hrb : r.length ≤ 1000 := by simp at hp; omega
    by_cases hc : c.toNat = 45
    · obtain rfl : c = 45 := UInt8.toNat_inj.1 (by rw [hc]; decide)
      have t1 : (((45 : UInt8).toNat : Int) == 45) = true := by decide
      have hsl := bs_tail 45 r
      go_enter Tryd.func24, Tryd.ntmps24
      show Code.wp Tryd.prog (Code.seq nuR0 (Code.seq nuR1 (Code.seq nu2 nuRest))) _ _ _
      refine wp_seq ?_
      conv => arg 2; whnf
      conv => arg 4; dsimp only
      go_wp2_with fail
      conv => arg 2; whnf
      conv => arg 4; dsimp only
      go_wp2_with fail
      conv => arg 2; whnf
      conv => arg 4; dsimp only
      go_wp2_with fail
      refine nuRest_any _ _ _ _ _ _ _ _ _ _ _ _ _ _ _ _ _ _ _ _ _ _ _ _ _ _ _ _ _ _ _ _ _ _ _ _ _ _ _ _ _ _ _ _ _ _ _ _ _ _ _ _ _ _ _ _ _ _ _ _ (45 :: r) r w (.inl rfl) hp
    · have t1 : ((c.toNat : Int) == 45) = false := by rw [beq_eq_false_iff_ne]; omega
      go_enter Tryd.func24, Tryd.ntmps24
      show Code.wp Tryd.prog (Code.seq nuR0 (Code.seq nuR1 (Code.seq nu2 nuRest))) _ _ _
      refine wp_seq ?_
      conv => arg 2; whnf
      conv => arg 4; dsimp only
      go_wp2_with fail
      conv => arg 2; whnf
      conv => arg 4; dsimp only
      go_wp2_with fail
      conv => arg 2; whnf
      conv => arg 4; dsimp only
      go_wp2_with fail
      refine nuRest_any _ _ _ _ _ _ _ _ _ _ _ _ _ _ _ _ _ _ _ _ _ _ _ _ _ _ _ _ _ _ _ _ _ _ _ _ _ _ _ _ _ _ _ _ _ _ _ _ _ _ _ _ _ _ _ _ _ _ _ _ (c :: r) (c :: r) w (.inr ⟨rfl, by intro e; simp at e; rw [e] at hc; exact hc (by decide)⟩) hp
end Go.Proofs.YtakjiehncoankaaDoor
