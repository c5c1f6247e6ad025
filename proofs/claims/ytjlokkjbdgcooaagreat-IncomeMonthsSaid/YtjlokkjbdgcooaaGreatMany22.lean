/-
  Several texts, one behind the other: what each holds stands ahead of it.
-/
import Derived.Test.YtjlokkjbdgcooaaGreatOwn

/-
  Lists of accounts, and the statements' helper over them: SameAccounts.
-/
namespace Go.Proofs.YtjlokkjbdgcooaaGreat
open Go.RowKit

/-- An element. -/
structure Acc where
  code : Int
  kind : Int
  ret : Bool
deriving DecidableEq
def Acc.cells (a : Acc) : List Value := [.int .i64 a.code, .int .i64 a.kind, .bool a.ret]
def Acc.val (a : Acc) : Value := .agg #[.int .i64 a.code, .int .i64 a.kind, .bool a.ret]
def accs (l : List Acc) : List Value := l.flatMap Acc.cells
theorem accs_len : ∀ l : List Acc, (accs l).length = l.length * 3
  | [] => rfl
  | a :: l => by have := accs_len l; unfold accs at this ⊢; simp [Acc.cells, this]; omega
theorem accs_append (l m : List Acc) : accs (l ++ m) = accs l ++ accs m := by simp [accs]
theorem accs_at : ∀ (l : List Acc) (k : Nat) (a : Acc), l[k]? = some a → (accs l)[k * 3]? = some (.int .i64 a.code) ∧ (accs l)[k * 3 + 1]? = some (.int .i64 a.kind) ∧ (accs l)[k * 3 + 2]? = some (.bool a.ret)
  | [], k, a, h => by simp at h
  | b :: l, 0, a, h => by
    simp at h; subst h
    exact ⟨rfl, rfl, rfl⟩
  | b :: l, k + 1, a, h => by
    have := accs_at l k a (by simpa using h)
    unfold accs at this ⊢
    simp only [List.flatMap_cons, Acc.cells]
    rw [show (k + 1) * 3 = k * 3 + 3 by omega]
    simpa [List.getElem?_append_right] using this
theorem Rd.accs_len {w : World} {B n : Nat} {A : Option Addr} {l : List Acc} (h : Rd w B 3 A n (accs l)) : l.length = n := by
  have := h.1; rw [Go.Proofs.YtjlokkjbdgcooaaGreat.accs_len] at this; omega
theorem Rd.acc {w : World} {B n i : Nat} {A : Option Addr} {l : List Acc} (h : Rd w B 3 A n (accs l)) (hi : i < n) :
    ∃ ad a, A = some ad ∧ ad.block < B ∧ l[i]? = some a ∧ w.cell? (ad.add (i * 3)) = some (.int .i64 a.code) ∧ w.cell? (ad.add (i * 3 + 1)) = some (.int .i64 a.kind) ∧ w.cell? (ad.add (i * 3 + 2)) = some (.bool a.ret) := by
  obtain ⟨ad, e, hb, hc⟩ := h.2 (by omega)
  have hl := h.accs_len
  have hg : l[i]? = some l[i] := List.getElem?_eq_getElem (by omega)
  obtain ⟨h1, h2, h3⟩ := accs_at l i _ hg
  exact ⟨ad, _, e, hb, hg, hc _ _ h1, hc _ _ h2, hc _ _ h3⟩

theorem infoAcc : (Tryz.prog.info? 165).map (fun i => (i.zero, i.size, i.bytes)) = some (some (.agg #[.int .i64 0, .int .i64 0, .bool false]), 3, 24) := by kernel_rfl
theorem acc_step {l m : List Acc} {k : Nat} (hk : k < l.length ∧ k < m.length) (h1 : l.take k = m.take k) (h2 : l[k]? = m[k]?) : l.take (k + 1) = m.take (k + 1) := by
  rw [List.take_succ_eq_append_getElem hk.1, List.take_succ_eq_append_getElem hk.2, h1]
  rw [List.getElem?_eq_getElem hk.1, List.getElem?_eq_getElem hk.2] at h2
  injection h2 with h2
  rw [h2]

set_option maxRecDepth 100000 in
set_option maxHeartbeats 400000 in
theorem sameAccounts_any (l m : List Acc) (A1 A2 : Option Addr) (n1 n2 c1 c2 B1 B2 : Nat) (w : World) (h1 : Rd w B1 3 A1 n1 (accs l)) (h2 : Rd w B2 3 A2 n2 (accs m)) (hn1 : n1 ≤ 1000000) (hn2 : n2 ≤ 1000000) :
    Calls Tryz.prog 142 #[.slice A1 n1 c1, .slice A2 n2 c2] w fun e w' => e = .returned (.bool (l == m)) ∧ Drew w w' := by
  have L1 := Lib.hid h1.accs_len
  have L2 := Lib.hid h2.accs_len
  by_cases hne : n1 = n2
  · subst hne
    have t1 : ((n1 : Int) != (n1 : Int)) = false := by simp
    go_enter Tryz.func142, Tryz.ntmps142
    go_wp2_with fail
    go_loopw [5] (fun i wr => ∃ k : Nat, k ≤ n1 ∧ i = .int .i64 k ∧ Hid (l.take k = m.take k) ∧ Drew w wr) (fun i _ => n1 - (intOf i).toNat)
    case atStart => exact ⟨0, Nat.zero_le _, rfl, by simp [Hid], Drew.refl _⟩
    case round =>
      obtain ⟨k, hk, rfl, hs, q, rfl⟩ := hrel
      by_cases hlt : k < n1
      · obtain ⟨a1, x, rfl, hb1, hx, p1, p2, p3⟩ := h1.acc hlt
        obtain ⟨a2, y, rfl, hb2, hy, r1, r2, r3⟩ := h2.acc hlt
        have hkn : (k : Int) < (n1 : Int) := by omega
        have p2' := cell_behind p2 (by omega)
        have p3' := cell_behind p3 (by omega)
        have r2' := cell_behind r2 (by omega)
        have r3' := cell_behind r3 (by omega)
        have HX : Hid (x = y → l.take (k + 1) = m.take (k + 1)) := fun h => acc_step (by have := L1.out; have := L2.out; omega) hs.out (by rw [hx, hy, h])
        have HY : Hid (x ≠ y → (l == m) = false) := by
          intro h
          rw [beq_eq_false_iff_ne]
          intro e
          rw [e, hy] at hx
          exact h (by injection hx with hx; exact hx.symm)
        clear hx hy p2 p3 r2 r3
        obtain ⟨x1, x2, x3⟩ := x
        obtain ⟨y1, y2, y3⟩ := y
        by_cases e1 : x1 = y1
        · subst e1
          by_cases e2 : x2 = y2
          · subst e2
            by_cases e3 : x3 = y3
            · subst e3
              go_wp2_with fail
              go_big_quiet (fail)
              go_wp2
              exact ⟨⟨k + 1, by omega, by go_num, HX.out (by first | rfl | trivial), Drew.add _ _⟩, by simp [intOf]; omega⟩
            · skip
              go_wp2_with fail
              go_big_quiet (fail)
              go_wp2
              go_ret
              exact ⟨ret_bool (HY.out (by simp [e3])).symm, ⟨_, World.drewN_drewN _ _ _⟩⟩
          · skip
            go_wp2_with fail
            go_big_quiet (fail)
            go_wp2
            go_ret
            exact ⟨ret_bool (HY.out (by simp [e2])).symm, ⟨_, World.drewN_drewN _ _ _⟩⟩
        · skip
          go_wp2_with fail
          go_big_quiet (fail)
          go_wp2
          go_ret
          exact ⟨ret_bool (HY.out (by simp [e1])).symm, ⟨_, World.drewN_drewN _ _ _⟩⟩
      · go_wp2
        go_ret
        refine ⟨ret_bool ?_, _, rfl⟩
        have := hs.out
        rw [List.take_of_length_le (by have := L1.out; omega), List.take_of_length_le (by have := L2.out; omega)] at this
        rw [this]; simp
  · have t1 : ((n1 : Int) != (n2 : Int)) = true := by rw [bne_iff_ne]; omega
    have HN := Lib.hid hne
    clear hne
    go_enter Tryz.func142, Tryz.ntmps142
    go_wp2
    go_ret
    refine ⟨ret_bool ?_, Drew.refl _⟩
    symm
    rw [beq_eq_false_iff_ne]
    intro e
    have := L1.out; have := L2.out
    rw [e] at *
    have := HN.out; omega
end Go.Proofs.YtjlokkjbdgcooaaGreat

/-
  Charts as lists of accounts: what is found, where one would stand, what is added, retired. No code.
-/
namespace Go.Proofs.YtjlokkjbdgcooaaGreat
open Go.RowKit

def okRow (code kind : Int) : Bool := decide (1 ≤ code ∧ code ≤ 9999 ∧ 1 ≤ kind ∧ kind ≤ 5)
def posn (l : List Acc) (x : Int) : Nat := (l.takeWhile fun a => decide (a.code < x)).length
def findA (l : List Acc) (x : Int) : Option Acc := l.find? fun a => a.code == x
def insA (l : List Acc) (a : Acc) : List Acc := l.take (posn l a.code) ++ a :: l.drop (posn l a.code)
/-- Codes rise, and all is as it may be. -/
def GoodA (l : List Acc) : Prop := l.Pairwise (fun a b => a.code < b.code) ∧ ∀ a ∈ l, okRow a.code a.kind = true
def addE (l : List Acc) (a : Acc) : Int := if okRow a.code a.kind = true then (if (findA l a.code).isSome = true then 7 else 0) else 1
def addL (l : List Acc) (a : Acc) : List Acc := if addE l a = 0 then insA l a else l
def retE (l : List Acc) (x : Int) : Int := match findA l x with
  | none => 9
  | some a => if a.ret = true then 5 else 0
def retL (l : List Acc) (x : Int) : List Acc := l.map fun a => { a with ret := a.ret || a.code == x }
def liveE1 (l : List Acc) (x : Int) : Int := match findA l x with
  | none => 4
  | some a => if a.ret = true then 5 else 0
def liveECh (l : List Acc) : List Int → Int
  | [] => 0
  | x :: r => if liveE1 l x = 0 then liveECh l r else liveE1 l x
def kindL (l : List Acc) (ks : List Int) : List Int := (l.filter fun a => ks.contains a.kind).map (·.code)

theorem posn_le (l : List Acc) (x : Int) : posn l x ≤ l.length := by unfold posn; exact (List.takeWhile_prefix _).length_le
theorem posn_cons (a : Acc) (l : List Acc) (x : Int) : posn (a :: l) x = if a.code < x then posn l x + 1 else 0 := by
  unfold posn
  by_cases h : a.code < x <;> simp [List.takeWhile_cons, h]
theorem posn_lt : ∀ (l : List Acc) (x : Int) (k : Nat) (a : Acc), k < posn l x → l[k]? = some a → a.code < x
  | [], x, k, a, _, h2 => by simp at h2
  | b :: l, x, k, a, h1, h2 => by
    rw [posn_cons] at h1
    split at h1
    · cases k with
      | zero => simp at h2; subst h2; assumption
      | succ k => exact posn_lt l x k a (by omega) (by simpa using h2)
    · omega
theorem posn_at : ∀ (l : List Acc) (x : Int) (a : Acc), l[posn l x]? = some a → x ≤ a.code
  | [], x, a, h => by simp at h
  | b :: l, x, a, h => by
    rw [posn_cons] at h
    split at h
    · exact posn_at l x a (by simpa using h)
    · simp at h; subst h; omega
theorem posn_eq {l : List Acc} {x : Int} {i : Nat} (hi : i ≤ l.length) (h1 : ∀ k a, k < i → l[k]? = some a → a.code < x) (h2 : ∀ a, l[i]? = some a → x ≤ a.code) : posn l x = i := by
  rcases Nat.lt_trichotomy (posn l x) i with h | h | h
  · have hl : posn l x < l.length := by omega
    have := posn_at l x _ (List.getElem?_eq_getElem hl)
    have := h1 _ _ h (List.getElem?_eq_getElem hl)
    omega
  · exact h
  · have := posn_le l x
    have hl : i < l.length := by omega
    have := posn_lt l x i _ h (List.getElem?_eq_getElem hl)
    have := h2 _ (List.getElem?_eq_getElem hl)
    omega
theorem rise_ltCh {l : List Acc} (h : l.Pairwise fun a b => a.code < b.code) {i j : Nat} {a b : Acc} (hij : i < j) (hi : l[i]? = some a) (hj : l[j]? = some b) : a.code < b.code := by
  obtain ⟨h1, rfl⟩ := List.getElem?_eq_some_iff.1 hi
  obtain ⟨h2, rfl⟩ := List.getElem?_eq_some_iff.1 hj
  exact List.pairwise_iff_getElem.1 h i j h1 h2 hij
theorem rise_leCh {l : List Acc} (h : l.Pairwise fun a b => a.code < b.code) {i j : Nat} {a b : Acc} (hij : i ≤ j) (hi : l[i]? = some a) (hj : l[j]? = some b) : a.code ≤ b.code := by
  rcases Nat.lt_or_ge i j with h1 | h1
  · have := rise_ltCh h h1 hi hj; omega
  · obtain rfl : i = j := by omega
    rw [hi] at hj
    injection hj with hj
    rw [hj]; exact Int.le_refl _
/-- In a list that rises what is found stands at its place. -/
theorem find_atCh : ∀ {l : List Acc}, l.Pairwise (fun a b => a.code < b.code) → ∀ x, findA l x = (l[posn l x]?).bind fun a => if a.code = x then some a else none
  | [], _, x => rfl
  | b :: l, h, x => by
    rw [posn_cons]
    rw [List.pairwise_cons] at h
    unfold findA
    rw [List.find?_cons]
    rcases Int.lt_trichotomy b.code x with hb | hb | hb
    · have h1 : (b.code == x) = false := by simp; omega
      rw [h1, if_pos hb]
      exact find_atCh h.2 x
    · have h1 : (b.code == x) = true := by simp; omega
      rw [h1, if_neg (by omega)]
      simp [hb]
    · have h1 : (b.code == x) = false := by simp; omega
      rw [h1, if_neg (by omega)]
      have : l.find? (fun a => a.code == x) = none := by
        rw [List.find?_eq_none]
        intro a ha
        have := h.1 a ha
        simp; omega
      rw [this]
      simp; omega
theorem find_some_atCh {l : List Acc} (h : l.Pairwise fun a b => a.code < b.code) {x : Int} {a : Acc} (hf : findA l x = some a) : l[posn l x]? = some a ∧ a.code = x := by
  rw [find_atCh h] at hf
  cases hq : l[posn l x]? with
  | none => simp [hq] at hf
  | some b =>
    rw [hq] at hf
    by_cases hb : b.code = x
    · simp [hb] at hf; subst hf; exact ⟨rfl, hb⟩
    · simp [hb] at hf
theorem find_none_atCh {l : List Acc} (h : l.Pairwise fun a b => a.code < b.code) {x : Int} (hf : findA l x = none) {a : Acc} (ha : l[posn l x]? = some a) : x < a.code := by
  have h1 := posn_at l x a ha
  rw [find_atCh h, ha] at hf
  by_cases hb : a.code = x
  · simp [hb] at hf
  · omega
theorem find_none_memCh {l : List Acc} {x : Int} (hf : findA l x = none) : ∀ a ∈ l, a.code ≠ x := by
  intro a ha
  have := List.find?_eq_none.1 hf a ha
  simpa using this
theorem rise_lenCh : ∀ (l : List Acc) (lo : Int), l.Pairwise (fun a b => a.code < b.code) → (∀ a ∈ l, lo ≤ a.code ∧ a.code ≤ 9999) → lo ≤ 10000 → (l.length : Int) ≤ 10000 - lo
  | [], lo, _, _, h => by simp; omega
  | b :: l, lo, h, hr, _ => by
    rw [List.pairwise_cons] at h
    have hb := hr b (by simp)
    have := rise_lenCh l (b.code + 1) h.2 (fun a ha => ⟨by have := h.1 a ha; omega, (hr a (by simp [ha])).2⟩) (by omega)
    simp; omega
theorem okRow_t {c k : Int} (h : okRow c k = true) : 1 ≤ c ∧ c ≤ 9999 ∧ 1 ≤ k ∧ k ≤ 5 := by simpa [okRow] using h
theorem GoodA.len {l : List Acc} (h : GoodA l) : l.length ≤ 9999 := by
  have := rise_lenCh l 1 h.1 (fun a ha => by have := okRow_t (h.2 a ha); omega) (by omega)
  omega
theorem GoodA.nil : GoodA [] := ⟨List.Pairwise.nil, by simp⟩
theorem insA_len (l : List Acc) (a : Acc) : (insA l a).length = l.length + 1 := by
  have := posn_le l a.code
  simp [insA]; omega
theorem GoodA.ins {l : List Acc} {a : Acc} (h : GoodA l) (ho : okRow a.code a.kind = true) (hf : findA l a.code = none) : GoodA (insA l a) := by
  refine ⟨?_, fun b hb => ?_⟩
  · unfold insA
    rw [List.pairwise_append]
    refine ⟨h.1.sublist (List.take_sublist _ _), ?_, ?_⟩
    · rw [List.pairwise_cons]
      refine ⟨fun b hb => ?_, h.1.sublist (List.drop_sublist _ _)⟩
      obtain ⟨j, hj⟩ := List.mem_iff_getElem?.1 hb
      rw [List.getElem?_drop] at hj
      have hl := (List.getElem?_eq_some_iff.1 hj).1
      have hp : posn l a.code < l.length := by omega
      have h1 := find_none_atCh h.1 hf (List.getElem?_eq_getElem hp)
      have h2 := rise_leCh h.1 (Nat.le_add_right _ j) (List.getElem?_eq_getElem hp) hj
      omega
    · intro b hb c hc
      obtain ⟨j, hj⟩ := List.mem_iff_getElem?.1 hb
      rw [List.getElem?_take] at hj
      split at hj
      · have h1 := posn_lt l a.code j b ‹_› hj
        rcases List.mem_cons.1 hc with rfl | hc
        · exact h1
        · obtain ⟨q, hq⟩ := List.mem_iff_getElem?.1 hc
          rw [List.getElem?_drop] at hq
          exact rise_ltCh h.1 (by omega) hj hq
      · cases hj
  · unfold insA at hb
    rcases List.mem_append.1 hb with hb | hb
    · exact h.2 b (List.mem_of_mem_take hb)
    · rcases List.mem_cons.1 hb with rfl | hb
      · exact ho
      · exact h.2 b (List.mem_of_mem_drop hb)
theorem addE_ok {l : List Acc} {a : Acc} (h : addE l a = 0) : okRow a.code a.kind = true ∧ findA l a.code = none := by
  unfold addE at h
  split at h
  · rename_i h1
    refine ⟨h1, ?_⟩
    cases hf : findA l a.code with
    | none => rfl
    | some b => simp [hf] at h
  · omega
theorem GoodA.add {l : List Acc} (h : GoodA l) (a : Acc) : GoodA (addL l a) := by
  unfold addL
  split
  · rename_i h0
    obtain ⟨h1, h2⟩ := addE_ok h0
    exact h.ins h1 h2
  · exact h
theorem GoodA.ret {l : List Acc} (h : GoodA l) (x : Int) : GoodA (retL l x) := by
  refine ⟨?_, fun b hb => ?_⟩
  · unfold retL
    rw [List.pairwise_map]
    exact h.1
  · obtain ⟨a, ha, rfl⟩ := List.mem_map.1 hb
    exact h.2 a ha
theorem retL_len (l : List Acc) (x : Int) : (retL l x).length = l.length := by simp [retL]
theorem retL_none {l : List Acc} {x : Int} (h : findA l x = none) : retL l x = l := by
  unfold retL
  conv => rhs; rw [← List.map_id l]
  apply List.map_congr_left
  intro a ha
  have := find_none_memCh h a ha
  have h2 : (a.code == x) = false := by simp [this]
  simp [h2]
theorem retL_set {l : List Acc} (h : l.Pairwise fun a b => a.code < b.code) {x : Int} {a : Acc} (hf : findA l x = some a) : retL l x = l.set (posn l x) { a with ret := true } := by
  obtain ⟨h1, h2⟩ := find_some_atCh h hf
  apply List.ext_getElem?
  intro i
  unfold retL
  rw [List.getElem?_map, List.getElem?_set]
  by_cases e : posn l x = i
  · subst e
    rw [if_pos rfl, h1]
    have hl := (List.getElem?_eq_some_iff.1 h1).1
    simp [hl, h2]
  · rw [if_neg e]
    cases hq : l[i]? with
    | none => rfl
    | some b =>
      have : b.code ≠ x := by
        rcases Nat.lt_or_gt_of_ne e with h3 | h3
        · have := rise_ltCh h h3 h1 hq; omega
        · have := rise_ltCh h h3 hq h1; omega
      have h5 : (b.code == x) = false := by simp [this]
      simp [h5]
theorem retL_old {l : List Acc} (h : l.Pairwise fun a b => a.code < b.code) {x : Int} {a : Acc} (hf : findA l x = some a) (hr : a.ret = true) : retL l x = l := by
  rw [retL_set h hf]
  obtain ⟨h1, _⟩ := find_some_atCh h hf
  apply List.ext_getElem?
  intro i
  rw [List.getElem?_set]
  by_cases e : posn l x = i
  · subst e
    have hl := (List.getElem?_eq_some_iff.1 h1).1
    rw [if_pos rfl, if_pos hl, h1, ← hr]
  · rw [if_neg e]
end Go.Proofs.YtjlokkjbdgcooaaGreat
