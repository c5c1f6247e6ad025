/-
  Several texts, one behind the other: what each holds stands ahead of it.
-/
import Derived.Test.YtjlokkjbdgcooaaGreatMany6
import Derived.Test.YtjlokkjbdgcooaaGreatMany2

/-
  Contract of money.Split: the walk.
-/
namespace Go.Proofs.YtjlokkjbdgcooaaGreat.Mo
open Go.RowKit

/-- What money.Split answers where it may split: the parts, in a new block. -/
def SplitPost (a : Int) (l : List Int) (n : Nat) (w : World) (e : Ending) (w' : World) : Prop :=
  ∃ p S, e = .returned (.tuple #[.slice (some ⟨p, 0, none⟩) n n, .int .i64 0]) ∧ w.heap.size ≤ p ∧ NRow 3 .i64 w' p n (fun k => signed (partOf (absI a) l S k) a) ∧
    Taken (restOf (absI a) l) n (leftOf (absI a) l n).toNat S ∧ Below w.heap.size w w'

theorem tot_ok {l : List Int} (hall : l.all wt1 = true) (hs : 0 < l.sum) : tot l = l.sum ∧ totPos l = true := by simp [tot, totPos, hall, hs]

/-- Behind r rounds of the last loop: the parts in block p, the shares in block s. -/
def PartsRel (t : TypeId) (s p n : Nat) (f g : Nat → Int) (w0 : World) (r : Nat) (w6 : World) : Prop :=
  NRow t .i64 w6 p n (fun j => if j < r then g j else 0) ∧ NRow 239 .u64 w6 s n f ∧ Below p w0 w6
theorem parts_start {t : TypeId} {s n : Nat} {f g : Nat → Int} {w0 : World} (h : NRow 239 .u64 w0 s n f) : PartsRel t s w0.heap.size n f g w0 0 (w0.alloc (.cells (madeCells #[.int .i64 0] n) t)) :=
  ⟨(NRow.new w0 t .i64 n).congr fun j _ => by simp, h.kept (Below.heap_alloc _ _ _ h.lt), (Below.refl _ _).alloc (Nat.le_refl _) _⟩
theorem parts_step {t : TypeId} {s p n r : Nat} {f g : Nat → Int} {w0 w6 : World} (hr : r < n) (hsp : s < p) (h : PartsRel t s p n f g w0 r w6) : PartsRel t s p n f g w0 (r + 1) (w6.setCell ⟨p, r, none⟩ (.int .i64 (g r))) := by
  obtain ⟨h1, h2, h3⟩ := h
  refine ⟨(h1.set r (g r)).congr fun j hj => ?_, h2.kept (Below.heap_setCell _ _ _ _ (by simp; omega)), h3.setCell (Nat.le_refl _) _⟩
  by_cases e : j = r
  · subst e; simp
  · simp only [e, if_false]
    by_cases h6 : j < r
    · rw [if_pos h6, if_pos (by omega)]
    · rw [if_neg h6, if_neg (by omega)]

theorem field_part (p o : Int) (W : World) : (Instr.field 293 (.agg #[.int .i64 p, .int .u64 o]) 0).run Tryz.prog W = .ok (.int .i64 p) W := by kernel_rfl
attribute [local go_sem ↓] field_part

set_option maxRecDepth 100000 in
set_option maxHeartbeats 1000000 in
theorem split_ok (a : Int) (l : List Int) (A : Option Addr) (n c B : Nat) (w : World) (h : Rd w B 1 A n (ints .i64 l)) (hB : B ≤ w.heap.size) (hf : fits1 a = true) (hall : l.all wt1 = true) (hn : n ≤ 20) (hs : 0 < l.sum) :
    Calls Tryz.prog 183 #[.int .i64 a, .slice A n c] w (SplitPost a l n w) := by
  obtain ⟨g1, g2⟩ := fits1_of hf
  obtain ⟨g3, g4⟩ := absI_of hf
  have Hf := Lib.hid hf
  have HA := Lib.hid hall
  have HS := Lib.hid hs
  have HL := Lib.hid h.ints_len
  have HT := Lib.hid (tot_ok hall hs)
  have hta : ∀ p o W, (Instr.typeAssert (.iface 293 (.agg #[.int .i64 p, .int .u64 o])) 20 293 false).run Tryz.prog W = .ok (.agg #[.int .i64 p, .int .u64 o]) W := fun _ _ _ => by kernel_rfl
  have hmk := fun W => make_row (P := Tryz.prog) (q := .i64) (k := .i64) (n := n) infoInt Tryz.underlying22 (by omega) W
  clear hf hall hs
  go_enter Tryz.func183, Tryz.ntmps183
  go_wp2_with fail
  refine (total_anyMs l A n c B w h hn).mono ?_
  rintro e w' ⟨rfl, rfl⟩
  rw [HT.out.1, HT.out.2]
  go_wp2_with fail
  refine (fits_one a w _ _).mono ?_
  rintro e w' ⟨rfl, rfl⟩
  rw [Hf.out]
  go_wp2_with fail
  refine (size_any a _ g1 g2).mono ?_
  rintro e w' ⟨rfl, rfl⟩
  go_wp2_with fail
  have hB1 : Below w.heap.size w (w.alloc (.cells #[.int .i64 a] 3)) := (Below.refl _ _).alloc (Nat.le_refl _) _
  refine (cut_any (absI a) l A n c B _ (h.far hB1 hB) (by simp; omega) g3 g4 HA.out hn HS.out).mono ?_
  rintro e w2 ⟨s, f, A', c', rfl, hs2, hrow, hown, hheap, hperm, hbel⟩
  have hs3 : w.heap.size < s := by simp at hs2; omega
  have hs4 : s < w2.heap.size := hrow.lt
  have hrw2 : NRow 239 .u64 (w2.alloc (.cells #[.slice A' n c'] 289)) s n (shareOf (absI a) l) := hrow.kept (Below.heap_alloc _ _ _ hs4)
  have HP := Lib.hid (pop_start (w0 := w2) hrow hown hheap hperm (Below.refl _ _))
  have HB2 : Hid (Below w.heap.size w w2) := hB1.trans (hbel.mono (by simp))
  clear hs2 hrow hown hheap hperm hbel hB1
  have HSH := Lib.hid (fun k => shares_le HA.out HS.out g3 k)
  have HSN := Lib.hid (fun k => share_nonneg HA.out HS.out g3 k)
  have HSL := Lib.hid (fun k => share_le HA.out HS.out g3 k)
  go_wp2_with fail
  refine (size_any a _ g1 g2).mono ?_
  rintro e w' ⟨rfl, rfl⟩
  go_wp2_with fail
  generalize hW : absI a = W at *
  have HW := Lib.hid hW
  clear hW
  generalize w2.alloc (.cells #[.slice A' n c'] 289) = w3 at *
  generalize w2.heap.size = bx at *
  have HL0 : Hid (leftOf W l n = W - sumN (shareOf W l) n) := rfl
  go_loop [41, 10] (fun i t => ∃ k : Nat, k ≤ n ∧ i = .int .i64 k ∧ t = .int .u64 (W - sumN (shareOf W l) k)) (fun i _ => n - (intOf i).toNat)
  case atStart => exact ⟨0, Nat.zero_le _, rfl, by simp [sumN]⟩
  case round =>
    obtain ⟨k, hk, rfl, rfl⟩ := hrel
    have hb1 := HSH.out k (by have := HL.out; omega)
    have hb0 : 0 ≤ sumN (shareOf W l) k := sumN_nonneg fun j _ => HSN.out j
    by_cases hlt : k < n
    · have hc := hrw2.cell hlt
      have hb2 := HSH.out (k + 1) (by have := HL.out; omega)
      have hb3 := HSN.out k
      have hb4 : sumN (shareOf W l) (k + 1) = sumN (shareOf W l) k + shareOf W l k := rfl
      have HB4 := Lib.hid hb4
      rw [hb4] at hb2
      clear hb4
      have hkn : (k : Int) < (n : Int) := by omega
      go_wp2
      exact ⟨⟨k + 1, by omega, by go_num, by rw [HB4.out]; go_num⟩, by simp [intOf]; omega⟩
    · obtain rfl : k = n := by omega
      have hL : W - sumN (shareOf W l) k = leftOf W l k := rfl
      have hLb : 0 ≤ leftOf W l k ∧ leftOf W l k < (k : Int) := by
        have := left_bd HA.out HS.out g3
        rw [HL.out] at this
        exact this
      rw [hL]
      clear hL hb1 hb0
      generalize hLL : leftOf W l k = L at *
      have HLL := Lib.hid hLL
      clear hLL HL0
      obtain ⟨m, rfl⟩ := Int.eq_ofNat_of_zero_le hLb.1
      go_wp2_with fail
      go_loopw [50] (fun i wr => ∃ q : Nat, q ≤ m ∧ i = .int .u64 q ∧ PopRel W l k s bx w2 q wr) (fun i _ => m - (intOf i).toNat)
      case atStart => exact ⟨0, Nat.zero_le _, rfl, HP.out⟩
      case round =>
        obtain ⟨q, hq, rfl, f1, S, hH, hh, hp, hS, hT, hrow, hbel⟩ := hrel
        by_cases hlt2 : q < m
        · obtain ⟨b, e0, hbest⟩ := pop_best (by omega) hh hp hS
          have hz : k - q = k - (q + 1) + 1 := by omega
          have HH := Lib.hid hH
          rw [hz] at HH hh
          have Hh := Lib.hid hh
          have HE := Lib.hid e0
          have HZ := Lib.hid hz
          clear hz e0 hH hh
          have HSS := Lib.hid hS
          clear hS
          have hqm : (q : Int) < (m : Int) := by omega
          go_wp2_with fail
          refine (heapPop_any bx (s + 1) (k - (q + 1)) f1 wr HH.out Hh.out (by omega)).mono ?_
          rintro e w5 ⟨rfl, f2, hH2, hh2, hp2, he2, hbel2⟩
          have hbk := hbest.1
          have hrow5 := hrow.below hbel2 (by omega)
          have hc5 := hrow5.cell hbk
          have hw5 := hrow5.warm b
          have hpb := part_bd HA.out HS.out g3 S b
          have hbI : (b : Int) < (k : Int) := by omega
          have HQ := Lib.hid (pop_step (b := bx) (by omega) hp HSS.out hT hrow hbel HE.out hbest hH2 hh2 hp2 he2 hbel2)
          rw [HE.out, show (restOf W l b).1 = (b : Int) from rfl]
          generalize (restOf W l b).2 = ro at *
          clear he2
          generalize partOf W l S b = y at *
          go_wp2
          exact ⟨⟨q + 1, by omega, by go_num, HQ.out⟩, by simp [intOf]; omega⟩
        · obtain rfl : q = m := by omega
          obtain ⟨wm, hwm⟩ : ∃ x, x = wr := ⟨_, rfl⟩
          subst hwm
          have hsr := hrow.lt
          go_wp2_with fail
          have HN := Lib.hid (parts_start (t := 3) (g := fun j => signed (partOf W l S j) a) hrow)
          generalize hP : wm.heap.size = p at *
          have HPP := Lib.hid hP
          clear hP
          go_loopw [67] (fun i w6 => ∃ r : Nat, r ≤ k ∧ i = .int .i64 r ∧ PartsRel 3 s p k (partOf W l S) (fun j => signed (partOf W l S j) a) wm r w6) (fun i _ => k - (intOf i).toNat)
          case atStart => exact ⟨0, Nat.zero_le _, rfl, HN.out⟩
          case round =>
            obtain ⟨r, hr, rfl, hrel3⟩ := hrel
            by_cases hlt3 : r < k
            · have HR := Lib.hid hrel3
              obtain ⟨hi1, hi2, hi3⟩ := hrel3
              have hc1 := hi2.cell hlt3
              have hw1 := hi1.warm r
              obtain ⟨y, hc2⟩ : ∃ y, wr.cell? ⟨p, r, none⟩ = some (.int .i64 y) := ⟨_, hi1.cell hlt3⟩
              have hpb := part_bd HA.out HS.out g3 S r
              have hrI : (r : Int) < (k : Int) := by omega
              have HQ := Lib.hid (parts_step hlt3 (by omega) HR.out)
              clear hi1 hi2 hi3
              go_wp2_with fail
              refine (withSign_any (partOf W l S r) a _ hpb.1 (by omega)).mono ?_
              rintro e w' ⟨rfl, rfl⟩
              go_wp2
              exact ⟨⟨r + 1, by omega, by go_num, HQ.out⟩, by simp [intOf]; omega⟩
            · obtain rfl : r = k := by omega
              obtain ⟨hi1, hi2, hi3⟩ := hrel3
              go_wp2
              go_ret2
              have e1 := HPP.out
              have hB3 : Below w.heap.size w wm := HB2.out.trans (hbel.mono (by omega))
              refine ⟨p, S, rfl, by omega, ?_, ?_, hB3.trans (hi3.mono (by omega))⟩
              · rw [HW.out]
                exact hi1.congr fun j hj => by simp [hj]
              · rw [HW.out, HLL.out, Int.toNat_natCast]
                exact hT
end Go.Proofs.YtjlokkjbdgcooaaGreat.Mo

/-
  Contracts of money.Split where it may not split, and of the statements' own first call.
-/
namespace Go.Proofs.YtjlokkjbdgcooaaGreat.Mo
open Go.RowKit

/-- May an amount be split by weights? -/
def splitOk (a : Int) (l : List Int) : Bool := fits1 a && decide (l.length ≤ 20) && l.all wt1 && decide (0 < l.sum)

set_option maxRecDepth 100000 in
set_option maxHeartbeats 1000000 in
theorem split_bad (a : Int) (l : List Int) (A : Option Addr) (n c B : Nat) (w : World) (h : Rd w B 1 A n (ints .i64 l)) (hn : n ≤ maxLen) (hno : splitOk a l = false) :
    Calls Tryz.prog 183 #[.int .i64 a, .slice A n c] w fun e w' => e = .returned (.tuple #[.slice none 0 0, .int .i64 1]) ∧ Below w.heap.size w w' := by
  have hl := h.ints_len
  have HL := Lib.hid hl
  by_cases h20 : 20 < n
  · clear hl
    go_enter Tryz.func183, Tryz.ntmps183
    go_wp2_with fail
    refine (total_long A n c w hn h20).mono ?_
    rintro e w' ⟨rfl, rfl⟩
    go_wp2
    go_ret2
    exact ⟨rfl, Below.refl _ _⟩
  · cases ht : totPos l
    · have HT := Lib.hid ht
      clear ht hl hno
      go_enter Tryz.func183, Tryz.ntmps183
      go_wp2_with fail
      refine (total_anyMs l A n c B w h (by omega)).mono ?_
      rintro e w' ⟨rfl, rfl⟩
      rw [HT.out]
      go_wp2
      go_ret2
      exact ⟨rfl, Below.refl _ _⟩
    · have hf : fits1 a = false := by
        rw [totPos, Bool.and_eq_true] at ht
        cases e : fits1 a
        · rfl
        · rw [splitOk, e, ht.1, ht.2] at hno
          simp at hno
          omega
      have HT := Lib.hid ht
      have HF := Lib.hid hf
      clear ht hl hno hf
      go_enter Tryz.func183, Tryz.ntmps183
      go_wp2_with fail
      refine (total_anyMs l A n c B w h (by omega)).mono ?_
      rintro e w' ⟨rfl, rfl⟩
      rw [HT.out]
      go_wp2_with fail
      refine (fits_one a w _ _).mono ?_
      rintro e w' ⟨rfl, rfl⟩
      rw [HF.out]
      go_wp2
      go_ret2
      exact ⟨rfl, (Below.refl _ _).alloc (Nat.le_refl _) _⟩

theorem alive_split {S : Nat → Bool} (h : Taken (restOf 10 [1, 1, 1]) 3 1 S) : partOf 10 [1, 1, 1] S 0 = 4 ∧ partOf 10 [1, 1, 1] S 1 = 3 ∧ partOf 10 [1, 1, 1] S 2 = 3 := by
  obtain ⟨S0, b, h1, h2, rfl⟩ := h
  have h1 : S0 = fun _ => false := h1
  subst h1
  have h3 := h2.2.2 0 (by omega) rfl
  have hb : b = 0 := by
    have := h2.1
    match b, this with
    | 0, _ => rfl
    | 1, _ => revert h3; decide
    | 2, _ => revert h3; decide
  subst hb
  decide

theorem alive_left : (leftOf 10 [1, 1, 1] 3).toNat = 1 := by decide
theorem absI_ten : absI (-10) = 10 := by decide

end Go.Proofs.YtjlokkjbdgcooaaGreat.Mo

/-
  Contracts of term.Valid, and of the reference's Valid.
-/
namespace Go.Proofs.YtjlokkjbdgcooaaGreat
open Go.RowKit

def okP (p : Int) : Bool := decide (0 ≤ p ∧ p ≤ 1199)
def okAll (l : List Int) : Bool := l.all okP

theorem okAll_step {l : List Int} {k : Nat} (hk : k < l.length) (h : okAll (l.take k) = true) (h1 : okP (l[k]?.getD 0) = true) : okAll (l.take (k + 1)) = true := by
  unfold okAll at h ⊢
  rw [List.take_succ_eq_append_getElem hk, List.all_append, h]
  simp [hk] at h1
  simp [h1]
theorem okAll_no {l : List Int} {k : Nat} (hk : k < l.length) (h1 : okP (l[k]?.getD 0) = false) : okAll l = false := by
  rw [okAll, List.all_eq_false]
  exact ⟨l[k], List.getElem_mem hk, by simpa [hk] using h1⟩

set_option maxHeartbeats 400000 in
theorem valid_any (l : List Int) (A : Option Addr) (n c B : Nat) (w : World) (h : Rd w B 1 A n (ints .i64 l)) (hn : n ≤ maxLen) :
    Calls Tryz.prog 134 #[.slice A n c] w fun e w' => e = .returned (.bool (okAll l)) ∧ w = w' := by
  unfold maxLen at hn
  have hl := Lib.hid h.ints_len
  go_enter Tryz.func134, Tryz.ntmps134
  go_wp2
  go_loop [7, 4] (fun i _ => ∃ k : Nat, k ≤ n ∧ i = .int .i64 k ∧ Hid (okAll (l.take k) = true)) (fun i _ => n - (intOf i).toNat)
  case atStart => exact ⟨0, Nat.zero_le _, rfl, rfl⟩
  case round =>
    obtain ⟨k, hk, rfl, hf⟩ := hrel
    by_cases hlt : k < n
    · obtain ⟨ad, rfl, hb, hc⟩ := h.int hlt
      by_cases h1 : l[k]?.getD 0 < 0
      · go_wp2
        go_ret
        exact ⟨ret_bool (okAll_no (k := k) (by have := hl.out; omega) (by unfold okP; simp; omega)).symm, rfl⟩
      by_cases h2 : 1199 < l[k]?.getD 0
      · go_wp2
        go_ret
        exact ⟨ret_bool (okAll_no (k := k) (by have := hl.out; omega) (by unfold okP; simp; omega)).symm, rfl⟩
      · go_wp2
        exact ⟨⟨k + 1, by omega, by go_num, okAll_step (by have := hl.out; omega) hf.out (by unfold okP; simp; omega)⟩, by simp [intOf]; omega⟩
    · go_wp2
      go_ret
      refine ⟨ret_bool ?_, rfl⟩
      have := hf.out
      rw [List.take_of_length_le (by have := hl.out; omega)] at this
      exact this.symm

theorem rd_oneI (w : World) (a : Int) {T : TypeId} : Rd (w.alloc (.cells #[.int .i64 a] T)) (w.heap.size + 1) 1 (some ⟨w.heap.size, 0, none⟩) 1 (ints .i64 [a]) := by
  refine ⟨rfl, fun _ => ⟨_, rfl, by simp, ?_⟩⟩
  intro j u hu
  match j, hu with
  | 0, hu => simp [ints] at hu; subst hu; simp [Addr.add, go_sem]
  | j + 1, hu => simp [ints] at hu
theorem okAll_one (p : Int) : okAll [p] = okP p := by simp [okAll]
theorem okAll_two (p q : Int) : okAll [p, q] = (okP p && okP q) := by simp [okAll]

/-- Valid of one month, in a block laid for the call. -/
theorem valid_one (p : Int) (w : World) {T : TypeId} : Calls Tryz.prog 134 #[.slice (some ⟨w.heap.size, 0, none⟩) 1 1] (w.alloc (.cells #[.int .i64 p] T)) fun e w' => e = .returned (.bool (okP p)) ∧ w.alloc (.cells #[.int .i64 p] T) = w' := by
  have := valid_any [p] _ 1 1 _ _ (rd_oneI w p (T := T)) (by unfold maxLen; omega)
  rwa [okAll_one] at this
theorem valid_two (p q : Int) (w : World) {T : TypeId} : Calls Tryz.prog 134 #[.slice (some ⟨w.heap.size, 0, none⟩) 2 2] (w.alloc (.cells #[.int .i64 p, .int .i64 q] T)) fun e w' => e = .returned (.bool (okP p && okP q)) ∧ w.alloc (.cells #[.int .i64 p, .int .i64 q] T) = w' := by
  have := valid_any [p, q] _ 2 2 _ _ (rd_two w p q (T := T)) (by unfold maxLen; omega)
  rwa [okAll_two] at this

theorem okP_t {p : Int} (h : okP p = true) : 0 ≤ p ∧ p ≤ 1199 := by unfold okP at h; simpa using h
theorem okP_f {p : Int} (h : okP p = false) : p < 0 ∨ 1199 < p := by unfold okP at h; simp at h; omega

theorem refValid_any (p : Int) (w : World) :
    Calls Tryz.prog 48 #[.int .i64 p] w fun e w' => e = .returned (.bool (okP p)) ∧ w = w' := by
  by_cases h1 : p < 0
  · have e : okP p = false := by unfold okP; simp; omega
    rw [e]
    go_enter Tryz.func48, Tryz.ntmps48
    go_wp2
    go_ret
    exact ⟨rfl, rfl⟩
  · have e : okP p = decide (p ≤ 1199) := by unfold okP; simp; omega
    rw [e]
    go_enter Tryz.func48, Tryz.ntmps48
    go_wp2
    go_ret
    exact ⟨rfl, rfl⟩
end Go.Proofs.YtjlokkjbdgcooaaGreat
