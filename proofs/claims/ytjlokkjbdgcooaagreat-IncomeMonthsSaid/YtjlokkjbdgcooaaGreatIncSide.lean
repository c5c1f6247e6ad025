/-
  Contracts of income's sides, and of their sums.
-/
import Derived.Test.YtjlokkjbdgcooaaGreatMany29
import Derived.BigQuiet
namespace Go.Proofs.YtjlokkjbdgcooaaGreat
open Go.RowKit
open Mo

theorem own_addr {w : World} {B n c size : Nat} {e : TypeId} {A : Option Addr} {xs : List Value} (h : w.ownsRow B e size (.slice A n c) n xs) (hn : 0 < n) : ∃ g, A = some ⟨g, 0, none⟩ ∧ B ≤ g ∧ g < w.heap.size := by
  rcases h.2 with ⟨h1, _⟩ | ⟨g', cap', cur, h1, hB, hh, _⟩
  · injection h1 with _ h1 _
    omega
  · injection h1 with h1 _ _
    exact ⟨g', h1, hB, lt_of_blk hh⟩
/-- Turned up to a place. -/
def mixB (P : List Bal) (k : Nat) : List Bal := negB (P.take k) ++ P.drop k
theorem mixB_zero (P : List Bal) : mixB P 0 = P := by simp [mixB, negB]
theorem mixB_all {P : List Bal} {k : Nat} (h : P.length ≤ k) : mixB P k = negB P := by unfold mixB; rw [List.take_of_length_le h, List.drop_eq_nil_of_le h, List.append_nil]
theorem mixB_len (P : List Bal) (k : Nat) : (mixB P k).length = P.length := by unfold mixB; rw [List.length_append, negB_len, List.length_take, List.length_drop]; omega
theorem mixB_at {P : List Bal} {k : Nat} {x : Bal} (h : P[k]? = some x) : (mixB P k)[k]? = some x := by
  have hk := (List.getElem?_eq_some_iff.1 h).1
  unfold mixB
  rw [List.getElem?_append_right (by rw [negB_len, List.length_take]; omega), negB_len, List.length_take, List.getElem?_drop]
  rw [show k + (k - min k P.length) = k by omega]
  exact h
theorem mixB_step {P : List Bal} {k : Nat} {x : Bal} (h : P[k]? = some x) : (bals (mixB P k)).set (k * 2 + 1) (.int .i64 (-x.amt)) = bals (mixB P (k + 1)) := by
  obtain ⟨hk, rfl⟩ := List.getElem?_eq_some_iff.1 h
  unfold mixB
  rw [List.take_succ_eq_append_getElem hk, List.drop_eq_getElem_cons hk]
  have hl : (bals (negB (P.take k))).length = k * 2 := by rw [bals_len, negB_len, List.length_take]; omega
  rw [bals_append, List.set_append_right _ _ (by omega), hl, show k * 2 + 1 - k * 2 = 1 by omega]
  unfold negB
  rw [List.map_append, bals_append, bals_append, List.append_assoc]
  rfl
set_option maxRecDepth 100000 in
set_option maxHeartbeats 1000000 in
theorem pickK_any (Bc cb : Nat) (vc : Value) (C : List Acc) (k : Int) (l : List Bal) (A : Option Addr) (n c B : Nat) (w : World) (hC : ChartAt w Bc cb vc C) (h : Rd w B 2 A n (bals l)) (hB : B ≤ w.heap.size) (hn : n ≤ 1000000) (hg : GoodA C) (hl : C.length ≤ 10000) :
    Calls Tryz.prog 178 #[.pointer (some ⟨cb, 0, none⟩), .slice A n c, .slice (some ⟨w.heap.size, 0, none⟩) 1 1] (w.alloc (.cells #[.int .i64 k] 3)) (PickEnd (w.alloc (.cells #[.int .i64 k] 3)) (pickB (kindL C [k]) l)) := by
  obtain ⟨W, hW⟩ : ∃ W, w.alloc (.cells #[.int .i64 k] 3) = W := ⟨_, rfl⟩
  have hb : Below w.heap.size w W := by rw [← hW]; exact (Below.refl _ _).alloc (Nat.le_refl _) _
  have hr : Rd W W.heap.size 1 (some ⟨w.heap.size, 0, none⟩) 1 (ints .i64 [k]) := by
    rw [← hW]
    exact Rd.wide (B := w.heap.size + 1) ⟨rfl, fun _ => ⟨_, rfl, by simp, cells_new w (ints .i64 [k]) 3⟩⟩ (by simp)
  have kk := (kind_any Bc cb vc C [k] (some ⟨w.heap.size, 0, none⟩) 1 1 W.heap.size W (hC.below hb) hr (Nat.le_refl _) (by omega)).mono fun e w' hh => (show ∃ A' c', e = .returned (.slice A' (kindL C [k]).length c') ∧ Rd w' w'.heap.size 1 A' (kindL C [k]).length (ints .i64 (kindL C [k])) ∧ Below _ _ w' by
    obtain ⟨A', c', he, hown, hb⟩ := hh
    exact ⟨A', c', he, rd_of_own hown, hb⟩)
  rw [hW]
  exact pick_any (.pointer (some ⟨cb, 0, none⟩)) (.inr ⟨_, rfl⟩) l (kindL C [k]) A (some ⟨w.heap.size, 0, none⟩) n c 1 1 _ W (h.far hb hB) (Nat.le_trans hB hb.size) hn kk (kindL_rise hg _) (Nat.le_trans (kindL_len C _) hl)

set_option maxRecDepth 100000 in
set_option maxHeartbeats 2000000 in
theorem expSide_any (Bc cb : Nat) (vc : Value) (C : List Acc) (l : List Bal) (A : Option Addr) (n c B : Nat) (w : World) (hC : ChartAt w Bc cb vc C) (h : Rd w B 2 A n (bals l)) (hB : B ≤ w.heap.size) (hn : n ≤ 1000000) (hg : GoodA C) (hl : C.length ≤ 10000) :
    Calls Tryz.prog 128 #[.agg #[.pointer (some ⟨cb, 0, none⟩), .slice A n c]] w (PickEnd w (outL C l)) := by
  obtain ⟨W, hW⟩ : ∃ W, w.alloc (.cells #[.pointer (some ⟨cb, 0, none⟩), .slice A n c] 183) = W := ⟨_, rfl⟩
  have hb : Below w.heap.size w W := by rw [← hW]; exact (Below.refl _ _).alloc (Nat.le_refl _) _
  have hz : W.heap.size = w.heap.size + 1 := by rw [← hW]; simp
  have kp := pickK_any Bc cb vc C 5 l A n c B W (hC.below hb) (h.far hb hB) (Nat.le_trans hB hb.size) hn hg hl
  obtain ⟨W2, hW2⟩ : ∃ W2, W.alloc (.cells #[.int .i64 5] 3) = W2 := ⟨_, rfl⟩
  have hb2 : Below W.heap.size W W2 := by rw [← hW2]; exact (Below.refl _ _).alloc (Nat.le_refl _) _
  rw [hW2, hz] at kp
  have KP := Lib.hid kp; have HW := Lib.hid hW; have HW2 := Lib.hid hW2
  have HB2 := Lib.hid (hb.trans (hb2.mono hb.size))
  clear hW hW2 hb hb2 kp hC h hz
  go_enter Tryz.func128, Tryz.ntmps128
  go_wp2_with fail
  rw [HW.out, HW2.out]
  refine KP.out.mono ?_
  rintro e w3 ⟨A', c', rfl, hown, hb3⟩
  have HO := Lib.hid (own_base hown HB2.out.size)
  have HB3 := Lib.hid (HB2.out.trans (hb3.mono HB2.out.size))
  clear hown hb3
  go_wp2_with fail
  go_ret
  exact ⟨_, _, rfl, HO.out, HB3.out⟩

set_option maxRecDepth 100000 in
set_option maxHeartbeats 2000000 in
theorem incSide_any (Bc cb : Nat) (vc : Value) (C : List Acc) (l : List Bal) (A : Option Addr) (n c B : Nat) (w : World) (hC : ChartAt w Bc cb vc C) (h : Rd w B 2 A n (bals l)) (hB : B ≤ w.heap.size) (hn : n ≤ 1000000) (hg : GoodA C) (hl : C.length ≤ 10000) (hf : fitsAll (amts l) = true) :
    Calls Tryz.prog 127 #[.agg #[.pointer (some ⟨cb, 0, none⟩), .slice A n c]] w (PickEnd w (inL C l)) := by
  obtain ⟨W, hW⟩ : ∃ W, w.alloc (.cells #[.pointer (some ⟨cb, 0, none⟩), .slice A n c] 183) = W := ⟨_, rfl⟩
  have hb : Below w.heap.size w W := by rw [← hW]; exact (Below.refl _ _).alloc (Nat.le_refl _) _
  have hz : W.heap.size = w.heap.size + 1 := by rw [← hW]; simp
  have kp := pickK_any Bc cb vc C 4 l A n c B W (hC.below hb) (h.far hb hB) (Nat.le_trans hB hb.size) hn hg hl
  obtain ⟨W2, hW2⟩ : ∃ W2, W.alloc (.cells #[.int .i64 4] 3) = W2 := ⟨_, rfl⟩
  have hb2 : Below W.heap.size W W2 := by rw [← hW2]; exact (Below.refl _ _).alloc (Nat.le_refl _) _
  have hll : l.length = n := h.bals_len
  have hpl := pickB_len (kindL C [4]) l
  have HPF := Lib.hid (pickB_fits (ks := kindL C [4]) hf)
  obtain ⟨P, hP⟩ : ∃ P, pickB (kindL C [4]) l = P := ⟨_, rfl⟩
  have HIL : Hid (inL C l = negB P) := by unfold Hid inL; rw [hP]
  rw [hW2, hz, hP] at kp
  rw [hP, hll] at hpl
  rw [hP] at HPF
  have KP := Lib.hid kp; have HW := Lib.hid hW; have HW2 := Lib.hid hW2
  have HB2 := Lib.hid (hb.trans (hb2.mono hb.size))
  rw [HIL.out]
  clear hW hW2 hb hb2 kp hC h hz hP hf hll
  go_enter Tryz.func127, Tryz.ntmps127
  go_wp2_with fail
  rw [HW.out, HW2.out]
  refine KP.out.mono ?_
  rintro e w3 ⟨A', c', rfl, hown, hb3⟩
  have HO := Lib.hid (own_base hown HB2.out.size)
  have HB3 := Lib.hid (HB2.out.trans (hb3.mono HB2.out.size))
  obtain ⟨m, hm⟩ : ∃ m, P.length = m := ⟨_, rfl⟩
  have HM := Lib.hid hm
  rw [hm] at HO hpl ⊢
  clear hown hb3 hm
  go_wp2_with fail
  go_loopw [13] (fun iv wr => ∃ k : Nat, k ≤ m ∧ iv = .int .i64 k ∧ wr.ownsRow w.heap.size 161 2 (.slice A' m c') m (bals (mixB P k)) ∧ Below w.heap.size w wr) (fun iv _ => m - (intOf iv).toNat)
  case atStart => exact ⟨0, Nat.zero_le _, rfl, by rw [mixB_zero]; exact HO.out, HB3.out⟩
  case round =>
    obtain ⟨k, hk, rfl, hown, hbel⟩ := hrel
    by_cases hlt : k < m
    · obtain ⟨g, rfl, hBg, hgl⟩ := own_addr hown (by omega)
      obtain ⟨x, hx⟩ : ∃ x, P[k]? = some x := ⟨_, List.getElem?_eq_getElem (by have := HM.out; omega)⟩
      have hb1 := (bals_at _ _ _ (mixB_at hx)).2
      have hc := own_cell hown hb1
      have hwm := own_warm hown (k * 2 + 1)
      have hst := own_set1 (k := k * 2 + 1) hown (.int .i64 (-x.amt))
      rw [mixB_step hx] at hst
      have hfx := fits1_iff.1 ((fitsAll_iff.1 HPF.out) x.amt (List.mem_map.2 ⟨x, List.mem_of_getElem? hx, rfl⟩))
      have hw1 : IntKind.i64.wrap (-x.amt) = -x.amt := by rw [IntKind.wrap_i64]; omega
      have HST := Lib.hid hst
      have HB := Lib.hid (hbel.setCell (p := ⟨g, k * 2 + 1, none⟩) hBg (.int .i64 (-x.amt)))
      have hkI : (k : Int) < (m : Int) := by omega
      clear hown hbel hx hb1 hst
      obtain ⟨x1, x2⟩ := x
      dsimp only at *
      go_wp2_with fail
      exact ⟨⟨k + 1, by omega, by go_num, HST.out, HB.out⟩, by simp [intOf]; omega⟩
    · obtain rfl : k = m := by omega
      rw [mixB_all (by rw [HM.out]; exact Nat.le_refl _)] at hown
      have HO2 := Lib.hid hown; have HBL := Lib.hid hbel
      clear hown hbel
      go_wp2_with fail
      go_ret
      have hll : (negB P).length = k := by rw [negB_len]; exact HM.out
      unfold PickEnd
      rw [hll]
      exact ⟨_, _, rfl, HO2.out, HBL.out⟩

/-- A side, and its sum. -/
def SideEnd (w : World) (L : List Bal) (e : Ending) (w' : World) : Prop := ∃ A c, e = .returned (.tuple #[.slice A L.length c, .int .i64 (Mo.addV (amts L)), .int .i64 (Mo.addE (amts L))]) ∧ w'.ownsRow w.heap.size 161 2 (.slice A L.length c) L.length (bals L) ∧ Below w.heap.size w w'
set_option maxRecDepth 100000 in
set_option maxHeartbeats 2000000 in
theorem totalIn_any (Bc cb : Nat) (vc : Value) (C : List Acc) (l : List Bal) (A : Option Addr) (n c B : Nat) (w : World) (hC : ChartAt w Bc cb vc C) (h : Rd w B 2 A n (bals l)) (hB : B ≤ w.heap.size) (hn : n ≤ 1000) (hg : GoodA C) (hl : C.length ≤ 10000) (hf : fitsAll (amts l) = true) :
    Calls Tryz.prog 126 #[.func (Fn.func 127) #[.agg #[.pointer (some ⟨cb, 0, none⟩), .slice A n c]] #[]] w (SideEnd w (inL C l)) := by
  have KS := Lib.hid (incSide_any Bc cb vc C l A n c B w hC h hB (by omega) hg hl hf)
  have hll : l.length = n := h.bals_len
  have hpl : (inL C l).length ≤ n := by unfold inL; rw [negB_len, ← hll]; exact pickB_len _ _
  generalize inL C l = L at *
  clear hC h hll hf
  go_enter Tryz.func126, Tryz.ntmps126
  go_wp2_with fail
  refine KS.out.mono ?_
  rintro e w1 ⟨A1, c1, rfl, hown, hb1⟩
  have KU := Lib.hid (sumBals_any L A1 L.length c1 _ w1 (rd_of_own hown) (Nat.le_refl _) (by omega))
  have HO := Lib.hid hown; have HB1 := Lib.hid hb1
  clear hown hb1 KS
  go_wp2_with fail
  refine KU.out.mono ?_
  rintro e w2 ⟨rfl, hb2⟩
  have HO2 := Lib.hid (own_kept HO.out fun q hq _ => hb2.block q hq)
  have HB2 := Lib.hid (HB1.out.trans (hb2.mono HB1.out.size))
  clear hb2
  go_wp2_with fail
  go_ret3
  exact ⟨_, _, rfl, HO2.out, HB2.out⟩
set_option maxRecDepth 100000 in
set_option maxHeartbeats 2000000 in
theorem totalOut_any (Bc cb : Nat) (vc : Value) (C : List Acc) (l : List Bal) (A : Option Addr) (n c B : Nat) (w : World) (hC : ChartAt w Bc cb vc C) (h : Rd w B 2 A n (bals l)) (hB : B ≤ w.heap.size) (hn : n ≤ 1000) (hg : GoodA C) (hl : C.length ≤ 10000) :
    Calls Tryz.prog 126 #[.func (Fn.func 128) #[.agg #[.pointer (some ⟨cb, 0, none⟩), .slice A n c]] #[]] w (SideEnd w (outL C l)) := by
  have KS := Lib.hid (expSide_any Bc cb vc C l A n c B w hC h hB (by omega) hg hl)
  have hll : l.length = n := h.bals_len
  have hpl : (outL C l).length ≤ n := by unfold outL; rw [← hll]; exact pickB_len _ _
  generalize outL C l = L at *
  clear hC h hll
  go_enter Tryz.func126, Tryz.ntmps126
  go_wp2_with fail
  refine KS.out.mono ?_
  rintro e w1 ⟨A1, c1, rfl, hown, hb1⟩
  have KU := Lib.hid (sumBals_any L A1 L.length c1 _ w1 (rd_of_own hown) (Nat.le_refl _) (by omega))
  have HO := Lib.hid hown; have HB1 := Lib.hid hb1
  clear hown hb1 KS
  go_wp2_with fail
  refine KU.out.mono ?_
  rintro e w2 ⟨rfl, hb2⟩
  have HO2 := Lib.hid (own_kept HO.out fun q hq _ => hb2.block q hq)
  have HB2 := Lib.hid (HB1.out.trans (hb2.mono HB1.out.size))
  clear hb2
  go_wp2_with fail
  go_ret3
  exact ⟨_, _, rfl, HO2.out, HB2.out⟩
end Go.Proofs.YtjlokkjbdgcooaaGreat

