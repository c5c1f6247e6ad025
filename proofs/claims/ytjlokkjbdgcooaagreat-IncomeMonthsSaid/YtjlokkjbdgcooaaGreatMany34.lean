/-
  Several texts, one behind the other: what each holds stands ahead of it.
-/
import Derived.Test.YtjlokkjbdgcooaaGreatMany33
import Derived.Test.YtjlokkjbdgcooaaGreatMany30

/-
  Contract of the statements' Set: which accounts and journals it takes.
-/
namespace Go.Proofs.YtjlokkjbdgcooaaGreat
open Go.RowKit

/-- The accounts that are taken. -/
def setC (rows : List Acc) : List Acc := (rows.take 30).foldl addL []
theorem foldC_step {rows : List Acc} {k : Nat} {a : Acc} (h : rows[k]? = some a) : (rows.take (k + 1)).foldl addL [] = addL ((rows.take k).foldl addL []) a := by
  obtain ⟨hk, rfl⟩ := List.getElem?_eq_some_iff.1 h
  rw [List.take_succ_eq_append_getElem hk, List.foldl_append]
  rfl
/-- What Set gives. -/
def SetEndF (w : World) (rows : List Acc) (M : List Jrn) (e : Ending) (w' : World) : Prop :=
  ∃ cb bb Bc Bb vc vb C lb Ar cr Aj cj X, e = .returned (.tuple #[.pointer (some ⟨cb, 0, none⟩), .pointer (some ⟨bb, 0, none⟩), .slice Ar (List.length C) cr, .slice Aj (List.length X) cj, .bool true]) ∧
    ChartAt w' Bc cb vc C ∧ TomeAt w' Bb bb vb lb ∧ lb.map JR.j = X.map JR.j ∧ GoodM (X.map JR.j) ∧ List.length X ≤ 40 ∧ Rd w' w'.heap.size 3 Ar (List.length C) (accs C) ∧ JlRd w' w'.heap.size Aj (List.length X) X ∧ GoodA C ∧ List.length C ≤ 30 ∧ C = setC rows ∧ X.map JR.j = fitF 40 M ∧ Below w.heap.size w w'

set_option maxRecDepth 100000 in
set_option maxHeartbeats 4000000 in
theorem trialSetF_any (rows : List Acc) (l : List JR) (A1 A2 : Option Addr) (n1 n2 c1 c2 B : Nat) (w : World) (hr : Rd w B 3 A1 n1 (accs rows)) (h : JlRd w B A2 n2 l) (hB : B ≤ w.heap.size) (hn1 : n1 ≤ maxLen) (hn2 : n2 ≤ maxLen) :
    Calls Tryz.prog 32 #[.slice A1 n1 c1, .slice A2 n2 c2] w (SetEndF w rows (l.map JR.j)) := by
  unfold maxLen at hn1
  have KF : Hid (∀ w1, Below w.heap.size w w1 → Calls Tryz.prog 111 #[.slice A2 n2 c2, .int .i64 40] w1 fun e w' => ∃ A' c' X, e = .returned (.slice A' (List.length X) c') ∧ JlRd w' w'.heap.size A' (List.length X) X ∧ GoodM (X.map JR.j) ∧ List.length X ≤ 40 ∧ List.length X ≤ n2 ∧ X.map JR.j = fitF 40 (l.map JR.j) ∧ Below w1.heap.size w1 w') := fun w1 hb =>
    fitF_any 40 (by omega) l A2 n2 c2 B w1 (h.far hb hB) (Nat.le_trans hB hb.size) hn2
  have HRL : Hid (rows.length = n1) := by have := hr.1; rw [accs_len] at this; unfold Hid; omega
  have HR := Lib.hid (fun w1 (hb : Below w.heap.size w w1) => hr.far hb hB)
  clear hr h hn2
  go_enter Tryz.func32, Tryz.ntmps32
  go_wp2_with fail
  go_loopw [9, 10] (fun rv iv wr => ∃ (k : Nat) (C : List Acc) (A : Option Addr) (c : Nat), k ≤ n1 ∧ k ≤ 30 ∧ iv = .int .i64 k ∧ rv = .slice A C.length c ∧ C.length ≤ k ∧ Hid (GoodA C) ∧ Hid (C = (rows.take k).foldl addL []) ∧ wr.ownsRow w.heap.size 165 3 (.slice A C.length c) C.length (accs C) ∧ Below w.heap.size w wr) (fun _ iv _ => 30 - (intOf iv).toNat)
  case atStart => exact ⟨0, [], none, 0, Nat.zero_le _, by omega, rfl, rfl, Nat.le_refl _, GoodA.nil, rfl, World.ownsRow_nil _ _ _ _, Below.refl _ _⟩
  case round =>
    obtain ⟨k, C, A, c, hk, hk30, rfl, rfl, hCk, hg, HCF, hown, hbel⟩ := hrel
    have hzr := hbel.size
    have HBE := Lib.hid hbel
    have HO := Lib.hid hown
    by_cases hgo : k < n1 ∧ k < 30
    · obtain ⟨hlt, hlt30⟩ := hgo
      have hkI : (k : Int) < (n1 : Int) := by omega
      have hk30I : (k : Int) < 30 := by omega
      obtain ⟨ad, a, rfl, hb0, hx, p0, p1, p2⟩ := (HR.out wr hbel).acc hlt
      have HCS : Hid ((rows.take (k + 1)).foldl addL [] = addL C a) := by rw [Hid, foldC_step hx, ← HCF.out]
      have ka := refAddAcc_any C a A C.length c w.heap.size wr hown hzr (by omega) hg.out
      unfold RefAdded at ka
      have KA := Lib.hid ka
      have hgA : Hid (GoodA (addL C a)) := hg.out.add a
      have hlA := addL_lenS C a
      clear ka hx hown hbel hb0
      have p1' := cell_behind (j := 1) p1 (by omega)
      have p2' := cell_behind (j := 2) p2 (by omega)
      have HEN : Hid (addE C a ≠ 0 → addL C a = C) := addL_no
      obtain ⟨C2, hC2⟩ : ∃ C2, addL C a = C2 := ⟨_, rfl⟩
      obtain ⟨E, hE⟩ : ∃ E, addE C a = E := ⟨_, rfl⟩
      rw [hC2, hE] at KA HEN
      rw [hC2] at hgA hlA HCS
      clear hC2 hE p1 p2
      go_wp2_with fail
      refine KA.out.mono ?_
      rintro e w2 ⟨A3, c3, rfl, hown2, _, hb2⟩
      have HB2 := Lib.hid (HBE.out.trans (hb2.mono hzr))
      have HOo := Lib.hid (own_kept HO.out fun q hq _ => hb2.block q hq)
      have HO2 := Lib.hid hown2
      clear hown2 hb2 KA HO
      by_cases hE0 : E = 0
      · have hEb : (E == 0) = true := beq_iff_eq.2 hE0
        clear hE0 HEN
        go_wp2_with fail
        exact ⟨⟨k + 1, C2, A3, c3, by omega, by omega, by go_num, rfl, by omega, hgA, HCS.out.symm, HO2.out, HB2.out⟩, by simp [intOf]; omega⟩
      · have hEb : (E == 0) = false := beq_eq_false_iff_ne.2 hE0
        have HCN : Hid (C = (rows.take (k + 1)).foldl addL []) := by rw [Hid, HCS.out, HEN.out hE0]
        clear hE0
        go_wp2_with fail
        exact ⟨⟨k + 1, C, A, c, by omega, by omega, by go_num, rfl, by omega, hg, HCN, HOo.out, HB2.out⟩, by simp [intOf]; omega⟩
    · have HGO := Lib.hid hgo
      have hC30 : C.length ≤ 30 := by omega
      have hrd : Rd wr wr.heap.size 3 A C.length (accs C) := rd_of_own hown
      have HRD := Lib.hid hrd
      have HCE : Hid (C = setC rows) := by
        rw [Hid, HCF.out]
        unfold setC
        by_cases h1 : k < n1
        · rw [show k = 30 by omega]
        · rw [List.take_of_length_le (by have := HRL.out; omega), List.take_of_length_le (by have := HRL.out; omega)]
      have KF1 := Lib.hid (KF.out wr hbel)
      clear hown hbel hgo hrd KF HR
      rename World => wm
      have step : True := trivial
      by_cases hlt : k < n1
      · have hlt30 : ¬ k < 30 := fun h => HGO.out ⟨hlt, h⟩
        have hkI : (k : Int) < (n1 : Int) := by omega
        have hk30I : ¬ (k : Int) < 30 := by omega
        go_wp2_with fail
        refine KF1.out.mono ?_
        rintro e w3 ⟨A3, c3, X, rfl, hJ, hG, hX40, _, hXF, hb3⟩
        have HB3 := Lib.hid (HBE.out.trans (hb3.mono hzr))
        have hz3 := hb3.size
        have HJ := Lib.hid hJ; have HG := Lib.hid hG; have HXF := Lib.hid hXF
        clear hXF
        have hrd3 : Rd w3 wm.heap.size 3 A C.length (accs C) := HRD.out.below hb3
        have KM := Lib.hid (makeC_any C A C.length c wm.heap.size w3 hrd3 hz3 (by omega) hg.out)
        have HRD3 := Lib.hid hrd3
        clear hJ hG hb3 KF1 hrd3
        go_wp2_with fail
        refine KM.out.mono ?_
        rintro e w4 ⟨vc, rfl, hC, hb4⟩
        have HB4 := Lib.hid (HB3.out.trans (hb4.mono HB3.out.size))
        have hz4 := hb4.size
        have HCA := Lib.hid hC
        have hJ4 : JlRd w4 w3.heap.size A3 X.length X := HJ.out.far hb4 (Nat.le_refl _)
        have KO := Lib.hid (ofB_any X A3 X.length c3 w3.heap.size w4 hJ4 hz4 (by unfold maxLen; omega) HG.out)
        have HJ4 := Lib.hid hJ4
        have HRD4 := Lib.hid (HRD3.out.far hb4 hz3)
        clear hC hb4 hJ4 KM
        go_wp2_with fail
        refine KO.out.mono ?_
        rintro e w5 ⟨vb, lb, rfl, hT, hl, hb5⟩
        have HB5 := Lib.hid (HB4.out.trans (hb5.mono HB4.out.size))
        have hz5 := hb5.size
        have HTT := Lib.hid hT; have HLL := Lib.hid hl
        have HC5 := Lib.hid (HCA.out.below hb5)
        have HJ5 := Lib.hid ((HJ4.out.far hb5 hz4).wide (Nat.le_trans hz4 hz5))
        have HRD5 := Lib.hid ((HRD4.out.far hb5 (Nat.le_trans hz3 hz4)).wide (Nat.le_trans hz3 (Nat.le_trans hz4 hz5)))
        have HEND : Hid (SetEndF w rows (l.map JR.j) (.returned (.tuple #[.pointer (some ⟨w3.heap.size, 0, none⟩), .pointer (some ⟨w4.heap.size, 0, none⟩), .slice A (List.length C) c, .slice A3 (List.length X) c3, .bool true])) w5) :=
          ⟨_, _, _, _, vc, vb, C, lb, A, c, A3, c3, X, rfl, HC5.out, HTT.out, HLL.out, HG.out, hX40, HRD5.out, HJ5.out, hg.out, hC30, HCE.out, HXF.out, HB5.out⟩
        clear hT hl hb5 KO
        go_wp2_with fail
        exact bodyPost_ret (v := .tuple #[.pointer (some ⟨w3.heap.size, 0, none⟩), .pointer (some ⟨w4.heap.size, 0, none⟩), .slice A (List.length C) c, .slice A3 (List.length X) c3, .bool true]) (by simp [results, Tryz.results32, go_sem]) rfl HEND.out
      · have hkI : ¬ (k : Int) < (n1 : Int) := by omega
        go_wp2_with fail
        refine KF1.out.mono ?_
        rintro e w3 ⟨A3, c3, X, rfl, hJ, hG, hX40, _, hXF, hb3⟩
        have HB3 := Lib.hid (HBE.out.trans (hb3.mono hzr))
        have hz3 := hb3.size
        have HJ := Lib.hid hJ; have HG := Lib.hid hG; have HXF := Lib.hid hXF
        clear hXF
        have hrd3 : Rd w3 wm.heap.size 3 A C.length (accs C) := HRD.out.below hb3
        have KM := Lib.hid (makeC_any C A C.length c wm.heap.size w3 hrd3 hz3 (by omega) hg.out)
        have HRD3 := Lib.hid hrd3
        clear hJ hG hb3 KF1 hrd3
        go_wp2_with fail
        refine KM.out.mono ?_
        rintro e w4 ⟨vc, rfl, hC, hb4⟩
        have HB4 := Lib.hid (HB3.out.trans (hb4.mono HB3.out.size))
        have hz4 := hb4.size
        have HCA := Lib.hid hC
        have hJ4 : JlRd w4 w3.heap.size A3 X.length X := HJ.out.far hb4 (Nat.le_refl _)
        have KO := Lib.hid (ofB_any X A3 X.length c3 w3.heap.size w4 hJ4 hz4 (by unfold maxLen; omega) HG.out)
        have HJ4 := Lib.hid hJ4
        have HRD4 := Lib.hid (HRD3.out.far hb4 hz3)
        clear hC hb4 hJ4 KM
        go_wp2_with fail
        refine KO.out.mono ?_
        rintro e w5 ⟨vb, lb, rfl, hT, hl, hb5⟩
        have HB5 := Lib.hid (HB4.out.trans (hb5.mono HB4.out.size))
        have hz5 := hb5.size
        have HTT := Lib.hid hT; have HLL := Lib.hid hl
        have HC5 := Lib.hid (HCA.out.below hb5)
        have HJ5 := Lib.hid ((HJ4.out.far hb5 hz4).wide (Nat.le_trans hz4 hz5))
        have HRD5 := Lib.hid ((HRD4.out.far hb5 (Nat.le_trans hz3 hz4)).wide (Nat.le_trans hz3 (Nat.le_trans hz4 hz5)))
        have HEND : Hid (SetEndF w rows (l.map JR.j) (.returned (.tuple #[.pointer (some ⟨w3.heap.size, 0, none⟩), .pointer (some ⟨w4.heap.size, 0, none⟩), .slice A (List.length C) c, .slice A3 (List.length X) c3, .bool true])) w5) :=
          ⟨_, _, _, _, vc, vb, C, lb, A, c, A3, c3, X, rfl, HC5.out, HTT.out, HLL.out, HG.out, hX40, HRD5.out, HJ5.out, hg.out, hC30, HCE.out, HXF.out, HB5.out⟩
        clear hT hl hb5 KO
        go_wp2_with fail
        exact bodyPost_ret (v := .tuple #[.pointer (some ⟨w3.heap.size, 0, none⟩), .pointer (some ⟨w4.heap.size, 0, none⟩), .slice A (List.length C) c, .slice A3 (List.length X) c3, .bool true]) (by simp [results, Tryz.results32, go_sem]) rfl HEND.out
end Go.Proofs.YtjlokkjbdgcooaaGreat

/-
  The first call of chapter 11's statements.
-/
namespace Go.Proofs.YtjlokkjbdgcooaaGreat
open Go.RowKit
open Mo

def j11 : Jrn := ⟨1, 1, 3, ⟨#[]⟩, [⟨100, 5, 0⟩, ⟨400, -9, 0⟩, ⟨500, 4, 0⟩], false⟩
def a11 : List Acc := [⟨100, 1, false⟩, ⟨400, 4, false⟩, ⟨500, 5, false⟩]
def r11 : List Bal := [⟨100, 5⟩, ⟨400, -9⟩, ⟨500, 4⟩]
theorem set11 : setC a11 = a11 := by kernel_rfl
theorem fit11 : fitF 40 [j11] = [j11] := by kernel_rfl
theorem bal11 : balsOf (gathL (pkL ⟨1, 0, 5⟩) [j11]) = r11 := by kernel_rfl
theorem balE11 : balE ⟨1, 0, 5⟩ [j11] = 0 := by kernel_rfl
theorem plusOf11 : PlusOf r11 r11 := ⟨by unfold r11; simp, by unfold r11; simp, fun _ => rfl⟩
theorem balR11 : balR ⟨1, 0, 5⟩ [j11] = r11 := by
  symm
  apply balIs_R
  rw [bal11, balE11]
  exact ⟨fun _ => plusOf11, fun h => absurd rfl h⟩
theorem inL11 : inL a11 r11 = [⟨400, 9⟩] := by kernel_rfl
theorem earn11 : earnB a11 r11 = 9 := by kernel_rfl
theorem spent11 : spentB a11 r11 = 4 := by kernel_rfl
theorem net11 : netB a11 r11 = 5 := by kernel_rfl
theorem fits11 : incFits a11 r11 = true := by kernel_rfl
theorem incE11 : incE a11 ⟨1, 0, 5⟩ [j11] = 0 := by
  unfold incE
  rw [balE11, balR11, fits11]
  rfl
set_option maxRecDepth 100000 in
set_option maxHeartbeats 2000000 in
theorem alive11_any (w : World) : Calls Tryz.prog 42 #[] w fun e w' => e = .returned (.bool true) ∧ Below w.heap.size w w' := by
  obtain ⟨W1, hW1⟩ : ∃ W1, w.alloc (.cells #[.int .i64 100, .int .i64 1, .bool false, .int .i64 400, .int .i64 4, .bool false, .int .i64 500, .int .i64 5, .bool false] 165) = W1 := ⟨_, rfl⟩
  obtain ⟨W2, hW2⟩ : ∃ W2, W1.alloc (.cells #[.int .i64 100, .int .i64 5, .int .i64 0, .int .i64 400, .int .i64 (-9), .int .i64 0, .int .i64 500, .int .i64 4, .int .i64 0] 113) = W2 := ⟨_, rfl⟩
  obtain ⟨W3, hW3⟩ : ∃ W3, W2.alloc (.cells #[.int .i64 1, .int .i64 1, .int .i64 3, .string ⟨#[]⟩, .slice (some ⟨w.heap.size + 1, 0, none⟩) 3 3, .bool false] 111) = W3 := ⟨_, rfl⟩
  have z1 : W1.heap.size = w.heap.size + 1 := by rw [← hW1]; simp
  have z2 : W2.heap.size = w.heap.size + 2 := by rw [← hW2]; simp [z1]
  have z3 : W3.heap.size = w.heap.size + 3 := by rw [← hW3]; simp [z2]
  have b1 : Below w.heap.size w W1 := by rw [← hW1]; exact (Below.refl _ _).alloc (Nat.le_refl _) _
  have b2 : Below W1.heap.size W1 W2 := by rw [← hW2]; exact (Below.refl _ _).alloc (Nat.le_refl _) _
  have b3 : Below W2.heap.size W2 W3 := by rw [← hW3]; exact (Below.refl _ _).alloc (Nat.le_refl _) _
  have b13 : Below W1.heap.size W1 W3 := b2.trans (b3.mono b2.size)
  have hA : Rd W3 W3.heap.size 3 (some ⟨w.heap.size, 0, none⟩) 3 (accs a11) := by
    have h1 : Rd W1 (w.heap.size + 1) 3 (some ⟨w.heap.size, 0, none⟩) 3 (accs a11) := by
      rw [← hW1]
      exact ⟨rfl, fun _ => ⟨_, rfl, by simp, cells_new w (accs a11) 165⟩⟩
    exact (h1.far b13 (by omega)).wide (by omega)
  have hR : Rd W3 W3.heap.size 3 (some ⟨w.heap.size + 1, 0, none⟩) 3 (lins j11.lines) := by
    have h1 : Rd W2 (W1.heap.size + 1) 3 (some ⟨W1.heap.size, 0, none⟩) 3 (lins j11.lines) := by
      rw [← hW2]
      exact ⟨rfl, fun _ => ⟨_, rfl, by simp, cells_new W1 (lins j11.lines) 113⟩⟩
    rw [z1] at h1
    exact (h1.far b3 (by omega)).wide (by omega)
  have hJ : Rd W3 W3.heap.size 6 (some ⟨w.heap.size + 2, 0, none⟩) 1 (jrs [⟨j11, some ⟨w.heap.size + 1, 0, none⟩, 3⟩]) := by
    refine ⟨rfl, fun _ => ⟨_, rfl, by show w.heap.size + 2 < _; omega, fun j u hu => ?_⟩⟩
    have := cells_new W2 (jrs [⟨j11, some ⟨w.heap.size + 1, 0, none⟩, 3⟩]) 111 j u hu
    rw [z2] at this
    rw [← hW3]
    exact this
  have hJl : JlRd W3 W3.heap.size (some ⟨w.heap.size + 2, 0, none⟩) 1 [⟨j11, some ⟨w.heap.size + 1, 0, none⟩, 3⟩] := by
    refine ⟨hJ, fun a ha => ?_, fun a ha e => ?_, fun a ha => ?_⟩
    · rw [List.mem_singleton] at ha; subst ha; exact hR
    · rw [List.mem_singleton] at ha; subst ha; cases e
    · rw [List.mem_singleton] at ha; subst ha; exact ⟨by show (0 : Nat) ≤ _; omega, by show (3 : Nat) ≤ _; unfold maxLen; omega⟩
  have ks := trialSetF_any a11 [⟨j11, some ⟨w.heap.size + 1, 0, none⟩, 3⟩] (some ⟨w.heap.size, 0, none⟩) (some ⟨w.heap.size + 2, 0, none⟩) 3 1 3 1 W3.heap.size W3 hA hJl (Nat.le_refl _) (by unfold maxLen; omega) (by unfold maxLen; omega)
  rw [show ([⟨j11, some ⟨w.heap.size + 1, 0, none⟩, 3⟩] : List JR).map JR.j = [j11] from rfl] at ks
  have KS := Lib.hid ks
  have HB3 : Hid (Below w.heap.size w W3) := b1.trans (b13.mono b1.size)
  have HW : Hid (((w.alloc (.cells #[.int .i64 100, .int .i64 1, .bool false, .int .i64 400, .int .i64 4, .bool false, .int .i64 500, .int .i64 5, .bool false] 165)).alloc (.cells #[.int .i64 100, .int .i64 5, .int .i64 0, .int .i64 400, .int .i64 (-9), .int .i64 0, .int .i64 500, .int .i64 4, .int .i64 0] 113)).alloc (.cells #[.int .i64 1, .int .i64 1, .int .i64 3, .string ⟨#[]⟩, .slice (some ⟨w.heap.size + 1, 0, none⟩) 3 3, .bool false] 111) = W3) := by unfold Hid; rw [hW1, hW2, hW3]
  clear hW1 hW2 hW3 hA hR hJ hJl ks b1 b2 b3 b13 z1 z2 z3
  go_enter Tryz.func42, Tryz.ntmps42
  go_wp2_with fail
  rw [HW.out]
  refine KS.out.mono ?_
  rintro e w4 ⟨cb, bb, Bc, Bb, vc, vb, C, lb, Ar, cr, Aj, cj, X, rfl, hC, hT, hl, _, hX40, _, _, hG, hC30, hCC, hXF, hb4⟩
  rw [set11] at hCC
  rw [fit11] at hXF
  subst hCC
  have hlb : lb.length ≤ 100 := by
    have := congrArg List.length hl
    rw [List.length_map, List.length_map] at this
    omega
  have km := make_any Bc cb Bb bb vc vb a11 lb [j11] ⟨1, 0, 5⟩ w4 hC hT hlb (hl.trans hXF) (by rw [bal11]; unfold r11; simp) hG (by omega)
  have KM := Lib.hid km
  have HB4 := Lib.hid (HB3.out.trans (hb4.mono HB3.out.size))
  clear hC hT hl hG hXF hb4 km KS
  unfold OfT.val at KM
  dsimp only at KM
  rw [show (List.length a11) = 3 from rfl]
  go_wp2_with fail
  refine KM.out.mono ?_
  rintro e w5 ⟨hb5, ⟨hbad, _⟩ | ⟨_, hst⟩⟩
  · exact absurd incE11 hbad
  rw [balR11] at hst
  unfold StmOk at hst
  rw [inL11, earn11, spent11, net11] at hst
  obtain ⟨A1, c1, A2, c2, rfl, hown1, _, _⟩ := hst
  have HB5 := Lib.hid (HB4.out.trans (hb5.mono HB4.out.size))
  obtain ⟨g, rfl, _, hgl⟩ := own_addr hown1 (by decide)
  have hc : w5.cell? ⟨g, 1, none⟩ = some (.int .i64 9) := own_cell hown1 rfl
  clear hown1 hb5 KM
  generalize (outL a11 r11).length = n2
  rw [show (List.length [(⟨400, 9⟩ : Bal)]) = 1 from rfl]
  go_wp2_with fail
  go_ret
  exact ⟨rfl, HB5.out.alloc HB5.out.size _⟩
end Go.Proofs.YtjlokkjbdgcooaaGreat
