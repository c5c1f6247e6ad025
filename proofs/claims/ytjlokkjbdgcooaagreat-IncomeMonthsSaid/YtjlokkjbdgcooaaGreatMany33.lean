/-
  Several texts, one behind the other: what each holds stands ahead of it.
-/
import Derived.Test.YtjlokkjbdgcooaaGreatMany30
import Derived.Test.YtjlokkjbdgcooaaGreatRefAddNew
import Derived.Test.YtjlokkjbdgcooaaGreatMany32

/-
  Contract of the statements' Set.
-/
namespace Go.Proofs.YtjlokkjbdgcooaaGreat
open Go.RowKit

theorem newR_riseS : ∀ (xs l : List Acc), GoodA (l ++ xs) → newR l xs = (l ++ xs, 0)
  | [], l, _ => by simp [newR]
  | a :: r, l, h => by
    have ho : okRow a.code a.kind = true := h.2 a (by simp)
    have hlt : ∀ b ∈ l, b.code < a.code := fun b hb => (List.pairwise_append.1 h.1).2.2 b hb a (by simp)
    have hf : findA l a.code = none := by
      unfold findA
      rw [List.find?_eq_none]
      intro b hb
      have := hlt b hb
      simp; omega
    have hp : posn l a.code = l.length := by
      exact posn_eq (Nat.le_refl _) (fun k b _ hb => hlt b (List.mem_of_getElem? hb)) fun b hb => by simp at hb
    have hE : addE l a = 0 := by unfold addE; rw [if_pos ho, hf]; rfl
    have hI : insA l a = l ++ [a] := by unfold insA; rw [hp]; simp
    rw [newR, if_pos hE, hI, newR_riseS r (l ++ [a]) (by simpa using h)]
    simp
theorem new_goodS {C : List Acc} (h : GoodA C) : newE C = 0 ∧ newL C = C := by
  have := newR_riseS C [] (by simpa using h)
  unfold newE newL
  rw [this]
  exact ⟨rfl, rfl⟩
set_option maxRecDepth 100000 in
set_option maxHeartbeats 400000 in
theorem makeC_any (C : List Acc) (A : Option Addr) (n c B : Nat) (w : World) (h : Rd w B 3 A n (accs C)) (hB : B ≤ w.heap.size) (hn : n ≤ 1000) (hg : GoodA C) :
    Calls Tryz.prog 112 #[.slice A n c] w fun e w' => ∃ v, e = .returned (.pointer (some ⟨w.heap.size, 0, none⟩)) ∧ ChartAt w' w.heap.size w.heap.size v C ∧ Below w.heap.size w w' := by
  have kn := new_any C A n c B w h hB (by omega)
  unfold NewPost at kn
  obtain ⟨h1, h2⟩ := new_goodS hg
  rw [h1, h2] at kn
  have KN := Lib.hid kn
  have z0 : ((0 : Int) != 0) = false := rfl
  clear kn h hg h1 h2
  go_enter Tryz.func112, Tryz.ntmps112
  go_wp2_with fail
  refine KN.out.mono ?_
  rintro e w1 ⟨hb, hx⟩
  rcases hx with ⟨h0, _⟩ | ⟨_, rfl, v, hC⟩
  · exact absurd rfl h0
  have HB := Lib.hid hb; have HC := Lib.hid hC
  clear hb hC
  go_wp2_with fail
  go_ret
  exact ⟨v, rfl, HC.out, HB.out⟩
theorem ofB_any (r : List JR) (A : Option Addr) (n cap B : Nat) (w : World) (h : JlRd w B A n r) (hB : B ≤ w.heap.size) (hn : n ≤ maxLen) (hg : GoodM (r.map JR.j)) :
    Calls Tryz.prog 109 #[.slice A n cap] w fun e w' => ∃ v l, e = .returned (.pointer (some ⟨w.heap.size, 0, none⟩)) ∧ TomeAt w' w.heap.size w.heap.size v l ∧ l.map JR.j = r.map JR.j ∧ Below w.heap.size w w' := by
  obtain ⟨h1, h2⟩ := GoodM.of (r.map JR.j) [] (by simpa using hg)
  refine (lawOf_any r A n cap B w h hB hn h1).mono fun e w' hh => ?_
  obtain ⟨he, ht⟩ := hh
  have hb := ht.below w ((Below.refl _ _).alloc (Nat.le_refl _) _) fun k hk => ⟨by omega, by omega⟩
  obtain ⟨v, l, k1, k2, _⟩ := ht
  rw [h2] at k2
  exact ⟨v, l, he, k1, by simpa using k2, hb⟩
theorem addL_lenS (C : List Acc) (a : Acc) : (addL C a).length ≤ C.length + 1 := by
  unfold addL
  split
  · unfold insA
    simp
    omega
  · omega
theorem addL_no {C : List Acc} {a : Acc} (h : addE C a ≠ 0) : addL C a = C := by unfold addL; rw [if_neg h]
/-- What Set gives. -/
def SetEnd (w : World) (e : Ending) (w' : World) : Prop :=
  ∃ cb bb Bc Bb vc vb C lb Ar cr Aj cj X, e = .returned (.tuple #[.pointer (some ⟨cb, 0, none⟩), .pointer (some ⟨bb, 0, none⟩), .slice Ar (List.length C) cr, .slice Aj (List.length X) cj, .bool true]) ∧
    ChartAt w' Bc cb vc C ∧ TomeAt w' Bb bb vb lb ∧ lb.map JR.j = X.map JR.j ∧ GoodM (X.map JR.j) ∧ List.length X ≤ 40 ∧ Rd w' w'.heap.size 3 Ar (List.length C) (accs C) ∧ JlRd w' w'.heap.size Aj (List.length X) X ∧ GoodA C ∧ List.length C ≤ 30 ∧ Below w.heap.size w w'

set_option maxRecDepth 100000 in
set_option maxHeartbeats 4000000 in
theorem trialSet_any (rows : List Acc) (l : List JR) (A1 A2 : Option Addr) (n1 n2 c1 c2 B : Nat) (w : World) (hr : Rd w B 3 A1 n1 (accs rows)) (h : JlRd w B A2 n2 l) (hB : B ≤ w.heap.size) (hn1 : n1 ≤ maxLen) (hn2 : n2 ≤ maxLen) :
    Calls Tryz.prog 32 #[.slice A1 n1 c1, .slice A2 n2 c2] w (SetEnd w) := by
  unfold maxLen at hn1
  have KF : Hid (∀ w1, Below w.heap.size w w1 → Calls Tryz.prog 111 #[.slice A2 n2 c2, .int .i64 40] w1 fun e w' => ∃ A' c' X, e = .returned (.slice A' (List.length X) c') ∧ JlRd w' w'.heap.size A' (List.length X) X ∧ GoodM (X.map JR.j) ∧ List.length X ≤ 40 ∧ List.length X ≤ n2 ∧ Below w1.heap.size w1 w') := fun w1 hb =>
    fitN_any 40 (by omega) l A2 n2 c2 B w1 (h.far hb hB) (Nat.le_trans hB hb.size) hn2
  have HR := Lib.hid (fun w1 (hb : Below w.heap.size w w1) => hr.far hb hB)
  clear hr h hn2
  go_enter Tryz.func32, Tryz.ntmps32
  go_wp2_with fail
  go_loopw [9, 10] (fun rv iv wr => ∃ (k : Nat) (C : List Acc) (A : Option Addr) (c : Nat), k ≤ n1 ∧ k ≤ 30 ∧ iv = .int .i64 k ∧ rv = .slice A C.length c ∧ C.length ≤ k ∧ Hid (GoodA C) ∧ wr.ownsRow w.heap.size 165 3 (.slice A C.length c) C.length (accs C) ∧ Below w.heap.size w wr) (fun _ iv _ => 30 - (intOf iv).toNat)
  case atStart => exact ⟨0, [], none, 0, Nat.zero_le _, by omega, rfl, rfl, Nat.le_refl _, GoodA.nil, World.ownsRow_nil _ _ _ _, Below.refl _ _⟩
  case round =>
    obtain ⟨k, C, A, c, hk, hk30, rfl, rfl, hCk, hg, hown, hbel⟩ := hrel
    have hzr := hbel.size
    have HBE := Lib.hid hbel
    have HO := Lib.hid hown
    by_cases hgo : k < n1 ∧ k < 30
    · obtain ⟨hlt, hlt30⟩ := hgo
      have hkI : (k : Int) < (n1 : Int) := by omega
      have hk30I : (k : Int) < 30 := by omega
      obtain ⟨ad, a, rfl, hb0, hx, p0, p1, p2⟩ := (HR.out wr hbel).acc hlt
      have ka := refAddAcc_any C a A C.length c w.heap.size wr hown hzr (by omega) hg.out
      unfold RefAdded at ka
      have KA := Lib.hid ka
      have hgA : Hid (GoodA (addL C a)) := hg.out.add a
      have hlA := addL_lenS C a
      clear ka hx hown hbel hb0
      have p1' := cell_behind (j := 1) p1 (by omega)
      have p2' := cell_behind (j := 2) p2 (by omega)
      have HEN : Hid (addE C a ≠ 0 → addL C a = C) := addL_no
      obtain ⟨C2, hC2⟩ : ∃ C2, addL C a = C2 := ⟨_, rfl⟩
      obtain ⟨E, hE⟩ : ∃ E, addE C a = E := ⟨_, rfl⟩
      rw [hC2, hE] at KA HEN
      rw [hC2] at hgA hlA
      clear hC2 hE p1 p2
      go_wp2_with fail
      refine KA.out.mono ?_
      rintro e w2 ⟨A3, c3, rfl, hown2, _, hb2⟩
      have HB2 := Lib.hid (HBE.out.trans (hb2.mono hzr))
      have HOo := Lib.hid (own_kept HO.out fun q hq _ => hb2.block q hq)
      have HO2 := Lib.hid hown2
      clear hown2 hb2 KA HO
      by_cases hE0 : E = 0
      · have hEb : (E == 0) = true := beq_iff_eq.2 hE0
        clear hE0 HEN
        go_wp2_with fail
        exact ⟨⟨k + 1, C2, A3, c3, by omega, by omega, by go_num, rfl, by omega, hgA, HO2.out, HB2.out⟩, by simp [intOf]; omega⟩
      · have hEb : (E == 0) = false := beq_eq_false_iff_ne.2 hE0
        clear hE0
        go_wp2_with fail
        exact ⟨⟨k + 1, C, A, c, by omega, by omega, by go_num, rfl, by omega, hg, HOo.out, HB2.out⟩, by simp [intOf]; omega⟩
    · have HGO := Lib.hid hgo
      have hC30 : C.length ≤ 30 := by omega
      have hrd : Rd wr wr.heap.size 3 A C.length (accs C) := rd_of_own hown
      have HRD := Lib.hid hrd
      have KF1 := Lib.hid (KF.out wr hbel)
      clear hown hbel hgo hrd KF HR
      rename World => wm
      have step : True := trivial
      by_cases hlt : k < n1
      · have hlt30 : ¬ k < 30 := fun h => HGO.out ⟨hlt, h⟩
        have hkI : (k : Int) < (n1 : Int) := by omega
        have hk30I : ¬ (k : Int) < 30 := by omega
        go_wp2_with fail
        refine KF1.out.mono ?_
        rintro e w3 ⟨A3, c3, X, rfl, hJ, hG, hX40, _, hb3⟩
        have HB3 := Lib.hid (HBE.out.trans (hb3.mono hzr))
        have hz3 := hb3.size
        have HJ := Lib.hid hJ; have HG := Lib.hid hG
        have hrd3 : Rd w3 wm.heap.size 3 A C.length (accs C) := HRD.out.below hb3
        have KM := Lib.hid (makeC_any C A C.length c wm.heap.size w3 hrd3 hz3 (by omega) hg.out)
        have HRD3 := Lib.hid hrd3
        clear hJ hG hb3 KF1 hrd3
        go_wp2_with fail
        refine KM.out.mono ?_
        rintro e w4 ⟨vc, rfl, hC, hb4⟩
        have HB4 := Lib.hid (HB3.out.trans (hb4.mono HB3.out.size))
        have hz4 := hb4.size
        have HCA := Lib.hid hC
        have hJ4 : JlRd w4 w3.heap.size A3 X.length X := HJ.out.far hb4 (Nat.le_refl _)
        have KO := Lib.hid (ofB_any X A3 X.length c3 w3.heap.size w4 hJ4 hz4 (by unfold maxLen; omega) HG.out)
        have HJ4 := Lib.hid hJ4
        have HRD4 := Lib.hid (HRD3.out.far hb4 hz3)
        clear hC hb4 hJ4 KM
        go_wp2_with fail
        refine KO.out.mono ?_
        rintro e w5 ⟨vb, lb, rfl, hT, hl, hb5⟩
        have HB5 := Lib.hid (HB4.out.trans (hb5.mono HB4.out.size))
        have hz5 := hb5.size
        have HTT := Lib.hid hT; have HLL := Lib.hid hl
        have HC5 := Lib.hid (HCA.out.below hb5)
        have HJ5 := Lib.hid ((HJ4.out.far hb5 hz4).wide (Nat.le_trans hz4 hz5))
        have HRD5 := Lib.hid ((HRD4.out.far hb5 (Nat.le_trans hz3 hz4)).wide (Nat.le_trans hz3 (Nat.le_trans hz4 hz5)))
        have HEND : Hid (SetEnd w (.returned (.tuple #[.pointer (some ⟨w3.heap.size, 0, none⟩), .pointer (some ⟨w4.heap.size, 0, none⟩), .slice A (List.length C) c, .slice A3 (List.length X) c3, .bool true])) w5) :=
          ⟨_, _, _, _, vc, vb, C, lb, A, c, A3, c3, X, rfl, HC5.out, HTT.out, HLL.out, HG.out, hX40, HRD5.out, HJ5.out, hg.out, hC30, HB5.out⟩
        clear hT hl hb5 KO
        go_wp2_with fail
        exact bodyPost_ret (v := .tuple #[.pointer (some ⟨w3.heap.size, 0, none⟩), .pointer (some ⟨w4.heap.size, 0, none⟩), .slice A (List.length C) c, .slice A3 (List.length X) c3, .bool true]) (by simp [results, Tryz.results32, go_sem]) rfl HEND.out
      · have hkI : ¬ (k : Int) < (n1 : Int) := by omega
        go_wp2_with fail
        refine KF1.out.mono ?_
        rintro e w3 ⟨A3, c3, X, rfl, hJ, hG, hX40, _, hb3⟩
        have HB3 := Lib.hid (HBE.out.trans (hb3.mono hzr))
        have hz3 := hb3.size
        have HJ := Lib.hid hJ; have HG := Lib.hid hG
        have hrd3 : Rd w3 wm.heap.size 3 A C.length (accs C) := HRD.out.below hb3
        have KM := Lib.hid (makeC_any C A C.length c wm.heap.size w3 hrd3 hz3 (by omega) hg.out)
        have HRD3 := Lib.hid hrd3
        clear hJ hG hb3 KF1 hrd3
        go_wp2_with fail
        refine KM.out.mono ?_
        rintro e w4 ⟨vc, rfl, hC, hb4⟩
        have HB4 := Lib.hid (HB3.out.trans (hb4.mono HB3.out.size))
        have hz4 := hb4.size
        have HCA := Lib.hid hC
        have hJ4 : JlRd w4 w3.heap.size A3 X.length X := HJ.out.far hb4 (Nat.le_refl _)
        have KO := Lib.hid (ofB_any X A3 X.length c3 w3.heap.size w4 hJ4 hz4 (by unfold maxLen; omega) HG.out)
        have HJ4 := Lib.hid hJ4
        have HRD4 := Lib.hid (HRD3.out.far hb4 hz3)
        clear hC hb4 hJ4 KM
        go_wp2_with fail
        refine KO.out.mono ?_
        rintro e w5 ⟨vb, lb, rfl, hT, hl, hb5⟩
        have HB5 := Lib.hid (HB4.out.trans (hb5.mono HB4.out.size))
        have hz5 := hb5.size
        have HTT := Lib.hid hT; have HLL := Lib.hid hl
        have HC5 := Lib.hid (HCA.out.below hb5)
        have HJ5 := Lib.hid ((HJ4.out.far hb5 hz4).wide (Nat.le_trans hz4 hz5))
        have HRD5 := Lib.hid ((HRD4.out.far hb5 (Nat.le_trans hz3 hz4)).wide (Nat.le_trans hz3 (Nat.le_trans hz4 hz5)))
        have HEND : Hid (SetEnd w (.returned (.tuple #[.pointer (some ⟨w3.heap.size, 0, none⟩), .pointer (some ⟨w4.heap.size, 0, none⟩), .slice A (List.length C) c, .slice A3 (List.length X) c3, .bool true])) w5) :=
          ⟨_, _, _, _, vc, vb, C, lb, A, c, A3, c3, X, rfl, HC5.out, HTT.out, HLL.out, HG.out, hX40, HRD5.out, HJ5.out, hg.out, hC30, HB5.out⟩
        clear hT hl hb5 KO
        go_wp2_with fail
        exact bodyPost_ret (v := .tuple #[.pointer (some ⟨w3.heap.size, 0, none⟩), .pointer (some ⟨w4.heap.size, 0, none⟩), .slice A (List.length C) c, .slice A3 (List.length X) c3, .bool true]) (by simp [results, Tryz.results32, go_sem]) rfl HEND.out
end Go.Proofs.YtjlokkjbdgcooaaGreat

/-
  Contract of the statements' Fit: which journals it takes.
-/
namespace Go.Proofs.YtjlokkjbdgcooaaGreat
open Go.RowKit

/-- A journal more, where it may be. -/
def stepF (m : Nat) (X : List Jrn) (j : Jrn) : List Jrn := if X.length < m ∧ j.lines.length ≤ 8 ∧ postE X j = 0 then putK Jrn.id X j else X
def fitF (m : Nat) (M : List Jrn) : List Jrn := M.foldl (stepF m) []
theorem foldF_step (m : Nat) {l : List JR} {k : Nat} {b : JR} (h : l[k]? = some b) : ((l.map JR.j).take (k + 1)).foldl (stepF m) [] = stepF m (((l.map JR.j).take k).foldl (stepF m) []) b.j := by
  obtain ⟨hk, rfl⟩ := List.getElem?_eq_some_iff.1 h
  rw [List.take_succ_eq_append_getElem (by simpa using hk), List.foldl_append]
  simp
theorem foldF_stay {m : Nat} {X : List Jrn} (h : m ≤ X.length) : ∀ M : List Jrn, M.foldl (stepF m) X = X
  | [] => rfl
  | j :: r => by
    rw [List.foldl_cons, show stepF m X j = X by unfold stepF; rw [if_neg fun h' => by omega]]
    exact foldF_stay h r
theorem foldF_full {m k : Nat} {M : List Jrn} (h : m ≤ ((M.take k).foldl (stepF m) []).length) : (M.take k).foldl (stepF m) [] = fitF m M := by
  have e : M.foldl (stepF m) [] = (M.drop k).foldl (stepF m) ((M.take k).foldl (stepF m) []) := by rw [← List.foldl_append, List.take_append_drop]
  unfold fitF
  rw [e, foldF_stay h]

set_option maxRecDepth 100000 in
set_option maxHeartbeats 4000000 in
theorem fitF_any (m : Nat) (hm : m ≤ 100) (l : List JR) (A : Option Addr) (n c B : Nat) (w : World) (h : JlRd w B A n l) (hB : B ≤ w.heap.size) (hn : n ≤ maxLen) :
    Calls Tryz.prog 111 #[.slice A n c, .int .i64 (m : Int)] w fun e w' => ∃ A' c' X, e = .returned (.slice A' X.length c') ∧ JlRd w' w'.heap.size A' X.length X ∧ GoodM (X.map JR.j) ∧ X.length ≤ m ∧ X.length ≤ n ∧ X.map JR.j = fitF m (l.map JR.j) ∧ Below w.heap.size w w' := by
  unfold maxLen at hn
  have HLL : Hid (l.length = n) := by have := h.rd.1; rw [jrs_len] at this; unfold Hid; omega
  have HJ := Lib.hid h
  clear h
  go_enter Tryz.func111, Tryz.ntmps111
  go_wp2_with fail
  go_loopw [5, 6] (fun ov iv wr => ∃ (k : Nat) (A' : Option Addr) (c' : Nat) (X : List JR), k ≤ n ∧ iv = .int .i64 k ∧ ov = .slice A' X.length c' ∧ JlRd wr wr.heap.size A' X.length X ∧ GoodM (X.map JR.j) ∧ X.length ≤ m ∧ X.length ≤ k ∧ Hid (X.map JR.j = ((l.map JR.j).take k).foldl (stepF m) []) ∧ Below w.heap.size w wr) (fun _ iv _ => n - (intOf iv).toNat)
  case atStart => exact ⟨0, none, 0, [], Nat.zero_le _, rfl, rfl, ⟨Rd.nil_, by simp, by simp, by simp⟩, GoodM.nil, by simp, by simp, rfl, Below.refl _ _⟩
  case round =>
    obtain ⟨k, A', c', X, hk, rfl, rfl, hX, hG, hX20, hXk, HFX, hbel⟩ := hrel
    have hzr := hbel.size
    by_cases hgo : k < n ∧ X.length < m
    · obtain ⟨hlt, hxl⟩ := hgo
      have hkn : (k : Int) < (n : Int) := by omega
      have hxI : (X.length : Int) < (m : Int) := by omega
      have hJ := HJ.out.far hbel hB
      obtain ⟨ad, b, rfl, hb1, hx, p1, p2, p3, p4, p5, p6⟩ := hJ.rd.jr hlt
      have hmem := List.mem_of_getElem? hx
      have hl63 := (HJ.out.size b hmem).2
      have HSTEP := Lib.hid (foldF_step m hx)
      unfold maxLen at hl63
      by_cases h8 : b.j.lines.length ≤ 8
      · have h8I : (b.j.lines.length : Int) ≤ 8 := by omega
        have KP := Lib.hid (refPost_any X b.j A' b.A X.length c' b.j.lines.length b.c _ _ wr hX.rd (Nat.le_refl _) (by omega) (hJ.lines b hmem) (by omega))
        have KQ : Hid (∀ w1, Below wr.heap.size wr w1 → Calls Tryz.prog 166 #[.slice A' X.length c', b.j.val b.A b.j.lines.length b.c] w1 fun e w' => ∃ v, e = .returned v ∧ PutEnd w1 X b.j v w') := fun w1 hb1 => refPut_any X b.j A' b.A X.length c' b.c wr.heap.size B w1 (hX.rd.far hb1 (Nat.le_refl _)) hb1.size (by omega) (rise_jr hG.rise) ((hJ.lines b hmem).far hb1 (by omega)) (by have := hb1.size; omega) (by omega)
        have HR2 : Hid (∀ w1, Below wr.heap.size wr w1 → Rd w1 B 6 (some ad) n (jrs l)) := fun w1 hb => hJ.rd.far hb (by omega)
        have HX2 : Hid (∀ w1, Below wr.heap.size wr w1 → JlRd w1 w1.heap.size A' X.length X) := fun w1 hb => (hX.far hb (Nat.le_refl _)).wide hb.size
        have HB2 : Hid (∀ w1, Below wr.heap.size wr w1 → Below w.heap.size w w1) := fun w1 hb => hbel.trans (hb.mono hzr)
        have HG := Lib.hid hG
        have HXB := Lib.hid hx
        have HPUT : Hid (∀ w1 w2 v, Below wr.heap.size wr w1 → PutEnd w1 X b.j v w2 → checkE b.j = 0 → ∃ A2 c2 A3 c3, v = .slice A3 (putK JR.id X ⟨b.j, A2, c2⟩).length c3 ∧ JlRd w2 w2.heap.size A3 (putK JR.id X ⟨b.j, A2, c2⟩).length (putK JR.id X ⟨b.j, A2, c2⟩) ∧ Below w1.heap.size w1 w2) := fun w1 w2 v hb hp hok => hp.jl (hX.far hb (Nat.le_refl _)) hb.size hok
        unfold Jrn.val at KP KQ
        clear hx hX hG hbel hJ hmem
        by_cases hP : postE (X.map JR.j) b.j = 0
        · rw [hP] at KP
          have HP := Lib.hid hP
          have hblt : ad.block < wr.heap.size := by omega
          clear hP
          go_wp2_with fail
          refine KP.out.mono ?_
          rintro e w1 ⟨rfl, hb1⟩
          obtain ⟨ad', b', had, hb1', hx', q1, q2, q3, q4, q5, q6⟩ := (HR2.out w1 hb1).jr hlt
          injection had with had
          subst had
          obtain rfl : b' = b := by have := HXB.out; rw [hx'] at this; injection this
          have HB1 := Lib.hid hb1
          clear hb1 hx' p1 p2 p3 p4 p5 p6
          go_wp2_with fail
          refine (KQ.out w1 HB1.out).mono ?_
          rintro e w2 ⟨v, rfl, hpe⟩
          obtain ⟨A2, c2, A3, c3, rfl, hj2, hb2⟩ := HPUT.out w1 w2 v HB1.out hpe (postE_zero HP.out).1
          have HJ2 := Lib.hid hj2
          have HB3 := Lib.hid (HB2.out w2 (HB1.out.trans (hb2.mono HB1.out.size)))
          have hlen2 : (putK JR.id X ⟨b'.j, A2, c2⟩).length ≤ m := by
            rw [putK_len (rise_jr HG.out.rise)]
            split <;> omega
          have hlen3 : (putK JR.id X ⟨b'.j, A2, c2⟩).length ≤ k + 1 := by
            rw [putK_len (rise_jr HG.out.rise)]
            split <;> omega
          have HL3 := Lib.hid hlen3
          have HL2 := Lib.hid hlen2
          clear hj2 hb2 hpe q1 q2 q3 q4 q5 q6 hlen2 hlen3
          generalize hY : putK JR.id X ⟨b'.j, A2, c2⟩ = Y at *
          have HY := Lib.hid hY
          clear hY
          go_wp2_with fail
          refine ⟨⟨k + 1, A3, c3, Y, by omega, by go_num, rfl, HJ2.out, ?_, HL2.out, HL3.out, ?_, HB3.out⟩, by simp [intOf]; omega⟩
          · rw [← HY.out, put_jr]
            exact HG.out.put HP.out
          · rw [Hid, HSTEP.out, ← HFX.out, ← HY.out, put_jr]
            unfold stepF
            rw [if_pos ⟨by rw [List.length_map]; exact hxl, h8, HP.out⟩]
        · have ht : (postE (X.map JR.j) b.j == 0) = false := by simpa using hP
          have HFN : Hid (X.map JR.j = ((l.map JR.j).take (k + 1)).foldl (stepF m) []) := by
            rw [Hid, HSTEP.out, ← HFX.out]
            unfold stepF
            rw [if_neg fun h => hP h.2.2]
          clear hP
          generalize postE (X.map JR.j) b.j = E at *
          go_wp2_with fail
          refine KP.out.mono ?_
          rintro e w1 ⟨rfl, hb1⟩
          have HB1 := Lib.hid hb1
          clear hb1 p1 p2 p3 p4 p5 p6
          go_wp2_with fail
          exact ⟨⟨k + 1, A', c', X, by omega, by go_num, rfl, HX2.out w1 HB1.out, HG.out, by omega, by omega, HFN, HB2.out w1 HB1.out⟩, by simp [intOf]; omega⟩
      · have h8I : ¬ (b.j.lines.length : Int) ≤ 8 := by omega
        have HFN : Hid (X.map JR.j = ((l.map JR.j).take (k + 1)).foldl (stepF m) []) := by
          rw [Hid, HSTEP.out, ← HFX.out]
          unfold stepF
          rw [if_neg fun h => h8 h.2.1]
        have HX := Lib.hid hX
        have HG := Lib.hid hG
        have HB := Lib.hid hbel
        clear hx hX hG hbel hJ hmem
        go_wp2_with fail
        exact ⟨⟨k + 1, A', c', X, by omega, by go_num, rfl, HX.out, HG.out, by omega, by omega, HFN, HB.out⟩, by simp [intOf]; omega⟩
    · have HX := Lib.hid hX
      have HG := Lib.hid hG
      have HB := Lib.hid hbel
      have HFE : Hid (X.map JR.j = fitF m (l.map JR.j)) := by
        rw [Hid, HFX.out]
        by_cases h1 : k < n
        · exact foldF_full (by rw [← HFX.out, List.length_map]; omega)
        · unfold fitF
          rw [List.take_of_length_le]
          have := HLL.out
          rw [List.length_map]
          omega
      clear hX hG hbel
      by_cases h1 : k < n
      · have hkn : (k : Int) < (n : Int) := by omega
        have hxI : ¬ (X.length : Int) < (m : Int) := by omega
        go_wp2_with fail
        go_ret
        exact ⟨A', c', X, rfl, HX.out, HG.out, by omega, by omega, HFE.out, HB.out⟩
      · have hkn : ¬ (k : Int) < (n : Int) := by omega
        go_wp2_with fail
        go_ret
        exact ⟨A', c', X, rfl, HX.out, HG.out, by omega, by omega, HFE.out, HB.out⟩
end Go.Proofs.YtjlokkjbdgcooaaGreat
