/-
  Contracts of slices.Clone over accounts, (*Chart).All, (*Chart).Kind.
-/
import Derived.Test.YtaliipcgekhepaaGreatChartGet
import Derived.Test.YtaliipcgekhepaaGreatChartClone
import Derived.Test.YtaliipcgekhepaaGreatChartAsked
namespace Go.Proofs.YtaliipcgekhepaaGreat
open Go.RowKit

set_option maxRecDepth 100000 in
theorem all_any (B c : Nat) (v : Value) (l : List Acc) (w : World) (h : ChartAt w B c v l) :
    Calls Tryz.prog 13 #[.pointer (some ⟨c, 0, none⟩)] w fun e w' => ∃ A' c', e = .returned (.slice A' l.length c') ∧ w'.ownsRow w.heap.size 34 3 (.slice A' l.length c') l.length (accs l) ∧ Below w.heap.size w w' := by
  have hc := h.cell
  obtain ⟨A, cap, rfl⟩ := h.form
  have kc := Lib.hid (clone_any B l.length cap A l w h.own (by have := h.good.len; omega))
  clear h
  go_enter Tryz.func13, Tryz.ntmps13
  go_wp2_with fail
  refine kc.out.mono ?_
  rintro e w' ⟨A', c', rfl, hown, hb⟩
  have HO := Lib.hid hown
  clear hown
  go_wp2
  go_ret
  exact ⟨A', c', rfl, HO.out, hb⟩

set_option maxRecDepth 100000 in
theorem all_nil (w : World) : Calls Tryz.prog 13 #[.pointer none] w fun e w' => e = .returned (.slice none 0 0) ∧ w = w' := by
  go_enter Tryz.func13, Tryz.ntmps13
  go_wp2
  go_ret
  exact ⟨rfl, rfl⟩
set_option maxRecDepth 100000 in
theorem kind_nil (A : Option Addr) (n c : Nat) (w : World) : Calls Tryz.prog 14 #[.pointer none, .slice A n c] w fun e w' => e = .returned (.slice none 0 0) ∧ w = w' := by
  go_enter Tryz.func14, Tryz.ntmps14
  go_wp2
  go_ret
  exact ⟨rfl, rfl⟩
set_option maxRecDepth 100000 in
theorem live_nil (A : Option Addr) (n c : Nat) (w : World) : Calls Tryz.prog 20 #[.pointer none, .slice A n c] w fun e w' => e = .returned (.int .i64 1) ∧ w = w' := by
  go_enter Tryz.func20, Tryz.ntmps20
  go_wp2
  go_ret
  exact ⟨rfl, rfl⟩
set_option maxRecDepth 100000 in
theorem add_nil (x k : Int) (w : World) : Calls Tryz.prog 9 #[.pointer none, .int .i64 x, .int .i64 k] w fun e w' => e = .returned (.int .i64 1) ∧ w = w' := by
  go_enter Tryz.func9, Tryz.ntmps9
  go_wp2
  go_ret
  exact ⟨rfl, rfl⟩
set_option maxRecDepth 100000 in
theorem retire_nil (x : Int) (w : World) : Calls Tryz.prog 11 #[.pointer none, .int .i64 x] w fun e w' => e = .returned (.int .i64 1) ∧ w = w' := by
  go_enter Tryz.func11, Tryz.ntmps11
  go_wp2
  go_ret
  exact ⟨rfl, rfl⟩

theorem kindL_yes {l : List Acc} {ks : List Int} {j : Nat} {a : Acc} (ha : l[j]? = some a) (h : ks.contains a.kind = true) : kindL (l.take (j + 1)) ks = kindL (l.take j) ks ++ [a.code] := by
  obtain ⟨hl, rfl⟩ := List.getElem?_eq_some_iff.1 ha
  unfold kindL
  rw [List.take_succ_eq_append_getElem hl, List.filter_append]
  simp only [List.filter_cons, List.filter_nil]
  rw [if_pos h, List.map_append]
  rfl
theorem kindL_no {l : List Acc} {ks : List Int} {j : Nat} {a : Acc} (ha : l[j]? = some a) (h : ks.contains a.kind = false) : kindL (l.take (j + 1)) ks = kindL (l.take j) ks := by
  obtain ⟨hl, rfl⟩ := List.getElem?_eq_some_iff.1 ha
  unfold kindL
  rw [List.take_succ_eq_append_getElem hl, List.filter_append]
  simp only [List.filter_cons, List.filter_nil]
  rw [if_neg (by rw [h]; simp), List.append_nil]
theorem kindL_len (l : List Acc) (ks : List Int) : (kindL l ks).length ≤ l.length := by
  unfold kindL
  rw [List.length_map]
  exact List.length_filter_le _ _

/-- What stands at the loop's head. w1: the world behind questionsOf. -/
def KindRel (w1 : World) (l : List Acc) (ks : List Int) (j : Nat) (lv : Value) (wr : World) : Prop :=
  ∃ A c, lv = .slice A (kindL (l.take j) ks).length c ∧ wr.ownsRow w1.heap.size 3 1 (.slice A (kindL (l.take j) ks).length c) (kindL (l.take j) ks).length (ints .i64 (kindL (l.take j) ks)) ∧ Below w1.heap.size w1 wr

set_option maxRecDepth 100000 in
set_option maxHeartbeats 2000000 in
theorem kind_any (B c : Nat) (v : Value) (l : List Acc) (ks : List Int) (A : Option Addr) (n cp B0 : Nat) (w : World) (h : ChartAt w B c v l) (hr : Rd w B0 1 A n (ints .i64 ks)) (hB : B0 ≤ w.heap.size) (hn : n ≤ 1000000) :
    Calls Tryz.prog 14 #[.pointer (some ⟨c, 0, none⟩), .slice A n cp] w fun e w' => ∃ A' c', e = .returned (.slice A' (kindL l ks).length c') ∧ w'.ownsRow w.heap.size 3 1 (.slice A' (kindL l ks).length c') (kindL l ks).length (ints .i64 (kindL l ks)) ∧ Below w.heap.size w w' := by
  obtain ⟨i0, hi0, hz0, hz1, hz2⟩ := info_parts infoInt
  have hI := Lib.hid hi0; have hZ0 := Lib.hid hz0; have hZ1 := Lib.hid hz1; have hZ2 := Lib.hid hz2
  clear hi0 hz0 hz1 hz2
  have HC := Lib.hid h
  have hclt := h.lt
  have hlen := h.good.len
  have kq := Lib.hid (questionsOf_any ks A n cp B0 w hr hB hn)
  have hal := askedTo_len ks 5
  have HAI := Lib.hid (askedTo_in ks 5 (Nat.le_refl _))
  obtain ⟨A0, cap, rfl⟩ := h.form
  clear h hr
  go_enter Tryz.func14, Tryz.ntmps14
  go_wp2_with fail
  refine kq.out.mono ?_
  rintro e w1 ⟨A1, c1, rfl, hq1, hb1⟩
  have hz1 := hb1.size
  have HQ1 := Lib.hid (rd_of_own hq1)
  have HB1 := Lib.hid hb1
  have hC1 := HC.out.below hb1
  have hcc := hC1.cell
  have HC1 := Lib.hid hC1
  clear hq1 hb1 hC1
  generalize (askedTo ks 5).length = m at *
  go_wp2_with fail
  go_loopw [6, 18] (fun lv iv wr => ∃ j : Nat, j ≤ l.length ∧ iv = .int .i64 j ∧ KindRel w1 l ks j lv wr) (fun _ iv _ => l.length - (intOf iv).toNat)
  case atStart => exact ⟨0, Nat.zero_le _, rfl, none, 0, rfl, World.ownsRow_nil _ _ _ _, Below.refl _ _⟩
  case round =>
    obtain ⟨j, hj, rfl, A2, c2, rfl, hown, hbel⟩ := hrel
    have hzr := hbel.size
    have hkl : (kindL (l.take j) ks).length ≤ 9999 := by have := kindL_len (l.take j) ks; simp at this; omega
    have HO := Lib.hid hown
    have HB := Lib.hid hbel
    have HCr := Lib.hid (HC1.out.below hbel)
    have HQr := Lib.hid (HQ1.out.below hbel)
    clear hown hbel
    generalize hM : (kindL (l.take j) ks).length = M at *
    have HM := Lib.hid hM
    clear hM
    by_cases hlt : j < l.length
    · have hg : l[j]? = some l[j] := List.getElem?_eq_getElem hlt
      obtain ⟨g, cap', he, hjl, hgl, _, hc0, hc1, hc2, _⟩ := HCr.out.at hg
      injection he with he _ he2
      subst he he2
      have hk := okRow_t (HC.out.good.2 l[j] (List.getElem_mem hlt))
      have HAS := Lib.hid (asked_any ks l[j].kind (by omega) (by omega))
      have HYES := Lib.hid (kindL_yes (ks := ks) hg)
      have HNO := Lib.hid (kindL_no (ks := ks) hg)
      clear hg hk
      generalize l[j] = a at *
      obtain ⟨x1, x2, x3⟩ := a
      have hjI : (j : Int) < (l.length : Int) := by omega
      have ky := fun (w2 : World) (hb : Below wr.heap.size wr w2) => saysYes_any (askedTo ks 5) x2 A1 m c1 w1.heap.size w2 (HQr.out.below (hb.mono hzr)) HAI.out (by omega)
      rw [show ((askedTo ks 5).any fun q => x2 == (q : Int)) = ks.contains x2 from HAS.out] at ky
      have KY := Lib.hid ky
      clear ky
      generalize hT : ks.contains x2 = t at *
      go_wp2_with fail
      refine (KY.out _ (by first | exact ((Below.refl _ _).alloc (Nat.le_refl _) _) | exact ((((Below.refl _ _).alloc (Nat.le_refl _) _).setCell (by simp) _).setCell (by simp) _).setCell (by simp) _)).mono ?_
      rintro e w2 ⟨rfl, rfl⟩
      cases t
      · go_wp2
        have HN2 : Hid (kindL (l.take (j + 1)) ks = kindL (l.take j) ks) := HNO.out (by first | exact hT | trivial)
        refine ⟨⟨j + 1, by omega, by go_num, A2, c2, ?_, ?_, ?_⟩, by simp [intOf]; omega⟩
        · rw [HN2.out, HM.out]
        · rw [HN2.out, HM.out]
          exact own_kept HO.out fun q hq _ => Below.heap_alloc _ _ _ hq
        · exact HB.out.alloc (by omega) _
      · have HN2 : Hid (kindL (l.take (j + 1)) ks = kindL (l.take j) ks ++ [x1]) := HYES.out (by first | exact hT | trivial)
        obtain ⟨v3, w3, hrun, hown3, hg3, _⟩ := append_fresh (P := Tryz.prog) (w := (wr.alloc (.cells #[.int .i64 x1, .int .i64 x2, .bool x3] 34)).alloc (.cells #[.int .i64 x1] 3)) (ty := 24) (c := 1) infoInt Tryz.underlying24 rfl (by omega) w1.heap.size _ M _ (own_kept HO.out fun q hq _ => (Below.heap_alloc _ _ _ (by simp; omega)).trans (Below.heap_alloc _ _ _ hq)) (rd_one (wr.alloc (.cells #[.int .i64 x1, .int .i64 x2, .bool x3] 34)) (.int .i64 x1) 3) (by simp [Value.oneCell']) (by unfold maxLen; omega) (by omega) (by simp; omega)
        obtain ⟨A3, c3, rfl⟩ := own_form hown3
        rw [show (wr.alloc (.cells #[.int .i64 x1, .int .i64 x2, .bool x3] 34)).heap.size = wr.heap.size + 1 by simp] at hrun
        have HR3 : Hid ((Builtin.append_ #[24, 24] 24 #[.slice A2 M c2, .slice (some ⟨wr.heap.size + 1, 0, none⟩) 1 1]).run Tryz.prog ((wr.alloc (.cells #[.int .i64 x1, .int .i64 x2, .bool x3] 34)).alloc (.cells #[.int .i64 x1] 3)) = .ok (.slice A3 (M + 1) c3) w3) := hrun
        have HB3 : Hid (Below w1.heap.size w1 w3) := ((HB.out.alloc (by omega) _).alloc (by simp; omega) _).grown hg3 (by simp; omega) (own_ge HO.out)
        have HO3 := Lib.hid hown3
        clear hT hrun hown3 hg3
        go_wp2_with (at_builtin; refine wpList_append_run rfl _ _ _ rfl _ _ _ _ rfl rfl HR3.out ?_)
        refine ⟨⟨j + 1, by omega, by go_num, A3, c3, ?_, ?_, HB3.out⟩, by simp [intOf]; omega⟩
        · rw [HN2.out, List.length_append, HM.out]; rfl
        · rw [HN2.out, List.length_append, HM.out]
          have := HO3.out
          simpa [ints] using this
    · obtain rfl : j = l.length := by omega
      go_wp2
      go_ret
      have HE : Hid (kindL (l.take l.length) ks = kindL l ks) := by show kindL _ ks = _; rw [List.take_length]
      refine ⟨A2, c2, ?_, ?_, ?_⟩
      · rw [← HE.out, HM.out]; rfl
      · rw [← HE.out, HM.out]; exact own_base HO.out (by omega)
      · exact HB1.out.trans (HB.out.mono hz1)
end Go.Proofs.YtaliipcgekhepaaGreat
