/-
  The walk of the statement EntryParts.
-/
-- HOLE3: obtain ⟨j0, A0, n0, c0, rfl, q0, r0, s0⟩ := argJrn hf0
-- exact entryParts_walk j0 A0 n0 c0 a1 a2 a3 a4 a5 a6 W G q0.rd
import Derived.Test.YtlcflbncifecoaaDoorPartsRest2
import Derived.Test.YtlcflbncifecoaaDoorRefCopy
import Derived.Test.YtlcflbncifecoaaDoorEntrySmall
import Derived.Test.YtlcflbncifecoaaDoorEntryAlive
import Derived.Test.YtlcflbncifecoaaDoorArgJrn
namespace Go.Proofs.YtlcflbncifecoaaDoor
open Go.RowKit Go.Sort

set_option maxRecDepth 100000 in
set_option maxHeartbeats 4000000 in
theorem entryParts_walk (j : Jrn) (A : Option Addr) (n c : Nat) (id ent per : Int) (ref : ByteArray) (a p : Int) (w : World) (G : Glob w) (h : Rd w w.heap.size 3 A n (lins j.lines)) :
    Calls Tryd.prog 7 #[j.val A n c, .int .i64 id, .int .i64 ent, .int .i64 per, .string ref, .int .i64 a, .int .i64 p] w fun e w' => e = .returned (.bool true) ∧ Below w.heap.size w w' := by
  have HL := Lib.hid h.lins_len
  obtain ⟨W2, hW2⟩ : ∃ W2, (w.alloc (.cells #[.int .i64 j.id, .int .i64 j.ent, .int .i64 j.per, .string j.ref, .slice A n c, .bool j.void] 24)).alloc (.cells #[.int .i64 j.id, .int .i64 j.ent, .int .i64 j.per, .string j.ref, .slice A n c, .bool j.void] 24) = W2 := ⟨_, rfl⟩
  have HW2 := Lib.hid hW2
  have hb2 : Below w.heap.size w W2 := by rw [← hW2]; exact ((Below.refl _ _).alloc (Nat.le_refl _) _).alloc (by simp) _
  have hjb : JAt W2 w.heap.size j A n c := by
    rw [← hW2]
    exact (Below.heap_alloc _ _ _ (by simp)).trans (heap_new w _)
  have ks := small_two j A n c w (.cells #[.int .i64 j.id, .int .i64 j.ent, .int .i64 j.per, .string j.ref, .slice A n c, .bool j.void] 24) _ rfl
  rw [hW2] at ks
  have KS := Lib.hid ks
  have ka := Lib.hid (fun w1 (hb : Below W2.heap.size W2 w1) => alive_any w1 ((G.below hb2).below hb))
  have HB2 := Lib.hid hb2
  have HJB := Lib.hid hjb
  cases hsm : smallB j n
  · rw [hsm] at KS
    clear hW2 hb2 hjb ks h
    unfold Jrn.val
    go_enter Tryd.func7, Tryd.ntmps7
    go_wp2_with fail
    rw [HW2.out]
    refine KS.out.mono ?_
    rintro e w1 ⟨rfl, rfl⟩
    go_wp2_with fail
    refine (ka.out _ (Below.refl _ _)).mono ?_
    rintro e w2 ⟨rfl, hb3⟩
    have HB3 := Lib.hid hb3
    clear hb3
    go_wp2_with fail
    go_ret
    exact ⟨rfl, HB2.out.trans (HB3.out.mono HB2.out.size)⟩
  rw [hsm] at KS
  have hn30 : n ≤ 30 := by
    unfold smallB at hsm
    rw [Bool.and_eq_true, decide_eq_true_eq, decide_eq_true_eq] at hsm
    exact hsm.2
  by_cases hrs : 60 < ref.size
  · have hrsI : (60 : Int) < (ref.size : Int) := by omega
    clear hW2 hb2 hjb ks h
    unfold Jrn.val
    go_enter Tryd.func7, Tryd.ntmps7
    go_wp2_with fail
    rw [HW2.out]
    refine KS.out.mono ?_
    rintro e w1 ⟨rfl, rfl⟩
    go_wp2_with fail
    refine (ka.out _ (Below.refl _ _)).mono ?_
    rintro e w2 ⟨rfl, hb3⟩
    have HB3 := Lib.hid hb3
    clear hb3
    go_wp2_with fail
    go_ret
    exact ⟨rfl, HB2.out.trans (HB3.out.mono HB2.out.size)⟩
  have hrsI : ¬ (60 : Int) < (ref.size : Int) := by omega
  have kc := refCheck_any j A n c w.heap.size W2 (h.far hb2 (Nat.le_refl _)) hb2.size
  obtain ⟨b0, b1, b2, b3, b4, b5⟩ := six_cells hjb
  by_cases hE : checkE j = 0
  rotate_left
  · have t1 : (checkE j != 0) = true := by simpa using hE
    generalize checkE j = E at *
    have KC := Lib.hid kc
    clear hW2 hb2 hjb ks h kc
    unfold Jrn.val at *
    go_enter Tryd.func7, Tryd.ntmps7
    go_wp2_with fail
    rw [HW2.out]
    refine KS.out.mono ?_
    rintro e w1 ⟨rfl, rfl⟩
    go_wp2_with fail
    refine KC.out.mono ?_
    rintro e w2 ⟨rfl, hb3⟩
    have ka2 := Lib.hid (ka.out _ hb3)
    have HB3 := Lib.hid hb3
    clear hb3
    go_wp2_with fail
    refine ka2.out.mono ?_
    rintro e w3 ⟨rfl, hb4⟩
    have HB4 := Lib.hid hb4
    clear hb4
    go_wp2_with fail
    go_ret
    exact ⟨rfl, HB2.out.trans ((HB3.out.trans (HB4.out.mono HB3.out.size)).mono HB2.out.size)⟩
  · rw [hE] at kc
    have hlen := linesOk_len (checkE_ok hE).2.1
    rw [HL.out] at hlen
    have HFIN := Lib.hid (check_part hE id ent per ref a p)
    have HRD := Lib.hid (fun w1 (hb : Below W2.heap.size W2 w1) => h.far (hb2.trans (hb.mono hb2.size)) (Nat.le_refl _))
    have KC := Lib.hid kc
    clear hW2 hb2 hjb ks h kc hE
    unfold Jrn.val at *
    go_enter Tryd.func7, Tryd.ntmps7
    go_wp2_with fail
    rw [HW2.out]
    refine KS.out.mono ?_
    rintro e w1 ⟨rfl, rfl⟩
    go_wp2_with fail
    refine KC.out.mono ?_
    rintro e w3 ⟨rfl, hb3⟩
    clear b0 b1 b2 b3 b4 b5
    have ka2 := Lib.hid (ka.out _ hb3)
    have HB3 := Lib.hid hb3
    clear hb3 ka KS KC HW2
    go_wp2_with fail
    refine ka2.out.mono ?_
    rintro e w4 ⟨rfl, hb4⟩
    have hb24 : Below W2.heap.size W2 w4 := HB3.out.trans (hb4.mono HB3.out.size)
    have hj4 : JAt w4 w.heap.size j A n c := (hb24.block _ (lt_of_blk HJB.out)).trans HJB.out
    obtain ⟨b0, b1, b2, b3, b4, b5⟩ := six_cells hj4
    have HB4 := Lib.hid hb24
    clear hb24 hj4 hb4 ka2 HB3
    go_wp2_with fail
    clear b0 b1 b2 b3 b4 b5
    refine (refCopy_any j A n c w.heap.size w4 (HRD.out w4 HB4.out) (Nat.le_trans HB2.out.size HB4.out.size) (by omega)).mono ?_
    rintro e w5 ⟨A5, c5, rfl, hown5, hb5⟩
    obtain ⟨g, cap, hv, hBg, hltg⟩ := hown5.form (by omega)
    obtain rfl : A5 = some ⟨g, 0, none⟩ := by injection hv
    have HBW5 : Hid (Below w.heap.size w w5) := HB2.out.trans ((HB4.out.trans (hb5.mono HB4.out.size)).mono HB2.out.size)
    have HO5 := Lib.hid hown5
    have HG : Hid (w4.heap.size ≤ g ∧ g < w5.heap.size) := ⟨hBg, hltg⟩
    clear hown5 hb5 hv hBg hltg
    go_wp2_with fail
    rename_i K hK
    obtain ⟨W6, hW6⟩ : ∃ W6, w5.alloc (.cells #[.int .i64 id, .int .i64 ent, .int .i64 per, .string ref, .slice (some ⟨g, 0, none⟩) n c5, .bool j.void] 24) = W6 := ⟨_, rfl⟩
    rw [hW6]
    have hb56 : Below w5.heap.size w5 W6 := by rw [← hW6]; exact (Below.refl _ _).alloc (Nat.le_refl _) _
    have hx6 : JAt W6 w5.heap.size (partJ j id ent per ref a p) (some ⟨g, 0, none⟩) n c5 := by rw [← hW6]; exact heap_new w5 _
    have hown6 := own_kept HO5.out fun q hq _ => hb56.block q hq
    obtain ⟨xb, hxb⟩ : ∃ xb, w5.heap.size = xb := ⟨_, rfl⟩
    rw [hxb] at hx6 ⊢
    have hgx : g < xb := by rw [← hxb]; exact HG.out.2
    obtain ⟨x, r, hxr⟩ : ∃ x r, j.lines = x :: r := by
      have := HL.out
      cases hq : j.lines with
      | nil => rw [hq] at this; simp at this; omega
      | cons x r => exact ⟨x, r, rfl⟩
    have hset : ((lins j.lines).set 0 (.int .i64 a)).set 2 (.int .i64 p) = lins (partJ j id ent per ref a p).lines ∧ ((lins j.lines).set 2 (.int .i64 p)).set 0 (.int .i64 a) = lins (partJ j id ent per ref a p).lines := by
      unfold partJ
      dsimp only
      rw [hxr]
      exact ⟨rfl, rfl⟩
    have q0 : W6.cell? ⟨g, 0, none⟩ = some (.int .i64 x.acct) := own_cell hown6 (by rw [hxr]; rfl)
    have q2 : W6.cell? ⟨g, 2, none⟩ = some (.int .i64 x.part) := own_cell hown6 (by rw [hxr]; rfl)
    have f0 := own_warm hown6 0
    have f2 := own_warm hown6 2
    have x4 := cell_of hx6 4
    simp only [List.getElem?_toArray, List.getElem?_cons_zero, List.getElem?_cons_succ] at x4
    have hBW6 : Below w.heap.size w W6 := HBW5.out.trans (hb56.mono HBW5.out.size)
    have hgw : w.heap.size ≤ g := Nat.le_trans (Nat.le_trans HB2.out.size HB4.out.size) HG.out.1
    have END : ∀ w7, (w7 = (W6.drew.setCell ⟨g, 0, none⟩ (.int .i64 a)).setCell ⟨g, 2, none⟩ (.int .i64 p) ∨ w7 = (W6.drew.setCell ⟨g, 2, none⟩ (.int .i64 p)).setCell ⟨g, 0, none⟩ (.int .i64 a)) → JAt w7 xb (partJ j id ent per ref a p) (some ⟨g, 0, none⟩) n c5 ∧ Rd w7 w7.heap.size 3 (some ⟨g, 0, none⟩) n (lins (partJ j id ent per ref a p).lines) ∧ Below w.heap.size w w7 := by
      have hxd : JAt W6.drew xb (partJ j id ent per ref a p) (some ⟨g, 0, none⟩) n c5 := hx6
      have hod := own_kept (w' := W6.drew) hown6 fun q _ _ => rfl
      have hbd : Below w.heap.size w W6.drew := hBW6.drew
      have hs : ∀ (u : World) (i : Nat) (v : Value), (u.setCell ⟨g, i, none⟩ v).heap[xb]? = u.heap[xb]? := fun u i v => Below.heap_setCell _ _ _ _ (by show xb ≠ g; omega)
      rintro w7 (rfl | rfl)
      · refine ⟨(hs _ _ _).trans ((hs _ _ _).trans hxd), ?_, (hbd.setCell (p := ⟨g, 0, none⟩) hgw _).setCell (p := ⟨g, 2, none⟩) hgw _⟩
        have := own_set1 (k := 2) (own_set1 (k := 0) hod (.int .i64 a)) (.int .i64 p)
        rw [hset.1] at this
        exact rd_of_own this
      · refine ⟨(hs _ _ _).trans ((hs _ _ _).trans hxd), ?_, (hbd.setCell (p := ⟨g, 2, none⟩) hgw _).setCell (p := ⟨g, 0, none⟩) hgw _⟩
        have := own_set1 (k := 0) (own_set1 (k := 2) hod (.int .i64 p)) (.int .i64 a)
        rw [hset.2] at this
        exact rd_of_own this
    have HEND := Lib.hid END
    have REST : ∀ w7, (w7 = (W6.drew.setCell ⟨g, 0, none⟩ (.int .i64 a)).setCell ⟨g, 2, none⟩ (.int .i64 p) ∨ w7 = (W6.drew.setCell ⟨g, 2, none⟩ (.int .i64 p)).setCell ⟨g, 0, none⟩ (.int .i64 a)) → ∀ (u0 u7 u8 u9 u10 u11 u12 u13 u16 u17 u18 u19 u20 u21 u22 u23 u24 u25 u26 u27 u28 u29 u30 u31 u32 u33 u34 u35 u36 u37 u38 u39 u40 u41 u42 u43 u44 u45 u46 u47 u48 u49 u50 u51 u52 u53 u54 u55 u56 u57 u58 u59 u60 u61 u62 u63 u64 u65 u66 u67 u68 u69 u70 u71 u72 u73 u74 u75 u76 u77 u78 u79 u80 u81 u82 u83 u84 u85 u86 u87 u88 u89 u90 u91 u92 u93 u94 u95 u96 u97 u98 u99 u100 u101 u102 u103 u104 u105 u106 u107 u108 u109 u110 u111 u112 u113 u114 u115 u116 u117 u118 u119 u120 u121 u122 u123 u124 u125 u126 u127 u128 u129 u130 u131 u132 u133 u134 u135 u136 u137 u138 u139 u140 u141 u142 u143 u144 u145 u146 u147 u148 u149 u150 u151 u152 u153 u154 u155 u156 u157 u158 u159 u160 u161 u162 u163 u164 u165 u166 u167 u168 u169 u170 : Value), K ⟨#[u0, .int .i64 id, .int .i64 ent, .int .i64 per, .string ref, .int .i64 a, .int .i64 p, u7, u8, u9, u10, u11, u12, u13, .bool false, .pointer (some ⟨xb, 0, none⟩), u16, u17, u18, u19, u20, u21, u22, u23, u24, u25, u26, u27, u28, u29, u30, u31, u32, u33, u34, u35, u36, u37, u38, u39, u40, u41, u42, u43, u44, u45, u46, u47, u48, u49, u50, u51, u52, u53, u54, u55, u56, u57, u58, u59, u60, u61, u62, u63, u64, u65, u66, u67, u68, u69, u70, u71, u72, u73, u74, u75, u76, u77, u78, u79, u80, u81, u82, u83, u84, u85, u86, u87, u88, u89, u90, u91, u92, u93, u94, u95, u96, u97, u98, u99, u100, u101, u102, u103, u104, u105, u106, u107, u108, u109, u110, u111, u112, u113, u114, u115, u116, u117, u118, u119, u120, u121, u122, u123, u124, u125, u126, u127, u128, u129, u130, u131, u132, u133, u134, u135, u136, u137, u138, u139, u140, u141, u142, u143, u144, u145, u146, u147, u148, u149, u150, u151, u152, u153, u154, u155, u156, u157, u158, u159, u160, u161, u162, u163, u164, u165, u166, u167, u168, u169, u170], []⟩ w7 := by
      intro w7 h7 u0 u7 u8 u9 u10 u11 u12 u13 u16 u17 u18 u19 u20 u21 u22 u23 u24 u25 u26 u27 u28 u29 u30 u31 u32 u33 u34 u35 u36 u37 u38 u39 u40 u41 u42 u43 u44 u45 u46 u47 u48 u49 u50 u51 u52 u53 u54 u55 u56 u57 u58 u59 u60 u61 u62 u63 u64 u65 u66 u67 u68 u69 u70 u71 u72 u73 u74 u75 u76 u77 u78 u79 u80 u81 u82 u83 u84 u85 u86 u87 u88 u89 u90 u91 u92 u93 u94 u95 u96 u97 u98 u99 u100 u101 u102 u103 u104 u105 u106 u107 u108 u109 u110 u111 u112 u113 u114 u115 u116 u117 u118 u119 u120 u121 u122 u123 u124 u125 u126 u127 u128 u129 u130 u131 u132 u133 u134 u135 u136 u137 u138 u139 u140 u141 u142 u143 u144 u145 u146 u147 u148 u149 u150 u151 u152 u153 u154 u155 u156 u157 u158 u159 u160 u161 u162 u163 u164 u165 u166 u167 u168 u169 u170
      obtain ⟨e1, e2, e3⟩ := HEND.out w7 h7
      refine hK _ _ ?_
      exact pa6_any _ _ _ _ _ _ _ _ _ _ _ _ _ _ _ _ _ _ _ _ _ _ _ _ _ _ _ _ _ _ _ _ _ _ _ _ _ _ _ _ _ _ _ _ _ _ _ _ _ _ _ _ _ _ _ _ _ _ _ _ _ _ _ _ _ _ _ _ _ _ _ _ _ _ _ _ _ _ _ _ _ _ _ _ _ _ _ _ _ _ _ _ _ _ _ _ _ _ _ _ _ _ _ _ _ _ _ _ _ _ _ _ _ _ _ _ _ _ _ _ _ _ _ _ _ _ _ _ _ _ _ _ _ _ _ _ _ _ _ _ _ _ _ _ _ _ _ _ _ _ _ _ _ _ _ _ _ _ _ _ _ _ _ (partJ j id ent per ref a p) (some ⟨g, 0, none⟩) n c5 xb w7.heap.size a p false w w7 e1 e2 (Nat.le_refl _) hn30 (by omega) (by show ref.size ≤ 60; omega) (by have := HFIN.out; rw [← headL_drop j.lines a p] at this; exact this) e3
    have HREST := Lib.hid REST
    have hn0 : 0 < n := by omega
    have hgI : xb < W6.heap.size := lt_of_blk hx6
    have hgI2 : g < W6.heap.size := by omega
    clear REST hK END HEND HFIN hset hown6 hx6 hBW6 hb56 hW6 hxb HO5 HG HBW5 HRD hxr HL HJB HB2 HB4
    go_region_law (fail)
    all_goals go_simp
    all_goals first | exact HREST.out _ (.inl rfl) _ _ _ _ _ _ _ _ _ _ _ _ _ _ _ _ _ _ _ _ _ _ _ _ _ _ _ _ _ _ _ _ _ _ _ _ _ _ _ _ _ _ _ _ _ _ _ _ _ _ _ _ _ _ _ _ _ _ _ _ _ _ _ _ _ _ _ _ _ _ _ _ _ _ _ _ _ _ _ _ _ _ _ _ _ _ _ _ _ _ _ _ _ _ _ _ _ _ _ _ _ _ _ _ _ _ _ _ _ _ _ _ _ _ _ _ _ _ _ _ _ _ _ _ _ _ _ _ _ _ _ _ _ _ _ _ _ _ _ _ _ _ _ _ _ _ _ _ _ _ _ _ _ _ _ _ _ _ _ _ _ _ _ | exact HREST.out _ (.inr rfl) _ _ _ _ _ _ _ _ _ _ _ _ _ _ _ _ _ _ _ _ _ _ _ _ _ _ _ _ _ _ _ _ _ _ _ _ _ _ _ _ _ _ _ _ _ _ _ _ _ _ _ _ _ _ _ _ _ _ _ _ _ _ _ _ _ _ _ _ _ _ _ _ _ _ _ _ _ _ _ _ _ _ _ _ _ _ _ _ _ _ _ _ _ _ _ _ _ _ _ _ _ _ _ _ _ _ _ _ _ _ _ _ _ _ _ _ _ _ _ _ _ _ _ _ _ _ _ _ _ _ _ _ _ _ _ _ _ _ _ _ _ _ _ _ _ _ _ _ _ _ _ _ _ _ _ _ _ _ _ _ _ _ _
end Go.Proofs.YtlcflbncifecoaaDoor
