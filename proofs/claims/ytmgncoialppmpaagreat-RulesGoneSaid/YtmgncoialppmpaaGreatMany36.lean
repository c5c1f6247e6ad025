/-
  Several texts, one behind the other: what each holds stands ahead of it.
-/
import Derived.Test.YtmgncoialppmpaaGreatRulesMake7
import Derived.Test.YtmgncoialppmpaaGreatMany35

/-
  Contract of variorumlaw7's alive.
-/
namespace Go.Proofs.YtmgncoialppmpaaGreat
open Go.RowKit

/-- The book alone is written. -/
theorem parts_book {w w' : World} {c g b B : Nat} {C : List Acc} {G : List Trio} {l : List JR} {v : Value} {N : List Jrn} (hP : PartsAt w c g b C G l) (hT : TomeAt w B b v l) (hto : TomeTo w B b v l N w') : ∃ l', l'.map JR.j = N ∧ PartsAt w' c g b C G l' := by
  obtain ⟨⟨B1, v1, h1⟩, ⟨B2, v2, h2⟩, _⟩ := hP
  obtain ⟨v', l', k1, k2, k3, _⟩ := hto
  refine ⟨l', k2, ⟨⟨B1, v1, h1.kept fun k hk hi => k3.block k hk ?_⟩, ⟨B2, v2, h2.kept fun k hk hi => k3.block k hk ?_⟩, ⟨B, v', k1⟩⟩⟩
  · rintro (rfl | e)
    · rcases hi with rfl | e2
      · have := h1.blk.symm.trans hT.blk
        simp at this
      · exact own_ne h1.own hT.blk (by decide) e2
    · rcases hi with rfl | e2
      · exact own_ne hT.own h1.blk (by decide) e
      · exact own_own_ne h1.own hT.own (by decide) k e2 e
  · rintro (rfl | e)
    · rcases hi with rfl | e2
      · have := h2.blk.symm.trans hT.blk
        simp at this
      · exact own_ne h2.own hT.blk (by decide) e2
    · rcases hi with rfl | e2
      · exact own_ne hT.own h2.blk (by decide) e
      · exact own_own_ne h2.own hT.own (by decide) k e2 e

def alC : List Acc := [⟨1, 1, false⟩, ⟨2, 4, false⟩]
def alG : List Trio := [⟨1, 5, 1⟩]
def al7 (p : Int) : Jrn := ⟨1, 1, p, ⟨#[]⟩, [⟨1, 5, 0⟩, ⟨2, -5, 0⟩], false⟩
theorem al7a : (alC.take 30).foldl addL [] = alC ∧ (alG.take 30).foldl gateStep [] = alG := ⟨by kernel_rfl, by kernel_rfl⟩
theorem al7b : rPostE alC alG [] (al7 5) = 6 ∧ rPostE alC alG [] (al7 6) = 0 := ⟨by kernel_rfl, by kernel_rfl⟩
theorem al7c : postE [] (al7 6) = 0 ∧ postL [] (al7 6) = [al7 6] := ⟨by kernel_rfl, by kernel_rfl⟩
theorem al7d : sumM 1 1 [al7 6] = 5 ∧ rVoidE alG [al7 6] 1 = 0 := ⟨by kernel_rfl, by kernel_rfl⟩
theorem rd_accs (w : World) : Rd (w.alloc (.cells #[.int .i64 1, .int .i64 1, .bool false, .int .i64 2, .int .i64 4, .bool false] 112)) (w.heap.size + 1) 3 (some ⟨w.heap.size, 0, none⟩) 2 (accs alC) :=
  ⟨rfl, fun _ => ⟨_, rfl, Nat.lt_succ_self _, cells_new w [.int .i64 1, .int .i64 1, .bool false, .int .i64 2, .int .i64 4, .bool false] 112⟩⟩
theorem rd_trios (w : World) : Rd (w.alloc (.cells #[.int .i64 1, .int .i64 5, .int .i64 1] 113)) (w.heap.size + 1) 3 (some ⟨w.heap.size, 0, none⟩) 1 (trios alG) :=
  ⟨rfl, fun _ => ⟨_, rfl, Nat.lt_succ_self _, cells_new w [.int .i64 1, .int .i64 5, .int .i64 1] 113⟩⟩
theorem rd_lins2 (w : World) : Rd (w.alloc (.cells #[.int .i64 1, .int .i64 5, .int .i64 0, .int .i64 2, .int .i64 (-5), .int .i64 0] 64)) (w.heap.size + 1) 3 (some ⟨w.heap.size, 0, none⟩) 2 (lins [⟨1, 5, 0⟩, ⟨2, -5, 0⟩]) :=
  ⟨rfl, fun _ => ⟨_, rfl, Nat.lt_succ_self _, cells_new w [.int .i64 1, .int .i64 5, .int .i64 0, .int .i64 2, .int .i64 (-5), .int .i64 0] 64⟩⟩
theorem five_of {w W : World} {o1 o2 o4 o5 : Obj} (h : ((((w.alloc o1).alloc o2).alloc (.cells #[.int .i64 1, .int .i64 5, .int .i64 0, .int .i64 2, .int .i64 (-5), .int .i64 0] 64)).alloc o4).alloc o5 = W) : W.heap[w.heap.size]? = some o1 ∧ Rd W W.heap.size 3 (some ⟨w.heap.size + 1 + 1, 0, none⟩) 2 (lins [⟨1, 5, 0⟩, ⟨2, -5, 0⟩]) ∧ W.heap[w.heap.size + 1 + 1 + 1 + 1]? = some o5 ∧ Below w.heap.size w W ∧ W.heap.size = w.heap.size + 1 + 1 + 1 + 1 + 1 := by
  obtain ⟨V1, h1⟩ : ∃ V, w.alloc o1 = V := ⟨_, rfl⟩
  obtain ⟨V2, h2⟩ : ∃ V, V1.alloc o2 = V := ⟨_, rfl⟩
  obtain ⟨V3, h3⟩ : ∃ V, V2.alloc (.cells #[.int .i64 1, .int .i64 5, .int .i64 0, .int .i64 2, .int .i64 (-5), .int .i64 0] 64) = V := ⟨_, rfl⟩
  obtain ⟨V4, h4⟩ : ∃ V, V3.alloc o4 = V := ⟨_, rfl⟩
  have h5 : V4.alloc o5 = W := by rw [← h4, ← h3, ← h2, ← h1]; exact h
  clear h
  have z1 : V1.heap.size = w.heap.size + 1 := by rw [← h1]; simp
  have z2 : V2.heap.size = V1.heap.size + 1 := by rw [← h2]; simp
  have z3 : V3.heap.size = V2.heap.size + 1 := by rw [← h3]; simp
  have z4 : V4.heap.size = V3.heap.size + 1 := by rw [← h4]; simp
  have z5 : W.heap.size = V4.heap.size + 1 := by rw [← h5]; simp
  have b1 : Below w.heap.size w V1 := by rw [← h1]; exact (Below.refl _ _).alloc (Nat.le_refl _) _
  have b2 : Below V1.heap.size V1 V2 := by rw [← h2]; exact (Below.refl _ _).alloc (Nat.le_refl _) _
  have b3 : Below V2.heap.size V2 V3 := by rw [← h3]; exact (Below.refl _ _).alloc (Nat.le_refl _) _
  have b4 : Below V3.heap.size V3 V4 := by rw [← h4]; exact (Below.refl _ _).alloc (Nat.le_refl _) _
  have b5 : Below V4.heap.size V4 W := by rw [← h5]; exact (Below.refl _ _).alloc (Nat.le_refl _) _
  have b35 : Below V3.heap.size V3 W := b4.trans (b5.mono (by omega))
  have b15 : Below V1.heap.size V1 W := b2.trans ((b3.mono (by omega)).trans (b35.mono (by omega)))
  have q1 : V1.heap[w.heap.size]? = some o1 := by rw [← h1]; exact heap_new w _
  have q5 : W.heap[V4.heap.size]? = some o5 := by rw [← h5]; exact heap_new V4 _
  have hr := rd_lins2 V2
  rw [h3, show V2.heap.size = w.heap.size + 1 + 1 by omega] at hr
  refine ⟨(b15.block _ (by omega)).trans q1, (hr.far b35 (by omega)).wide (by omega), ?_, b1.trans (b15.mono (by omega)), by omega⟩
  rw [show w.heap.size + 1 + 1 + 1 + 1 = V4.heap.size by omega]
  exact q5
set_option maxRecDepth 100000 in
set_option maxHeartbeats 4000000 in
theorem alive7_any (w : World) : Calls Tryz.prog 10 #[] w fun e w' => e = .returned (.bool true) ∧ Below w.heap.size w w' := by
  obtain ⟨W1, hW1⟩ : ∃ W1, w.alloc (.cells #[.int .i64 1, .int .i64 1, .bool false, .int .i64 2, .int .i64 4, .bool false] 112) = W1 := ⟨_, rfl⟩
  obtain ⟨W2, hW2⟩ : ∃ W2, W1.alloc (.cells #[.int .i64 1, .int .i64 5, .int .i64 1] 113) = W2 := ⟨_, rfl⟩
  have hz1 : W1.heap.size = w.heap.size + 1 := by rw [← hW1]; simp
  have hz2 : W2.heap.size = w.heap.size + 1 + 1 := by rw [← hW2]; simp [hz1]
  have hb1 : Below w.heap.size w W1 := by rw [← hW1]; exact (Below.refl _ _).alloc (Nat.le_refl _) _
  have hb2 : Below W1.heap.size W1 W2 := by rw [← hW2]; exact (Below.refl _ _).alloc (Nat.le_refl _) _
  have hr1 : Rd W1 (w.heap.size + 1) 3 (some ⟨w.heap.size, 0, none⟩) 2 (accs alC) := by rw [← hW1]; exact rd_accs w
  have hr2 : Rd W2 (w.heap.size + 1 + 1) 3 (some ⟨w.heap.size + 1, 0, none⟩) 1 (trios alG) := by
    have := rd_trios W1
    rw [hW2, hz1] at this
    exact this
  have hr1' := hr1.far hb2 (by omega)
  have HB2 : Hid (Below w.heap.size w W2) := hb1.trans (hb2.mono (by omega))
  have KM : Hid (∀ o, Calls Tryz.prog 11 #[.agg #[.slice (some ⟨w.heap.size, 0, none⟩) 2 2, .slice (some ⟨w.heap.size + 1, 0, none⟩) 1 1, .slice none 0 0]] (W2.alloc o) (MakeEnd alC alG 0 (W2.alloc o))) := fun o => by
    have hbo : Below W2.heap.size W2 (W2.alloc o) := (Below.refl _ _).alloc (Nat.le_refl _) o
    have hzo : (W2.alloc o).heap.size = w.heap.size + 1 + 1 + 1 := by simp [hz2]
    exact make_any alC alG [] _ _ _ 2 1 0 2 1 0 (W2.alloc o) ((hr1'.far hbo (by omega)).wide (by omega)) ((hr2.far hbo (by omega)).wide (by omega)) ⟨Rd.nil_, by simp, by simp, by simp⟩ (by unfold maxLen; omega) (by unfold maxLen; omega) (by unfold maxLen; omega)
  have HW1 := Lib.hid hW1; have HW2 := Lib.hid hW2
  have HZ2 := Lib.hid hz2
  clear hW1 hW2 hb1 hb2 hr1 hr2 hr1' hz1 hz2
  go_enter Tryz.func10, Tryz.ntmps10
  go_wp2_with fail
  rw [HW1.out, HW2.out]
  refine (KM.out _).mono fun e w9 he => ?_
  obtain ⟨c, g, b, C, G, l, r, Ac, cc, Ag, cg, Ab, cb, rfl, hM⟩ := he
  have hl : l.map JR.j = [] := by
    have h1 := congrArg List.length hM.same
    have h2 := hM.lenN
    simp only [List.length_map] at h1
    have h3 : l = [] := List.eq_nil_of_length_eq_zero (by omega)
    rw [h3]; rfl
  obtain rfl : C = alC := hM.eqC.trans al7a.1
  obtain rfl : G = alG := hM.eqG.trans al7a.2
  obtain ⟨Bt, vt, hT, hBt⟩ := hM.new
  have HP := Lib.hid hM.parts
  have HT := Lib.hid hT
  have HL := Lib.hid hl
  have HB := Lib.hid hM.bel
  have HBT : Hid (w.heap.size ≤ Bt) := by
    refine Nat.le_trans ?_ hBt
    have := HZ2.out
    have h2 : (W2.alloc (.cells #[.slice (some ⟨w.heap.size, 0, none⟩) 2 2, .slice (some ⟨w.heap.size + 1, 0, none⟩) 1 1, .slice none 0 0] 26)).heap.size = W2.heap.size + 1 := by simp
    omega
  clear hM hl hT hBt
  have hz9 := HB.out.size
  have hzo : w.heap.size + 1 + 1 + 1 ≤ w9.heap.size := by
    have := HZ2.out
    have h2 : (W2.alloc (.cells #[.slice (some ⟨w.heap.size, 0, none⟩) 2 2, .slice (some ⟨w.heap.size + 1, 0, none⟩) 1 1, .slice none 0 0] 26)).heap.size = W2.heap.size + 1 := by simp
    omega
  have hbw : Below w.heap.size w w9 := HB2.out.trans (((Below.refl _ _).alloc (by have := HZ2.out; omega) _).trans (HB.out.mono (by simp; have := HZ2.out; omega)))
  obtain ⟨W5, hW5⟩ : ∃ W5, ((((w9.alloc (.cells #[.pointer (some ⟨c, 0, none⟩), .pointer (some ⟨g, 0, none⟩), .pointer (some ⟨b, 0, none⟩)] 35)).alloc (.cells #[.slice Ac alC.length cc, .slice Ag alG.length cg, .slice Ab r.length cb] 38)).alloc (.cells #[.int .i64 1, .int .i64 5, .int .i64 0, .int .i64 2, .int .i64 (-5), .int .i64 0] 64)).alloc (.cells #[.int .i64 1, .int .i64 1, .int .i64 5, .string ⟨#[]⟩, .slice (some ⟨w9.heap.size + 1 + 1, 0, none⟩) 2 2, .bool false] 29)).alloc (.cells #[.int .i64 1, .int .i64 1, .int .i64 6, .string ⟨#[]⟩, .slice (some ⟨w9.heap.size + 1 + 1, 0, none⟩) 2 2, .bool false] 29) = W5 := ⟨_, rfl⟩
  obtain ⟨hq5, hr5, hk5, hb5, hz5⟩ := five_of hW5
  have hj5 : ∀ p, JrIn W5 ⟨al7 p, some ⟨w9.heap.size + 1 + 1, 0, none⟩, 2⟩ := fun p => ⟨hr5, by simp, by show 2 ≤ 1000; omega, by show 0 ≤ maxLen; unfold maxLen; omega⟩
  have hP5 := HP.out.below hb5
  have kp5 : Hid (Calls Tryz.prog 15 #[.agg #[.pointer (some ⟨c, 0, none⟩), .pointer (some ⟨g, 0, none⟩), .pointer (some ⟨b, 0, none⟩)], .agg #[.int .i64 1, .int .i64 1, .int .i64 5, .string ⟨#[]⟩, .slice (some ⟨w9.heap.size + 1 + 1, 0, none⟩) 2 2, .bool false]] W5 fun e w' => e = .returned (.int .i64 6) ∧ Below W5.heap.size W5 w') :=
    Lib.hid ((rulesPost_any c g b alC alG l ⟨al7 5, some ⟨w9.heap.size + 1 + 1, 0, none⟩, 2⟩ W5 hP5 (hj5 5)).mono fun e w' h => ⟨h.1.trans (by rw [HL.out]; exact congrArg (fun x => Ending.returned (Value.int .i64 x)) al7b.1), h.2⟩)
  have HBW := Lib.hid hbw
  have HW5 := Lib.hid hW5
  have HQ5 := Lib.hid hq5; have HK5 := Lib.hid hk5; have HB5 := Lib.hid hb5; have HZ5 := Lib.hid hz5
  have HJ5 := Lib.hid hj5; have HP5 := Lib.hid hP5; have HZO := Lib.hid hzo
  clear hz9 hzo hbw hW5 hq5 hr5 hk5 hb5 hz5 hj5 hP5 HB
  go_wp2_with fail
  rw [HW5.out]
  refine kp5.out.mono ?_
  rintro e w10 ⟨rfl, hb10⟩
  have hq10 := (hb10.block _ (lt_of_blk HQ5.out)).trans HQ5.out
  have hk10 := (hb10.block _ (lt_of_blk HK5.out)).trans HK5.out
  have y0 := cell_of hq10 0
  have y1 := cell_of hq10 1
  have y2 := cell_of hq10 2
  have j0 := cell_of hk10 0
  have j1 := cell_of hk10 1
  have j2 := cell_of hk10 2
  have j3 := cell_of hk10 3
  have j4 := cell_of hk10 4
  have j5 := cell_of hk10 5
  simp only [List.getElem?_toArray, List.getElem?_cons_zero, List.getElem?_cons_succ] at y0 y1 y2 j0 j1 j2 j3 j4 j5
  have kp6 : Hid (Calls Tryz.prog 15 #[.agg #[.pointer (some ⟨c, 0, none⟩), .pointer (some ⟨g, 0, none⟩), .pointer (some ⟨b, 0, none⟩)], .agg #[.int .i64 1, .int .i64 1, .int .i64 6, .string ⟨#[]⟩, .slice (some ⟨w9.heap.size + 1 + 1, 0, none⟩) 2 2, .bool false]] w10 fun e w' => e = .returned (.int .i64 0) ∧ Below w10.heap.size w10 w') :=
    Lib.hid ((rulesPost_any c g b alC alG l ⟨al7 6, some ⟨w9.heap.size + 1 + 1, 0, none⟩, 2⟩ w10 (HP5.out.below hb10) ((HJ5.out 6).below hb10)).mono fun e w' h => ⟨h.1.trans (by rw [HL.out]; exact congrArg (fun x => Ending.returned (Value.int .i64 x)) al7b.2), h.2⟩)
  have HB10 : Hid (Below W5.heap.size W5 w10) := Lib.hid hb10
  have HQ10 := Lib.hid hq10; have HK10 := Lib.hid hk10
  clear hb10 hq10 hk10 kp5
  go_wp2_with fail
  refine kp6.out.mono ?_
  rintro e w11 ⟨rfl, hb11⟩
  have hq11 := (hb11.block _ (lt_of_blk HQ10.out)).trans HQ10.out
  have hk11 := (hb11.block _ (lt_of_blk HK10.out)).trans HK10.out
  have HB11 : Hid (Below W5.heap.size W5 w11) := HB10.out.trans (hb11.mono HB10.out.size)
  clear y0 y1 y2 j0 j1 j2 j3 j4 j5 hb11 kp6
  have y0 := cell_of hq11 0
  have y1 := cell_of hq11 1
  have y2 := cell_of hq11 2
  have j0 := cell_of hk11 0
  have j1 := cell_of hk11 1
  have j2 := cell_of hk11 2
  have j3 := cell_of hk11 3
  have j4 := cell_of hk11 4
  have j5 := cell_of hk11 5
  simp only [List.getElem?_toArray, List.getElem?_cons_zero, List.getElem?_cons_succ] at y0 y1 y2 j0 j1 j2 j3 j4 j5
  have hT11 : TomeAt w11 Bt b vt l := HT.out.below (HB5.out.trans (HB11.out.mono HB5.out.size))
  have hP11 : PartsAt w11 c g b alC alG l := HP.out.below (HB5.out.trans (HB11.out.mono HB5.out.size))
  have hJ11 := (HJ5.out 6).below HB11.out
  have kb : Hid (Calls Tryz.prog 26 #[.pointer (some ⟨b, 0, none⟩), .agg #[.int .i64 1, .int .i64 1, .int .i64 6, .string ⟨#[]⟩, .slice (some ⟨w9.heap.size + 1 + 1, 0, none⟩) 2 2, .bool false]] w11 fun e w' => e = .returned (.int .i64 0) ∧ TomeTo w11 Bt b vt l [al7 6] w') :=
    Lib.hid ((post_any Bt b vt l (al7 6) (some ⟨w9.heap.size + 1 + 1, 0, none⟩) 2 w11.heap.size w11 hT11 hJ11.rd (Nat.le_refl _) (by simp) (by show 2 ≤ maxLen; unfold maxLen; omega) hJ11.ref).mono fun e w' h => by
      obtain ⟨h1, h2⟩ := h
      rw [HL.out, al7c.1] at h1
      rw [HL.out, al7c.2] at h2
      exact ⟨h1, h2⟩)
  have HQ11 := Lib.hid hq11; have HT11 := Lib.hid hT11; have HP11 := Lib.hid hP11
  clear hq11 hk11 hT11 hP11 hJ11
  go_wp2_with fail
  refine kb.out.mono ?_
  rintro e w12 ⟨rfl, hto⟩
  obtain ⟨l2, hl2, hP12⟩ := parts_book HP11.out HT11.out hto
  obtain ⟨v3, l3, hT12, hl3, hbut, _⟩ := hto
  have hq12 := (hbut.block _ (lt_of_blk HQ11.out) (by
    rintro (h | h)
    · have := HT.out.lt
      omega
    · exact own_ne HT11.out.own HQ11.out (by decide) h)).trans HQ11.out
  have HB12 : Hid (Below w.heap.size w w12) := HBW.out.trans (((HB5.out.trans (HB11.out.mono HB5.out.size)).mono (by have := HZO.out; omega)).trans (hbut.below (fun k _ hk => by
    have := HBT.out
    rcases hk with rfl | h
    · have := HT.out.low; omega
    · have := own_ge HT11.out.own k h; omega) (by have := HZO.out; have := HB5.out.size; have := HB11.out.size; omega)))
  have ks : Hid (Calls Tryz.prog 22 #[.agg #[.pointer (some ⟨c, 0, none⟩), .pointer (some ⟨g, 0, none⟩), .pointer (some ⟨b, 0, none⟩)], .int .i64 1, .int .i64 1] w12 fun e w' => e = .returned (.int .i64 5) ∧ Below w12.heap.size w12 w') :=
    Lib.hid ((sum_any (.pointer (some ⟨c, 0, none⟩)) (.pointer (some ⟨g, 0, none⟩)) Bt b v3 l3 1 1 w12 hT12 (by unfold in64; omega) (by unfold in64; omega)).mono fun e w' h => by
      obtain ⟨h1, h2⟩ := h
      rw [hl3, al7d.1] at h1
      exact ⟨h1, h2⟩)
  have HQ12 := Lib.hid hq12; have HP12 := Lib.hid hP12; have HL2 := Lib.hid hl2
  clear y0 y1 y2 j0 j1 j2 j3 j4 j5 kb hbut hT12 hl3 hq12 hP12 hl2
  have y0 := cell_of HQ12.out 0
  have y1 := cell_of HQ12.out 1
  have y2 := cell_of HQ12.out 2
  simp only [List.getElem?_toArray, List.getElem?_cons_zero, List.getElem?_cons_succ] at y0 y1 y2
  go_wp2_with fail
  refine ks.out.mono ?_
  rintro e w13 ⟨rfl, hb13⟩
  have hq13 := (hb13.block _ (lt_of_blk HQ12.out)).trans HQ12.out
  have kv : Hid (Calls Tryz.prog 19 #[.agg #[.pointer (some ⟨c, 0, none⟩), .pointer (some ⟨g, 0, none⟩), .pointer (some ⟨b, 0, none⟩)], .int .i64 1] w13 fun e w' => e = .returned (.int .i64 0) ∧ Below w13.heap.size w13 w') :=
    Lib.hid ((rulesVoid_any c g b alC alG l2 1 w13 (HP12.out.below hb13)).mono fun e w' h => by
      obtain ⟨h1, h2⟩ := h
      rw [HL2.out, al7d.2] at h1
      exact ⟨h1, h2⟩)
  have HB13 : Hid (Below w.heap.size w w13) := HB12.out.trans (hb13.mono HB12.out.size)
  clear y0 y1 y2 hb13 ks
  have y0 := cell_of hq13 0
  have y1 := cell_of hq13 1
  have y2 := cell_of hq13 2
  simp only [List.getElem?_toArray, List.getElem?_cons_zero, List.getElem?_cons_succ] at y0 y1 y2
  clear hq13
  go_wp2_with fail
  refine kv.out.mono ?_
  rintro e w14 ⟨rfl, hb14⟩
  have HB14 : Hid (Below w.heap.size w w14) := HB13.out.trans (hb14.mono HB13.out.size)
  clear y0 y1 y2 hb14 kv
  go_wp2_with fail
  go_ret
  exact ⟨rfl, HB14.out⟩
end Go.Proofs.YtmgncoialppmpaaGreat

/-
  Contract of World.Light (variorumlaw7).
-/
namespace Go.Proofs.YtmgncoialppmpaaGreat
open Go.RowKit
/-- Light answers some bool, and writes nothing. -/
def LightEnd (w : World) (e : Ending) (w' : World) : Prop := (∃ b, e = .returned (.bool b)) ∧ Below w.heap.size w w'
set_option maxRecDepth 100000 in
set_option maxHeartbeats 2000000 in
theorem light_any (cv gv : Value) (r : List JR) (A : Option Addr) (n c B : Nat) (w : World) (h : JlRd w B A n r) (hB : B ≤ w.heap.size) (hn : n ≤ maxLen) :
    Calls Tryz.prog 9 #[.agg #[cv, gv, .slice A n c]] w (LightEnd w) := by
  obtain ⟨W1, hW1⟩ : ∃ W1, w.alloc (.cells #[cv, gv, .slice A n c] 26) = W1 := ⟨_, rfl⟩
  have hb1 : Below w.heap.size w W1 := by rw [← hW1]; exact (Below.refl _ _).alloc (Nat.le_refl _) _
  have hx1 : W1.heap[w.heap.size]? = some (.cells #[cv, gv, .slice A n c] 26 (0, 0)) := by rw [← hW1]; exact heap_new w _
  have h1 := h.far hb1 hB
  have x2 := cell_of hx1 2
  simp only [List.getElem?_toArray, List.getElem?_cons_zero, List.getElem?_cons_succ] at x2
  unfold maxLen at hn
  have HW1 := Lib.hid hW1; have HJ := Lib.hid h1; have HB1 := Lib.hid hb1
  clear h hx1 hb1 h1 hW1
  go_enter Tryz.func9, Tryz.ntmps9
  go_wp2_with fail
  go_loopw [3, 4] (fun sv iv wr => ∃ (k s : Nat), k ≤ n ∧ iv = .int .i64 k ∧ sv = .int .i64 s ∧ s ≤ 2031 ∧ wr = W1) (fun _ iv _ => n - (intOf iv).toNat)
  case atStart => exact ⟨0, 0, Nat.zero_le _, rfl, rfl, by omega, HW1.out⟩
  case round =>
    obtain ⟨k, s, hk, rfl, rfl, hs, rfl⟩ := hrel
    by_cases hgo : k < n ∧ s ≤ 2000
    · obtain ⟨hlt, hsl⟩ := hgo
      have hkn : (k : Int) < (n : Int) := by omega
      have hsI : (s : Int) ≤ 2000 := by omega
      obtain ⟨ad, b, rfl, hb1, hx, p1, p2, p3, p4, p5, p6⟩ := HJ.out.rd.jr hlt
      have hmem := List.mem_of_getElem? hx
      obtain ⟨hrl, hll⟩ := HJ.out.size b hmem
      unfold maxLen at hrl hll
      clear hx hmem
      by_cases h1 : b.j.lines.length ≤ 30
      · have h1I : ¬ (b.j.lines.length : Int) > 30 := by omega
        by_cases h2 : b.j.ref.size ≤ 60
        · have h2I : ¬ (b.j.ref.size : Int) > 60 := by omega
          go_wp2_with fail
          exact ⟨⟨k + 1, s + (1 + b.j.lines.length), by omega, by go_num, by go_num, by omega, trivial⟩, by simp [intOf]; omega⟩
        · have h2I : (b.j.ref.size : Int) > 60 := by omega
          go_wp2_with fail
          go_ret
          exact ⟨⟨_, rfl⟩, HB1.out⟩
      · have h1I : (b.j.lines.length : Int) > 30 := by omega
        go_wp2_with fail
        go_ret
        exact ⟨⟨_, rfl⟩, HB1.out⟩
    · by_cases h1 : k < n
      · have hkn : (k : Int) < (n : Int) := by omega
        have hsI : ¬ (s : Int) ≤ 2000 := by omega
        go_wp2_with fail
        go_ret
        exact ⟨⟨_, rfl⟩, HB1.out⟩
      · have hkn : ¬ (k : Int) < (n : Int) := by omega
        go_wp2_with fail
        go_ret
        exact ⟨⟨_, rfl⟩, HB1.out⟩
end Go.Proofs.YtmgncoialppmpaaGreat
