/-
  The statement PlanTells.
-/
-- WIT0: .agg #[.int .i64 0, .int .i64 0, .int .i64 0, .int .i64 0, .int .i64 0, .int .i64 0, .int .i64 0, .int .i64 0, .int .i64 0, .slice none 0 0, .slice none 0 0, .int .i64 0]
-- HOLE2: obtain ⟨fuel0, hf0⟩ := h0
-- obtain ⟨t0, rfl, q0, _⟩ := argTpl hf0
-- exact planTells_walk t0 a1 a2 W q0
import Derived.Test.YtjlokkjbdgcooaaGreatMany22
import Derived.Test.YtjlokkjbdgcooaaGreatMany23
import Derived.Test.YtjlokkjbdgcooaaGreatRefMake
import Derived.Test.YtjlokkjbdgcooaaGreatMany33
import Derived.Test.YtjlokkjbdgcooaaGreatMany20
import Derived.Test.YtjlokkjbdgcooaaGreatMany31
import Derived.BigQuiet
import Derived.Deep.CutRange
namespace Go.Proofs.YtjlokkjbdgcooaaGreat
open Mo
open Go.RowKit Go.Sort

theorem tpl_newT (w : World) (t : Tpl) (B : Nat) (hB : w.heap.size = B) : Rd (w.alloc (.cells t.cells.toArray 24)) (w.alloc (.cells t.cells.toArray 24)).heap.size 12 (some ⟨B, 0, none⟩) 1 (tpls [t]) := hB ▸ tpl_one w t

/-- What Make told, in one form. -/
theorem mkEnd_is {w w' : World} {ok : Bool} {js : List Jrn} {e : Ending} (h : MkEnd w ok js e w') : ∃ A c l E, e = .returned (.tuple #[.slice A (List.length l) c, .int .i64 E]) ∧ OwnJl w' w.heap.size A (List.length l) c l ∧ (ok = false → l = [] ∧ E = 1) ∧ (ok = true → l.map JR.j = js ∧ E = 0) ∧ Below w.heap.size w w' := by
  obtain ⟨hb, ⟨h1, rfl⟩ | ⟨h1, A, c, l, rfl, h2, h3⟩⟩ := h
  · exact ⟨none, 0, [], 1, rfl, ⟨World.ownsRow_nil _ _ _ _, fun a ha => (by cases ha)⟩, fun _ => ⟨rfl, rfl⟩, fun h => (by rw [h1] at h; cases h), hb⟩
  · exact ⟨A, c, l, 0, rfl, h3, fun h => (by rw [h1] at h; cases h), fun _ => ⟨h2, rfl⟩, hb⟩
theorem rmkEnd_is {w w' : World} {ok : Bool} {js : List Jrn} {e : Ending} (h : RMkEnd w ok js e w') : ∃ A c l, e = .returned (.tuple #[.slice A (List.length l) c, .bool ok]) ∧ OwnJl w' w.heap.size A (List.length l) c l ∧ (ok = false → l = []) ∧ (ok = true → l.map JR.j = js) ∧ Below w.heap.size w w' := by
  obtain ⟨hb, ⟨h1, rfl⟩ | ⟨h1, A, c, l, rfl, h2, h3⟩⟩ := h
  · exact ⟨none, 0, [], by rw [h1]; rfl, ⟨World.ownsRow_nil _ _ _ _, fun a ha => (by cases ha)⟩, fun _ => rfl, fun h => (by rw [h1] at h; cases h), hb⟩
  · exact ⟨A, c, l, by rw [h1], h3, fun h => (by rw [h1] at h; cases h), fun _ => h2, hb⟩
theorem OwnJl.only {S : List TypeId} {w w' : World} {B n c : Nat} {A : Option Addr} {l : List JR} (h : OwnJl w B A n c l) (ho : Only S w w') (h1 : ¬ 111 ∈ S) (h2 : ¬ 113 ∈ S) : OwnJl w' B A n c l := ⟨ho.own h.own h1, fun a ha => ho.own (h.lines a ha) h2⟩
theorem mkB_ok {t : Tpl} {per id : Int} (h : mkB t per id = true) : ∀ j ∈ mkL t per id, checkE j = 0 := by
  unfold mkB at h
  rw [Bool.and_eq_true, Bool.not_eq_true', List.any_eq_false] at h
  intro j hj
  have := h.2 j hj
  simpa using this
theorem mkL_le (t : Tpl) (per id : Int) : (mkL t per id).length ≤ 2 := by
  unfold mkL
  split
  · unfold accL
    split <;> simp
  · simp
theorem jl_sizes {t : Tpl} {per id : Int} {l : List JR} (hk : mkB t per id = true) (h : l.map JR.j = mkL t per id) : (∀ a ∈ l, a.j.ref.size ≤ maxLen ∧ a.j.lines.length ≤ 8) ∧ l.length ≤ 2 := by
  refine ⟨fun a ha => ?_, ?_⟩
  · have h1 := mkB_ok hk a.j (by rw [← h]; exact List.mem_map.2 ⟨a, ha, rfl⟩)
    exact ⟨(checkE_max h1).1, (checkE_len h1).1⟩
  · have := congrArg List.length h
    rw [List.length_map] at this
    have := mkL_le t per id
    omega

set_option maxRecDepth 100000 in
set_option maxHeartbeats 32000000 in
theorem planTells_walk (t : Tpl) (per id : Int) (w : World) (h : TplIn w t) : Calls Tryz.prog 3 #[.agg t.cells.toArray, .int .i64 per, .int .i64 id] w fun e w' => e = .returned (.bool true) ∧ Below w.heap.size w w' := by
  obtain ⟨W, hW⟩ : ∃ W, w.alloc (.cells t.cells.toArray 24) = W := ⟨_, rfl⟩
  have hb : Below w.heap.size w W := by rw [← hW]; exact (Below.refl _ _).alloc (Nat.le_refl _) _
  have hx : TplAt W w.heap.size t := by rw [← hW]; exact heap_new w _
  have hz : W.heap.size = w.heap.size + 1 := by rw [← hW]; simp
  obtain ⟨W2, hW2⟩ : ∃ W2, W.alloc (.cells t.cells.toArray 24) = W2 := ⟨_, rfl⟩
  have hb2 : Below W.heap.size W W2 := by rw [← hW2]; exact (Below.refl _ _).alloc (Nat.le_refl _) _
  have hrd := tpl_newT W t _ hz
  rw [hW2] at hrd
  have HB2 : Hid (Below w.heap.size w W2) := hb.trans (hb2.mono hb.size)
  have HIN : Hid (∀ w1, Below w.heap.size w w1 → TplIn w1 t) := fun w1 h1 => h.below h1
  have KS := Lib.hid (small_any [t] _ 1 1 W2 hrd fun u hu => by
    have : u = t := by simpa using hu
    subst this
    exact HIN.out _ HB2.out)
  have HX2 : Hid (∀ w', Below W2.heap.size W2 w' → TplAt w' w.heap.size t) := fun w' h => (hx.below hb2).below h
  have HW : Hid ((w.alloc (.cells t.cells.toArray 24)).alloc (.cells t.cells.toArray 24) = W2) := by unfold Hid; rw [hW, hW2]
  have HTG : Hid (∀ w1, Below w.heap.size w w1 → Rd w1 w.heap.size 1 t.At t.tg.length (ints .i64 t.tg) ∧ Rd w1 w.heap.size 1 t.Aw t.wt.length (ints .i64 t.wt)) := fun w1 h1 => ⟨h.tg.below h1, h.wt.below h1⟩
  have KA : Hid (∀ w1, Calls Tryz.prog 9 #[] w1 fun e w' => e = .returned (.bool true) ∧ Below w1.heap.size w1 w') := alive9_any
  obtain ⟨⟨x0, x1, x2, x3, x4, x5⟩, x6, x7, x8, x9, x10, x11⟩ := tpl_cells hx
  clear hW hb hx hW2 hb2 hrd h
  have HZW := Lib.hid hz
  clear hz
  unfold Tpl.cells at *
  go_enter Tryz.func3, Tryz.ntmps3
  go_wp2_with fail
  rw [HW.out]
  refine KS.out.mono ?_
  rintro e w3 ⟨b, rfl, hfew, hb3⟩
  have HFEW := Lib.hid hfew
  have HB3 : Hid (Below w.heap.size w w3) := HB2.out.trans (hb3.mono HB2.out.size)
  have HX3 : Hid (TplAt w3 w.heap.size t) := HX2.out w3 hb3
  clear hb3 KS HW HX2 x0 x1 x2 x3 x4 x5 x6 x7 x8 x9 x10 x11 hfew
  cases b
  · go_wp2_with fail
    refine (KA.out _).mono ?_
    rintro e w4 ⟨rfl, hb4⟩
    have HB4 := Lib.hid (HB3.out.trans (hb4.mono HB3.out.size))
    clear hb4
    go_wp2_with fail
    go_ret
    exact ⟨rfl, HB4.out⟩
  go_wp2_with fail
  refine (KA.out _).mono ?_
  rintro e w4 ⟨rfl, hb4⟩
  have HB4 : Hid (Below w.heap.size w w4) := HB3.out.trans (hb4.mono HB3.out.size)
  have HX4 : Hid (TplAt w4 w.heap.size t) := HX3.out.below hb4
  clear hb4 KA
  obtain ⟨hs1, hs2⟩ := (HFEW.out (by first | rfl | trivial)).short t (List.mem_singleton.2 rfl)
  obtain ⟨⟨x0, x1, x2, x3, x4, x5⟩, x6, x7, x8, x9, x10, x11⟩ := tpl_cells HX4.out
  have hlt4 : w.heap.size < w4.heap.size := lt_of_blk HX4.out
  obtain ⟨W5, hW5⟩ : ∃ W5, w4.alloc (.cells #[.int .i64 t.kind, .int .i64 t.id, .int .i64 t.ent, .int .i64 t.frm, .int .i64 t.til, .int .i64 t.ev, .int .i64 t.amt, .int .i64 t.deb, .int .i64 t.cre, .slice t.At t.tg.length t.ct, .slice t.Aw t.wt.length t.cw, .int .i64 t.rk] 24) = W5 := ⟨_, rfl⟩
  have hb5 : Below w4.heap.size w4 W5 := by rw [← hW5]; exact (Below.refl _ _).alloc (Nat.le_refl _) _
  have hm5 : TplAt W5 w4.heap.size t := by rw [← hW5]; exact heap_new w4 _
  have hx5 : TplAt W5 w.heap.size t := HX4.out.below hb5
  have HB5 : Hid (Below w.heap.size w W5) := HB4.out.trans (hb5.mono HB4.out.size)
  have HL1 : Hid (∀ w1, Below W5.heap.size W5 w1 → Calls Tryz.prog 10 #[.slice t.At t.tg.length t.ct] w1 fun e w' => ∃ g cap, e = .returned (.slice (some ⟨g, 0, none⟩) t.tg.length cap) ∧ LentAt w' w1.heap.size g cap t.tg ∧ Below w1.heap.size w1 w') := fun w1 hb => lentInts_any t.tg t.At t.tg.length t.ct w.heap.size w1 (HTG.out w1 (HB5.out.trans (hb.mono HB5.out.size))).1 (by omega)
  have HL2 : Hid (∀ w1, Below W5.heap.size W5 w1 → Calls Tryz.prog 10 #[.slice t.Aw t.wt.length t.cw] w1 fun e w' => ∃ g cap, e = .returned (.slice (some ⟨g, 0, none⟩) t.wt.length cap) ∧ LentAt w' w1.heap.size g cap t.wt ∧ Below w1.heap.size w1 w') := fun w1 hb => lentInts_any t.wt t.Aw t.wt.length t.cw w.heap.size w1 (HTG.out w1 (HB5.out.trans (hb.mono HB5.out.size))).2 (by omega)
  have HX5 := Lib.hid hx5; have HM5 := Lib.hid hm5; have HW5 := Lib.hid hW5
  clear x0 x1 x2 x3 x4 x5 x6 x7 x8 hb5 hm5 hx5 hW5 HFEW
  obtain ⟨⟨y0, y1, y2, y3, y4, y5⟩, y6, y7, y8, y9, y10, y11⟩ := tpl_cells HX5.out
  obtain ⟨⟨x0, x1, x2, x3, x4, x5⟩, x6, x7, x8, x9', x10', x11⟩ := tpl_cells HX4.out
  clear y0 y1 y2 y3 y4 y5 y6 y7 y8 y9 y10 y11
  go_upto_region 4 with fail
  rw [HW5.out]
  refine ptR4_any _ _ _ _ _ _ _ _ _ _ _ _ _ _ _ _ _ _ _ _ _ _ _ _ _ _ _ _ _ _ _ _ _ _ _ _ _ _ _ _ _ _ _ _ _ _ _ _ _ _ _ _ _ _ _ _ _ _ _ _ _ _ _ _ _ _ _ _ _ _ _ _ _ _ _ _ _ _ _ _ _ _ _ _ _ _ _ _ _ _ _ _ _ _ _ _ _ _ _ _ _ _ _ _ _ _ _ _ _ _ _ _ _ _ _ _ _ _ _ _ _ _ _ _ _ _ _ _ _ _ _ _ _ _ t w.heap.size w4.heap.size W5 HX5.out HM5.out hlt4 HL1.out HL2.out ?_
  intro u27 u28 u29 u30 u31 u32 u33 u34 g1 cap1 g2 cap2 w6 hx6 hm6 hl1 hl2 hb6
  obtain ⟨m, hm⟩ : ∃ m, lentT t g1 cap1 g2 cap2 = m := ⟨_, rfl⟩
  have hmf : chkT m = chkT t ∧ perT m = perT t ∧ (∀ p i, mkB m p i = mkB t p i) ∧ (∀ p i, mkL m p i = mkL t p i) ∧ m.At = some ⟨g1, 0, none⟩ ∧ m.ct = cap1 ∧ m.Aw = some ⟨g2, 0, none⟩ ∧ m.cw = cap2 ∧ m.tg = t.tg ∧ m.wt = t.wt := by
    rw [← hm]
    exact ⟨rfl, rfl, fun _ _ => rfl, fun _ _ => rfl, rfl, rfl, rfl, rfl, rfl, rfl⟩
  rw [hm] at hm6
  have HX6 := Lib.hid hx6; have HM6 := Lib.hid hm6; have HL16 := Lib.hid hl1; have HL26 := Lib.hid hl2
  have HB6 : Hid (Below w.heap.size w w6) := HB4.out.trans ((((Below.refl _ w4).alloc (Nat.le_refl _) _).trans (by rw [HW5.out]; exact hb6)).mono HB4.out.size)
  have HMF := Lib.hid hmf
  have HMIN : Hid (∀ w1, Below w6.heap.size w6 w1 → TplIn w1 m) := fun w1 hb => by
    obtain ⟨_, _, _, _, e1, e2, e3, e4, e5, e6⟩ := HMF.out
    refine ⟨?_, ?_, ?_, ?_⟩
    · rw [e1, e5]; exact (HL16.out.below hb).rd
    · rw [e3, e6]; exact (HL26.out.below hb).rd
    · rw [e5]; unfold maxLen; omega
    · rw [e6]; unfold maxLen; omega
  have KR := Lib.hid (refT_any t w6)
  clear hx6 hm6 hl1 hl2 hb6 hm hmf HX5 HM5 HW5 HL1 HL2 hlt4 HX4 x0 x1 x2 x3 x4 x5 x6 x7 x8 x9 x10 x9' x10' x11
  obtain ⟨⟨x0, x1, x2, x3, x4, x5⟩, x6, x7, x8, x9, x10, x11⟩ := tpl_cells HX6.out
  unfold Tpl.cells at KR
  rename_i K hK
  refine hK _ _ ?_
  go_wp2_with fail
  refine KR.out.mono ?_
  rintro e w7 ⟨rfl, hb7⟩
  obtain ⟨W8, hW8⟩ : ∃ W8, w7.alloc (.cells t.cells.toArray 28) = W8 := ⟨_, rfl⟩
  have hb8 : Below w7.heap.size w7 W8 := by rw [← hW8]; exact (Below.refl _ _).alloc (Nat.le_refl _) _
  have hr8 : RTplAt W8 w7.heap.size t := by rw [← hW8]; exact heap_new w7 _
  have hb68 : Below w6.heap.size w6 W8 := hb7.trans (hb8.mono hb7.size)
  have HB68 := Lib.hid hb68
  have KC := Lib.hid (refCheckPlan_any t W8 (HIN.out W8 (HB6.out.trans (hb68.mono HB6.out.size))))
  have HR8 := Lib.hid hr8; have HW8 := Lib.hid hW8
  clear hb7 hb8 hr8 hb68 hW8 KR x0 x1 x2 x3 x4 x5 x6 x7 x8 x9 x10 x11
  unfold Tpl.cells at HW8 KC
  go_wp2_with fail
  rw [HW8.out]
  refine KC.out.mono ?_
  rintro e w9 ⟨rfl, hb9⟩
  have HB69 : Hid (Below w6.heap.size w6 w9) := HB68.out.trans (hb9.mono HB68.out.size)
  have HM9 := Lib.hid (HM6.out.below HB69.out)
  have HX9 := Lib.hid (HX6.out.below HB69.out)
  have HR9 := Lib.hid (HR8.out.below hb9)
  have HKM : Hid (∀ w1, Below w9.heap.size w9 w1 → Calls Tryz.prog 13 #[.agg m.cells.toArray] w1 fun e w' => e = .returned (.int .i64 (chkTE m)) ∧ Below w1.heap.size w1 w') := fun w1 hb => checkT_any m w1 (HMIN.out w1 (HB69.out.trans (hb.mono HB69.out.size)))
  have HTE : Hid (chkTE m = if chkT t = true then 0 else 1) := by unfold Hid chkTE; rw [HMF.out.1]
  clear hb9 KC HW8 HR8 HM6 HX6
  obtain ⟨z, hz⟩ : ∃ z, chkT t = z := ⟨_, rfl⟩
  rw [hz] at HTE ⊢
  clear hz
  unfold Tpl.cells at HKM
  go_upto_region 7 with fail
  go_cut [52] from 39 to 52 (fun v wx => v = .bool false ∧ Below w9.heap.size w9 wx)
  case first =>
    obtain ⟨⟨x0, x1, x2, x3, x4, x5⟩, x6, x7, x8, x9, x10, x11⟩ := tpl_cells HM9.out
    have km := HKM.out w9 (Below.refl _ _)
    rw [HTE.out] at km
    have KM := Lib.hid km
    clear km
    cases z
    · go_wp2_with fail
      refine KM.out.mono ?_
      rintro e w10 ⟨rfl, hb10⟩
      have km := HKM.out w10 hb10
      rw [HTE.out] at km
      have KM2 := Lib.hid km
      have HB10 := Lib.hid hb10
      clear x0 x1 x2 x3 x4 x5 x6 x7 x8 x9 x10 x11 km KM
      obtain ⟨⟨x0, x1, x2, x3, x4, x5⟩, x6, x7, x8, x9, x10, x11⟩ := tpl_cells (HM9.out.below hb10)
      clear hb10
      go_wp2_with fail
      refine KM2.out.mono ?_
      rintro e w11 ⟨rfl, hb11⟩
      have HB11 : Hid (Below w9.heap.size w9 w11) := HB10.out.trans (hb11.mono HB10.out.size)
      clear hb11
      go_wp2_with fail
      go_meet
      exact ⟨rfl, HB11.out⟩
    · go_wp2_with fail
      refine KM.out.mono ?_
      rintro e w10 ⟨rfl, hb10⟩
      have HB10 := Lib.hid hb10
      clear hb10
      go_wp2_with fail
      go_meet
      exact ⟨rfl, HB10.out⟩
  case rest =>
    obtain ⟨rfl, hbc⟩ := hcut
    have HMc := Lib.hid (HM9.out.below hbc)
    have HXc := Lib.hid (HX9.out.below hbc)
    have HRc := Lib.hid (HR9.out.below hbc)
    have HB6c : Hid (Below w6.heap.size w6 wc) := HB69.out.trans (hbc.mono HB69.out.size)
    have HL1c := Lib.hid (HL16.out.below HB6c.out)
    have HL2c := Lib.hid (HL26.out.below HB6c.out)
    have HBc : Hid (Below w.heap.size w wc) := HB6.out.trans (HB6c.out.mono HB6.out.size)
    have HINc : Hid (∀ w1, Below wc.heap.size wc w1 → TplIn w1 t) := fun w1 hb => HIN.out w1 (HBc.out.trans (hb.mono HBc.out.size))
    have HMINc : Hid (∀ w1, Below wc.heap.size wc w1 → TplIn w1 m) := fun w1 hb => HMIN.out w1 (HB6c.out.trans (hb.mono HB6c.out.size))
    have HTGc : Hid (∀ w1, Below wc.heap.size wc w1 → Rd w1 w.heap.size 1 t.At t.tg.length (ints .i64 t.tg) ∧ Rd w1 w.heap.size 1 t.Aw t.wt.length (ints .i64 t.wt)) := fun w1 hb => HTG.out w1 (HBc.out.trans (hb.mono HBc.out.size))
    clear hbc HM9 HX9 HR9 HB69 HL16 HL26 HB6 HIN HMIN HTG HKM HTE HB68 HB6c HB2 HB3 HB4 HB5
    obtain ⟨W12, hW12⟩ : ∃ W12, wc.alloc (.cells #[.slice none 0 0, .slice none 0 0, .slice none 0 0, .slice none 0 0, .slice none 0 0, .slice none 0 0, .slice none 0 0, .slice none 0 0, .slice none 0 0, .slice none 0 0, .slice none 0 0, .slice none 0 0, .slice none 0 0, .slice none 0 0, .slice none 0 0, .slice none 0 0, .slice none 0 0, .slice none 0 0, .slice none 0 0, .slice none 0 0] 45) = W12 := ⟨_, rfl⟩
    have hb12 : Below wc.heap.size wc W12 := by rw [← hW12]; exact (Below.refl _ _).alloc (Nat.le_refl _) _
    have hk12 : BookAt W12 wc.heap.size fun _ => .slice none 0 0 := by rw [← hW12]; exact heap_new wc _
    have HK12 : Hid (KeptIJ W12 wc.heap.size wc.heap.size (fun _ => False) 0 0) := KeptIJ.new hk12 (Nat.le_refl _)
    have HW12 := Lib.hid hW12; have HB12 := Lib.hid hb12
    obtain ⟨P, hP⟩ : ∃ P, perT t = P := ⟨_, rfl⟩
    have hpl : P.length ≤ 1200 := by rw [← hP]; exact perT_le t
    have hpm : perT m = P := HMF.out.2.1.trans hP
    have kp := periods_any m W12 (HMINc.out W12 hb12)
    rw [hpm] at kp
    have HRP : Hid (∀ w1, Below wc.heap.size wc w1 → Calls Tryz.prog 21 #[.agg t.cells.toArray] w1 fun e w' => ∃ A c, e = .returned (.slice A P.length c) ∧ w'.ownsRow w1.heap.size 3 1 (.slice A P.length c) P.length (ints .i64 P) ∧ Below w1.heap.size w1 w') := fun w1 hb => by
      have := refPeriods_any t w1 (HINc.out w1 hb)
      rwa [hP] at this
    have HMKR : Hid (∀ i : Int, (-4611686018427387904 ≤ i ∧ i ≤ 4611686018427387904) → ∃ (ok : Bool) (js : List Jrn), Hid (ok = true → ∀ l : List JR, l.map JR.j = js → (∀ a ∈ l, a.j.ref.size ≤ maxLen ∧ a.j.lines.length ≤ 8) ∧ l.length ≤ 2) ∧
        Hid (∀ w1, Below wc.heap.size wc w1 → Calls Tryz.prog 16 #[.agg m.cells.toArray, .int .i64 per, .int .i64 i] w1 (MkEnd w1 ok js)) ∧
        Hid (∀ w1, Below wc.heap.size wc w1 → Calls Tryz.prog 17 #[.agg t.cells.toArray, .int .i64 per, .int .i64 i] w1 (RMkEnd w1 ok js))) := fun i hi => by
      refine ⟨mkB t per i, mkL t per i, fun h l hl => jl_sizes h hl, fun w1 hb => ?_, fun w1 hb => refMake_any t per i w1 (HINc.out w1 hb) hi⟩
      have := makeT_any m per i w1 (HMINc.out w1 hb) hi
      rwa [HMF.out.2.2.1, HMF.out.2.2.2.1] at this
    have KP := Lib.hid kp
    clear hW12 hb12 hk12 hP hpm kp
    obtain ⟨np, hnp⟩ : ∃ n, P.length = n := ⟨_, rfl⟩
    rw [hnp] at hpl KP HRP
    have HNP := Lib.hid hnp
    clear hnp
    obtain ⟨⟨x0, x1, x2, x3, x4, x5⟩, x6, x7, x8, x9, x10, x11⟩ := tpl_cells HMc.out
    have hmlt : w4.heap.size < wc.heap.size := lt_of_blk HMc.out
    unfold Tpl.cells at KP HRP HMKR
    go_wp2_with fail
    rw [HW12.out]
    refine KP.out.mono ?_
    rintro e w13 ⟨Ap, cp, rfl, hownp, hb13⟩
    have hk13 : KeptIJ w13 wc.heap.size wc.heap.size (fun q => False ∨ (Value.slice Ap np cp).ownBlock = some q) 0 0 := (HK12.out.more fun q hq => .inr (hq.elim False.elim fun h => own_ge hownp q h)).below hb13
    have kk1 := keepInts_any wc.heap.size wc.heap.size 0 0 np cp W12.heap.size (fun _ => False) Ap P w13 hk13 (by omega) hownp (by omega) HB12.out.size fun q hq => hq.elim
    have KK1 := Lib.hid kk1
    have HO13 := Lib.hid (own_base hownp HB12.out.size)
    have HB13 : Hid (Below wc.heap.size wc w13) := HB12.out.trans (hb13.mono HB12.out.size)
    clear hownp hb13 hk13 kk1 KP HK12 HW12 x0 x1 x2 x3 x4 x5 x6 x7 x8 x9 x10 x11
    go_wp2_with fail
    refine KK1.out.mono ?_
    rintro e w14 ⟨rfl, hk14, hb14, ho14⟩
    have HO14 := Lib.hid (ho14.own HO13.out (by decide))
    have HK14 := Lib.hid hk14
    have HB14 : Hid (Below wc.heap.size wc w14) := HB13.out.trans hb14
    clear hk14 hb14 ho14 KK1 HO13
    have hcase : id < -1099511627776 ∨ (¬ id < -1099511627776 ∧ 1099511627776 < id) ∨ (¬ id < -1099511627776 ∧ ¬ 1099511627776 < id) := by omega
    have hm1e : m.At = some ⟨g1, 0, none⟩ ∧ m.ct = cap1 ∧ m.Aw = some ⟨g2, 0, none⟩ ∧ m.cw = cap2 ∧ m.tg = t.tg ∧ m.wt = t.wt := HMF.out.2.2.2.2
    have HME := Lib.hid hm1e
    clear hm1e HMF
    have hcase2 := hcase.imp (fun h => And.intro h (HMKR.out 1 (by omega))) (Or.imp (fun h => And.intro h (HMKR.out 1 (by omega))) (fun h => And.intro h (HMKR.out id (by omega))))
    clear hcase
    rcases hcase2 with ⟨h1, ok, js, HS, KMK, KRM⟩ | ⟨⟨h1, h2⟩, ok, js, HS, KMK, KRM⟩ | ⟨⟨h1, h2⟩, ok, js, HS, KMK, KRM⟩
    all_goals
      clear HMKR
      go_wp2_with fail
      go_loopw [12] (fun iv wr => ∃ k : Nat, k ≤ 2 ∧ iv = .int .i64 k ∧ KeptIJ wr wc.heap.size wc.heap.size (fun _ => False) 1 k ∧ wr.ownsRow wc.heap.size 3 1 (.slice Ap np cp) np (ints .i64 P) ∧ Below wc.heap.size wc wr) (fun iv _ => 2 - (intOf iv).toNat)
      case atStart => exact ⟨0, by omega, rfl, HK14.out, HO14.out, HB14.out⟩
      case round =>
        obtain ⟨k, hk, rfl, hkept, hownp, hbel⟩ := hrel
        have HK := Lib.hid hkept; have HB := Lib.hid hbel; have HOP := Lib.hid hownp
        have hzr := hbel.size
        clear hkept hownp
        by_cases hlt : k < 2
        · have hkI : (k : Int) < 2 := by omega
          obtain ⟨⟨x0, x1, x2, x3, x4, x5⟩, x6, x7, x8, x9, x10, x11⟩ := tpl_cells (HMc.out.below hbel)
          clear hbel
          go_wp2_with fail
          refine (KMK.out _ HB.out).mono ?_
          rintro e w15 hme
          obtain ⟨Al, cl, l, E, rfl, hol, hno, hyes, hb15⟩ := mkEnd_is hme
          have HB15 : Hid (Below wc.heap.size wc w15) := HB.out.trans (hb15.mono hzr)
          have hz15 := hb15.size
          have HOL := Lib.hid hol; have HNO := Lib.hid hno; have HYES := Lib.hid hyes; have HBR15 := Lib.hid hb15
          clear hme hol hno hyes hb15 x0 x1 x2 x3 x4 x5 x6 x7 x8 x9 x10 x11
          obtain ⟨⟨x0, x1, x2, x3, x4, x5⟩, x6, x7, x8, x9, x10, x11⟩ := rtpl_cells (HRc.out.below HB15.out)
          go_wp2_with fail
          refine (KRM.out _ HB15.out).mono ?_
          rintro e w16 hre
          obtain ⟨Aw, cw, l2, rfl, how, hno2, hyes2, hb16⟩ := rmkEnd_is hre
          have hb16r : Below wr.heap.size wr w16 := HBR15.out.trans (hb16.mono hz15)
          have HB16 : Hid (Below wc.heap.size wc w16) := HB.out.trans (hb16r.mono hzr)
          have hlv := HOL.out.kept hb16
          have hk16 : KeptIJ w16 wc.heap.size wc.heap.size (fun q => False ∨ (Value.slice Al l.length cl).ownBlock = some q) 1 k := (HK.out.more fun q hq => .inr (hq.elim False.elim fun h => own_ge HOL.out.own q h)).below hb16r
          have hsz : (∀ a ∈ l, a.j.ref.size ≤ maxLen ∧ a.j.lines.length ≤ 8) ∧ l.length ≤ 2 := by
            cases hok : ok
            · rw [(HNO.out hok).1]; exact ⟨fun a ha => (by cases ha), by simp⟩
            · exact HS.out hok l (HYES.out hok).1
          have hsz2 : (∀ a ∈ l2, a.j.ref.size ≤ maxLen ∧ a.j.lines.length ≤ 8) ∧ l2.length ≤ 2 := by
            cases hok : ok
            · rw [hno2 hok]; exact ⟨fun a ha => (by cases ha), by simp⟩
            · exact HS.out hok l2 (hyes2 hok)
          have heq : l.map JR.j = l2.map JR.j := by
            cases hok : ok
            · rw [(HNO.out hok).1, hno2 hok]
            · rw [(HYES.out hok).1, hyes2 hok]
          have hll : l2.length = l.length := by
            have := congrArg List.length heq
            rw [List.length_map, List.length_map] at this
            exact this.symm
          have hE : E = if ok = true then 0 else 1 := by
            cases hok : ok
            · rw [(HNO.out hok).2]; rfl
            · rw [(HYES.out hok).2]; rfl
          have kk := keepJournalsI_any wc.heap.size wc.heap.size 1 k l.length cl wr.heap.size (fun _ => False) Al l w16 hk16 (by omega) hlv (fun a ha => ⟨(hsz.1 a ha).1, by have := (hsz.1 a ha).2; omega⟩) (by have := hsz.2; omega) hzr fun q hq => hq.elim
          have KK := Lib.hid kk
          have HLV := Lib.hid hlv; have HOW := Lib.hid how; have HEQ := Lib.hid heq; have HSZ := Lib.hid hsz; have HSZ2 := Lib.hid hsz2
          have HOP16 := Lib.hid (own_kept HOP.out fun q hq _ => hb16r.block q hq)
          have hl0 : ok = false → l.length = 0 := fun h => by rw [(HNO.out h).1]; rfl
          have HL0 := Lib.hid hl0
          rw [hll] at HOW ⊢
          have HE := Lib.hid hE
          clear hE hre how hno2 hyes2 hb16 hb16r hlv hk16 hsz hsz2 heq kk HNO HYES hl0 hll x0 x1 x2 x3 x4 x5 x6 x7 x8 x9 x10 x11
          go_wp2_with fail
          refine KK.out.mono ?_
          rintro e w17 ⟨rfl, hk17, hb17, ho17⟩
          have HK17 := Lib.hid hk17
          have HOP17 := Lib.hid (ho17.own HOP16.out (by decide))
          have HB17 : Hid (Below wc.heap.size wc w17) := HB16.out.trans hb17
          have hl17 := HLV.out.only ho17 (by decide) (by decide)
          have hw17 := HOW.out.only ho17 (by decide) (by decide)
          have hmx : (8 : Nat) ≤ maxLen := by unfold maxLen; omega
          have ks := sameJournals_any l l2 Al Aw l.length cl cw _ _ w17 (hl17.rd fun a ha => ⟨(HSZ.out.1 a ha).1, Nat.le_trans (HSZ.out.1 a ha).2 hmx⟩) (hw17.rd fun a ha => ⟨(HSZ2.out.1 a ha).1, Nat.le_trans (HSZ2.out.1 a ha).2 hmx⟩) (Nat.le_refl _) (Nat.le_refl _) (by have := HSZ.out.2; omega) HEQ.out
          have KSJ := Lib.hid ks
          clear hk17 hb17 ho17 hl17 hw17 hmx ks KK
          cases ok
          · have hl0 := HL0.out rfl
            rw [hl0]
            obtain rfl : E = 1 := by have := HE.out; simpa using this
            go_wp2_with fail
            exact ⟨⟨k + 1, by omega, by go_num, HK17.out, HOP17.out, HB17.out⟩, by simp [intOf]; omega⟩
          · obtain rfl : E = 0 := by have := HE.out; simpa using this
            go_wp2_with fail
            refine KSJ.out.mono ?_
            rintro e w18 ⟨rfl, hb18⟩
            have HK18 := Lib.hid (HK17.out.below hb18)
            have HOP18 := Lib.hid (own_kept HOP17.out fun q hq _ => hb18.block q hq)
            have HB18 : Hid (Below wc.heap.size wc w18) := HB17.out.trans (hb18.mono HB17.out.size)
            clear hb18 KSJ
            go_wp2_with fail
            exact ⟨⟨k + 1, by omega, by go_num, HK18.out, HOP18.out, HB18.out⟩, by simp [intOf]; omega⟩
        · obtain rfl : k = 2 := by omega
          obtain ⟨⟨x0, x1, x2, x3, x4, x5⟩, x6, x7, x8, x9, x10, x11⟩ := rtpl_cells (HRc.out.below hbel)
          clear hbel
          go_wp2_with fail
          refine (HRP.out _ HB.out).mono ?_
          rintro e w15 ⟨Aq, cq, rfl, hownq, hb15⟩
          have HB15 : Hid (Below wc.heap.size wc w15) := HB.out.trans (hb15.mono hzr)
          have HK15 := Lib.hid (HK.out.below hb15)
          have ks := sameInts_any P P Ap Aq np np cp cq _ _ w15 (rd_of_own (own_kept HOP.out fun q hq _ => hb15.block q hq)) (rd_of_own hownq) (by unfold maxLen; omega) (by unfold maxLen; omega)
          rw [beq_self_eq_true P] at ks
          have KSI := Lib.hid ks
          clear hownq hb15 ks x0 x1 x2 x3 x4 x5 x6 x7 x8 x9 x10 x11
          go_wp2_with fail
          refine KSI.out.mono ?_
          rintro e w16 ⟨rfl, hd⟩
          have hb16 : Below w15.heap.size w15 w16 := hd.below
          have HB16 : Hid (Below wc.heap.size wc w16) := HB15.out.trans (hb16.mono HB15.out.size)
          have HK16 := Lib.hid (HK15.out.below hb16)
          obtain ⟨e1, e2, e3, e4, e5, e6⟩ := HME.out
          have y9 := (tpl_cells (HMc.out.below HB16.out)).2.2.2.2.1
          rw [e1, e2, e5] at y9
          have z9 := (tpl_cells (HXc.out.below HB16.out)).2.2.2.2.1
          have kt := staysInts_any t.tg t.tg t.At t.tg.length t.tg.length t.ct _ w.heap.size g1 cap1 w16 (HL1c.out.below HB16.out) rfl (HTGc.out w16 HB16.out).1 (by unfold maxLen; omega) (by omega)
          rw [beq_self_eq_true t.tg] at kt
          have KT := Lib.hid kt
          clear hd hb16 kt KSI
          go_wp2_with fail
          refine KT.out.mono ?_
          rintro e w17 ⟨rfl, hd⟩
          have hb17 : Below w16.heap.size w16 w17 := hd.below
          have HB17 : Hid (Below wc.heap.size wc w17) := HB16.out.trans (hb17.mono HB16.out.size)
          have HK17 := Lib.hid (HK16.out.below hb17)
          clear y9 z9
          have y10 := (tpl_cells (HMc.out.below HB17.out)).2.2.2.2.2.1
          rw [e3, e4, e6] at y10
          have z10 := (tpl_cells (HXc.out.below HB17.out)).2.2.2.2.2.1
          have kt := staysInts_any t.wt t.wt t.Aw t.wt.length t.wt.length t.cw _ w.heap.size g2 cap2 w17 (HL2c.out.below HB17.out) rfl (HTGc.out w17 HB17.out).2 (by unfold maxLen; omega) (by omega)
          rw [beq_self_eq_true t.wt] at kt
          have KT2 := Lib.hid kt
          clear hd hb17 kt KT
          go_wp2_with fail
          refine KT2.out.mono ?_
          rintro e w18 ⟨rfl, hd⟩
          have hb18 : Below w17.heap.size w17 w18 := hd.below
          have HB18 : Hid (Below wc.heap.size wc w18) := HB17.out.trans (hb18.mono HB17.out.size)
          have KAP := Lib.hid (apartIJ_any wc.heap.size wc.heap.size 1 2 _ w18 (HK17.out.below hb18) (by omega) (by omega))
          clear hd hb18 KT2 y10 z10
          go_wp2_with fail
          refine KAP.out.mono ?_
          rintro e w19 ⟨rfl, hb19⟩
          have HB19 : Hid (Below w.heap.size w w19) := HBc.out.trans ((HB18.out.trans hb19).mono HBc.out.size)
          clear hb19
          go_wp2_with fail
          go_ret
          exact ⟨rfl, HB19.out⟩
end Go.Proofs.YtjlokkjbdgcooaaGreat

