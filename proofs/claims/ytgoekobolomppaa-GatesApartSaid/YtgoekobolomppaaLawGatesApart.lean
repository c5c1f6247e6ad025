/-
  The walk of the statement GatesApart.
-/
-- HOLE: exact gatesApart_walk a0 a1 a2 a3 w
import Derived.Test.YtgoekobolomppaaGatesAlive
import Derived.Test.YtgoekobolomppaaGatesOne
namespace Go.Proofs.Ytgoekobolomppaa
open Go.RowKit

theorem may_bad {en pe ot la : Int} (hk : okT ot la = false) : mayT (oneT en pe 1) ot la = 1 := by simp [mayT, hk]
theorem may_other {en pe ot la : Int} (ho : okT en pe = true) (hk : okT ot la = true) (hn : ¬ (ot = en ∧ la = pe)) : mayT (oneT en pe 1) ot la = 0 := by
  have h1 := okT_t ho
  have h2 := okT_t hk
  have hf : findT (oneT en pe 1) (ot * 2000 + la) = none := by
    simp [findT, oneT, Trio.key]
    omega
  simp [mayT, hk, stT, hf, zOf]
set_option maxRecDepth 100000 in
set_option maxHeartbeats 1000000 in
theorem apart_lo (en pe ot la : Int) (w : World) (ho : okT en pe = true) (h1 : ¬ en < 1) (h2 : ¬ 9 < en) (kv : ∀ w, Calls Try.prog 17 #[.int .i64 pe] w fun e w' => e = .returned (.bool true) ∧ w = w') (g1 : ot < 1) (hne : (ot == en) = false) (km : Hid (∀ B c v w, GatesAt w B c v (oneT en pe 1) → Calls Try.prog 14 #[.pointer (some ⟨c, 0, none⟩), .int .i64 ot, .int .i64 la] w fun e w' => e = .returned (.int .i64 1) ∧ Below w.heap.size w w'))  : Calls Try.prog 5 #[.int .i64 en, .int .i64 pe, .int .i64 ot, .int .i64 la] w fun e w' => e = .returned (.bool true) ∧ Below w.heap.size w w' := by
  go_enter Try.func5, Try.ntmps5
  go_wp2_with fail
  refine (kv w).mono ?_
  rintro e w0 ⟨rfl, rfl⟩
  go_wp2_with fail
  refine (alive_any _).mono ?_
  rintro e w1 ⟨rfl, hb⟩
  have HB := Lib.hid hb
  have H0 := Lib.hid (gates_one w1 en pe)
  have B0 : Hid (Below w1.heap.size w1 (w1.alloc (.cells #[.slice none 0 0] 27))) := (Below.refl _ _).alloc (Nat.le_refl _) _
  obtain ⟨w2, hw2⟩ : ∃ w2, w1.alloc (.cells #[.slice none 0 0] 27) = w2 := ⟨_, rfl⟩
  have HW := Lib.hid hw2
  rw [hw2] at H0 B0
  clear hw2 hb
  go_wp2_with fail
  rw [HW.out]
  refine (set_one 0 1 0 1 ho H0.out rfl (by decide) (by decide) (by decide)).mono ?_
  rintro e u0 ⟨rfl, ht⟩
  obtain ⟨v1, h1, b1⟩ := GatesOn.set B0.out.size H0.out B0.out ht
  have H1 := Lib.hid h1
  have B1 := Lib.hid b1
  clear h1 b1 ht H0 B0
  go_wp2_with fail
  refine (all_any _ _ _ _ _ H1.out).mono ?_
  rintro e u1 ⟨A1, c1, rfl, _, ht⟩
  obtain ⟨v2, h2, b2⟩ := GatesOn.same B1.out.size H1.out B1.out ht
  have H2 := Lib.hid h2
  have B2 := Lib.hid b2
  clear h2 b2 ht H1 B1
  go_wp2_with fail
  refine (km.out _ _ _ _ H2.out).mono ?_
  rintro e u2 ⟨rfl, ht⟩
  obtain ⟨v3, h3, b3⟩ := GatesOn.same B2.out.size H2.out B2.out ht
  have H3 := Lib.hid h3
  have B3 := Lib.hid b3
  clear h3 b3 ht H2 B2
  go_wp2_with fail
  refine (set_one 1 0 0 0 ho H3.out rfl (by decide) (by decide) (by decide)).mono ?_
  rintro e u3 ⟨rfl, ht⟩
  obtain ⟨v4, h4, b4⟩ := GatesOn.set B3.out.size H3.out B3.out ht
  have H4 := Lib.hid h4
  have B4 := Lib.hid b4
  clear h4 b4 ht H3 B3
  go_wp2_with fail
  refine (all_any _ _ _ _ _ H4.out).mono ?_
  rintro e u4 ⟨A4, c4, rfl, _, ht⟩
  obtain ⟨v5, h5, b5⟩ := GatesOn.same B4.out.size H4.out B4.out ht
  have H5 := Lib.hid h5
  have B5 := Lib.hid b5
  clear h5 b5 ht H4 B4
  go_wp2_with fail
  refine (may_one 0 0 ho H5.out (by decide)).mono ?_
  rintro e u5 ⟨rfl, ht⟩
  obtain ⟨v6, h6, b6⟩ := GatesOn.same B5.out.size H5.out B5.out ht
  have H6 := Lib.hid h6
  have B6 := Lib.hid b6
  clear h6 b6 ht H5 B5
  go_wp2_with fail
  go_ret
  exact ⟨rfl, HB.out.trans (B6.out.mono HB.out.size)⟩
set_option maxRecDepth 100000 in
set_option maxHeartbeats 1000000 in
theorem apart_hi (en pe ot la : Int) (w : World) (ho : okT en pe = true) (h1 : ¬ en < 1) (h2 : ¬ 9 < en) (kv : ∀ w, Calls Try.prog 17 #[.int .i64 pe] w fun e w' => e = .returned (.bool true) ∧ w = w') (g1 : ¬ ot < 1) (g2 : 9 < ot) (hne : (ot == en) = false) (km : Hid (∀ B c v w, GatesAt w B c v (oneT en pe 1) → Calls Try.prog 14 #[.pointer (some ⟨c, 0, none⟩), .int .i64 ot, .int .i64 la] w fun e w' => e = .returned (.int .i64 1) ∧ Below w.heap.size w w'))  : Calls Try.prog 5 #[.int .i64 en, .int .i64 pe, .int .i64 ot, .int .i64 la] w fun e w' => e = .returned (.bool true) ∧ Below w.heap.size w w' := by
  go_enter Try.func5, Try.ntmps5
  go_wp2_with fail
  refine (kv w).mono ?_
  rintro e w0 ⟨rfl, rfl⟩
  go_wp2_with fail
  refine (alive_any _).mono ?_
  rintro e w1 ⟨rfl, hb⟩
  have HB := Lib.hid hb
  have H0 := Lib.hid (gates_one w1 en pe)
  have B0 : Hid (Below w1.heap.size w1 (w1.alloc (.cells #[.slice none 0 0] 27))) := (Below.refl _ _).alloc (Nat.le_refl _) _
  obtain ⟨w2, hw2⟩ : ∃ w2, w1.alloc (.cells #[.slice none 0 0] 27) = w2 := ⟨_, rfl⟩
  have HW := Lib.hid hw2
  rw [hw2] at H0 B0
  clear hw2 hb
  go_wp2_with fail
  rw [HW.out]
  refine (set_one 0 1 0 1 ho H0.out rfl (by decide) (by decide) (by decide)).mono ?_
  rintro e u0 ⟨rfl, ht⟩
  obtain ⟨v1, h1, b1⟩ := GatesOn.set B0.out.size H0.out B0.out ht
  have H1 := Lib.hid h1
  have B1 := Lib.hid b1
  clear h1 b1 ht H0 B0
  go_wp2_with fail
  refine (all_any _ _ _ _ _ H1.out).mono ?_
  rintro e u1 ⟨A1, c1, rfl, _, ht⟩
  obtain ⟨v2, h2, b2⟩ := GatesOn.same B1.out.size H1.out B1.out ht
  have H2 := Lib.hid h2
  have B2 := Lib.hid b2
  clear h2 b2 ht H1 B1
  go_wp2_with fail
  refine (km.out _ _ _ _ H2.out).mono ?_
  rintro e u2 ⟨rfl, ht⟩
  obtain ⟨v3, h3, b3⟩ := GatesOn.same B2.out.size H2.out B2.out ht
  have H3 := Lib.hid h3
  have B3 := Lib.hid b3
  clear h3 b3 ht H2 B2
  go_wp2_with fail
  refine (set_one 1 0 0 0 ho H3.out rfl (by decide) (by decide) (by decide)).mono ?_
  rintro e u3 ⟨rfl, ht⟩
  obtain ⟨v4, h4, b4⟩ := GatesOn.set B3.out.size H3.out B3.out ht
  have H4 := Lib.hid h4
  have B4 := Lib.hid b4
  clear h4 b4 ht H3 B3
  go_wp2_with fail
  refine (all_any _ _ _ _ _ H4.out).mono ?_
  rintro e u4 ⟨A4, c4, rfl, _, ht⟩
  obtain ⟨v5, h5, b5⟩ := GatesOn.same B4.out.size H4.out B4.out ht
  have H5 := Lib.hid h5
  have B5 := Lib.hid b5
  clear h5 b5 ht H4 B4
  go_wp2_with fail
  refine (may_one 0 0 ho H5.out (by decide)).mono ?_
  rintro e u5 ⟨rfl, ht⟩
  obtain ⟨v6, h6, b6⟩ := GatesOn.same B5.out.size H5.out B5.out ht
  have H6 := Lib.hid h6
  have B6 := Lib.hid b6
  clear h6 b6 ht H5 B5
  go_wp2_with fail
  go_ret
  exact ⟨rfl, HB.out.trans (B6.out.mono HB.out.size)⟩
set_option maxRecDepth 100000 in
set_option maxHeartbeats 1000000 in
theorem apart_badp (en pe ot la : Int) (w : World) (ho : okT en pe = true) (h1 : ¬ en < 1) (h2 : ¬ 9 < en) (kv : ∀ w, Calls Try.prog 17 #[.int .i64 pe] w fun e w' => e = .returned (.bool true) ∧ w = w') (g1 : ¬ ot < 1) (g2 : ¬ 9 < ot) (hne : (ot == en) = false) (km : Hid (∀ B c v w, GatesAt w B c v (oneT en pe 1) → Calls Try.prog 14 #[.pointer (some ⟨c, 0, none⟩), .int .i64 ot, .int .i64 la] w fun e w' => e = .returned (.int .i64 1) ∧ Below w.heap.size w w')) (kv2 : ∀ w, Calls Try.prog 17 #[.int .i64 la] w fun e w' => e = .returned (.bool false) ∧ w = w') : Calls Try.prog 5 #[.int .i64 en, .int .i64 pe, .int .i64 ot, .int .i64 la] w fun e w' => e = .returned (.bool true) ∧ Below w.heap.size w w' := by
  go_enter Try.func5, Try.ntmps5
  go_wp2_with fail
  refine (kv w).mono ?_
  rintro e w0 ⟨rfl, rfl⟩
  go_wp2_with fail
  refine (alive_any _).mono ?_
  rintro e w1 ⟨rfl, hb⟩
  have HB := Lib.hid hb
  have H0 := Lib.hid (gates_one w1 en pe)
  have B0 : Hid (Below w1.heap.size w1 (w1.alloc (.cells #[.slice none 0 0] 27))) := (Below.refl _ _).alloc (Nat.le_refl _) _
  obtain ⟨w2, hw2⟩ : ∃ w2, w1.alloc (.cells #[.slice none 0 0] 27) = w2 := ⟨_, rfl⟩
  have HW := Lib.hid hw2
  rw [hw2] at H0 B0
  clear hw2 hb
  go_wp2_with fail
  rw [HW.out]
  refine (set_one 0 1 0 1 ho H0.out rfl (by decide) (by decide) (by decide)).mono ?_
  rintro e u0 ⟨rfl, ht⟩
  obtain ⟨v1, h1, b1⟩ := GatesOn.set B0.out.size H0.out B0.out ht
  have H1 := Lib.hid h1
  have B1 := Lib.hid b1
  clear h1 b1 ht H0 B0
  go_wp2_with fail
  refine (all_any _ _ _ _ _ H1.out).mono ?_
  rintro e u1 ⟨A1, c1, rfl, _, ht⟩
  obtain ⟨v2, h2, b2⟩ := GatesOn.same B1.out.size H1.out B1.out ht
  have H2 := Lib.hid h2
  have B2 := Lib.hid b2
  clear h2 b2 ht H1 B1
  go_wp2_with fail
  refine (kv2 _).mono ?_
  rintro e w0 ⟨rfl, rfl⟩
  go_wp2_with fail
  refine (km.out _ _ _ _ H2.out).mono ?_
  rintro e u2 ⟨rfl, ht⟩
  obtain ⟨v3, h3, b3⟩ := GatesOn.same B2.out.size H2.out B2.out ht
  have H3 := Lib.hid h3
  have B3 := Lib.hid b3
  clear h3 b3 ht H2 B2
  go_wp2_with fail
  refine (set_one 1 0 0 0 ho H3.out rfl (by decide) (by decide) (by decide)).mono ?_
  rintro e u3 ⟨rfl, ht⟩
  obtain ⟨v4, h4, b4⟩ := GatesOn.set B3.out.size H3.out B3.out ht
  have H4 := Lib.hid h4
  have B4 := Lib.hid b4
  clear h4 b4 ht H3 B3
  go_wp2_with fail
  refine (all_any _ _ _ _ _ H4.out).mono ?_
  rintro e u4 ⟨A4, c4, rfl, _, ht⟩
  obtain ⟨v5, h5, b5⟩ := GatesOn.same B4.out.size H4.out B4.out ht
  have H5 := Lib.hid h5
  have B5 := Lib.hid b5
  clear h5 b5 ht H4 B4
  go_wp2_with fail
  refine (may_one 0 0 ho H5.out (by decide)).mono ?_
  rintro e u5 ⟨rfl, ht⟩
  obtain ⟨v6, h6, b6⟩ := GatesOn.same B5.out.size H5.out B5.out ht
  have H6 := Lib.hid h6
  have B6 := Lib.hid b6
  clear h6 b6 ht H5 B5
  go_wp2_with fail
  go_ret
  exact ⟨rfl, HB.out.trans (B6.out.mono HB.out.size)⟩
set_option maxRecDepth 100000 in
set_option maxHeartbeats 1000000 in
theorem apart_ent (en pe ot la : Int) (w : World) (ho : okT en pe = true) (h1 : ¬ en < 1) (h2 : ¬ 9 < en) (kv : ∀ w, Calls Try.prog 17 #[.int .i64 pe] w fun e w' => e = .returned (.bool true) ∧ w = w') (g1 : ¬ ot < 1) (g2 : ¬ 9 < ot) (hne : (ot == en) = false) (km : Hid (∀ B c v w, GatesAt w B c v (oneT en pe 1) → Calls Try.prog 14 #[.pointer (some ⟨c, 0, none⟩), .int .i64 ot, .int .i64 la] w fun e w' => e = .returned (.int .i64 0) ∧ Below w.heap.size w w')) (kv2 : ∀ w, Calls Try.prog 17 #[.int .i64 la] w fun e w' => e = .returned (.bool true) ∧ w = w') : Calls Try.prog 5 #[.int .i64 en, .int .i64 pe, .int .i64 ot, .int .i64 la] w fun e w' => e = .returned (.bool true) ∧ Below w.heap.size w w' := by
  go_enter Try.func5, Try.ntmps5
  go_wp2_with fail
  refine (kv w).mono ?_
  rintro e w0 ⟨rfl, rfl⟩
  go_wp2_with fail
  refine (alive_any _).mono ?_
  rintro e w1 ⟨rfl, hb⟩
  have HB := Lib.hid hb
  have H0 := Lib.hid (gates_one w1 en pe)
  have B0 : Hid (Below w1.heap.size w1 (w1.alloc (.cells #[.slice none 0 0] 27))) := (Below.refl _ _).alloc (Nat.le_refl _) _
  obtain ⟨w2, hw2⟩ : ∃ w2, w1.alloc (.cells #[.slice none 0 0] 27) = w2 := ⟨_, rfl⟩
  have HW := Lib.hid hw2
  rw [hw2] at H0 B0
  clear hw2 hb
  go_wp2_with fail
  rw [HW.out]
  refine (set_one 0 1 0 1 ho H0.out rfl (by decide) (by decide) (by decide)).mono ?_
  rintro e u0 ⟨rfl, ht⟩
  obtain ⟨v1, h1, b1⟩ := GatesOn.set B0.out.size H0.out B0.out ht
  have H1 := Lib.hid h1
  have B1 := Lib.hid b1
  clear h1 b1 ht H0 B0
  go_wp2_with fail
  refine (all_any _ _ _ _ _ H1.out).mono ?_
  rintro e u1 ⟨A1, c1, rfl, _, ht⟩
  obtain ⟨v2, h2, b2⟩ := GatesOn.same B1.out.size H1.out B1.out ht
  have H2 := Lib.hid h2
  have B2 := Lib.hid b2
  clear h2 b2 ht H1 B1
  go_wp2_with fail
  refine (kv2 _).mono ?_
  rintro e w0 ⟨rfl, rfl⟩
  go_wp2_with fail
  refine (km.out _ _ _ _ H2.out).mono ?_
  rintro e u2 ⟨rfl, ht⟩
  obtain ⟨v3, h3, b3⟩ := GatesOn.same B2.out.size H2.out B2.out ht
  have H3 := Lib.hid h3
  have B3 := Lib.hid b3
  clear h3 b3 ht H2 B2
  go_wp2_with fail
  refine (set_one 1 0 0 0 ho H3.out rfl (by decide) (by decide) (by decide)).mono ?_
  rintro e u3 ⟨rfl, ht⟩
  obtain ⟨v4, h4, b4⟩ := GatesOn.set B3.out.size H3.out B3.out ht
  have H4 := Lib.hid h4
  have B4 := Lib.hid b4
  clear h4 b4 ht H3 B3
  go_wp2_with fail
  refine (all_any _ _ _ _ _ H4.out).mono ?_
  rintro e u4 ⟨A4, c4, rfl, _, ht⟩
  obtain ⟨v5, h5, b5⟩ := GatesOn.same B4.out.size H4.out B4.out ht
  have H5 := Lib.hid h5
  have B5 := Lib.hid b5
  clear h5 b5 ht H4 B4
  go_wp2_with fail
  refine (may_one 0 0 ho H5.out (by decide)).mono ?_
  rintro e u5 ⟨rfl, ht⟩
  obtain ⟨v6, h6, b6⟩ := GatesOn.same B5.out.size H5.out B5.out ht
  have H6 := Lib.hid h6
  have B6 := Lib.hid b6
  clear h6 b6 ht H5 B5
  go_wp2_with fail
  go_ret
  exact ⟨rfl, HB.out.trans (B6.out.mono HB.out.size)⟩
set_option maxRecDepth 100000 in
set_option maxHeartbeats 1000000 in
theorem apart_badp2 (en pe la : Int) (w : World) (ho : okT en pe = true) (h1 : ¬ en < 1) (h2 : ¬ 9 < en) (kv : ∀ w, Calls Try.prog 17 #[.int .i64 pe] w fun e w' => e = .returned (.bool true) ∧ w = w') (hne : (la == pe) = false) (km : Hid (∀ B c v w, GatesAt w B c v (oneT en pe 1) → Calls Try.prog 14 #[.pointer (some ⟨c, 0, none⟩), .int .i64 en, .int .i64 la] w fun e w' => e = .returned (.int .i64 1) ∧ Below w.heap.size w w')) (kv2 : ∀ w, Calls Try.prog 17 #[.int .i64 la] w fun e w' => e = .returned (.bool false) ∧ w = w') : Calls Try.prog 5 #[.int .i64 en, .int .i64 pe, .int .i64 en, .int .i64 la] w fun e w' => e = .returned (.bool true) ∧ Below w.heap.size w w' := by
  go_enter Try.func5, Try.ntmps5
  go_wp2_with fail
  refine (kv w).mono ?_
  rintro e w0 ⟨rfl, rfl⟩
  go_wp2_with fail
  refine (alive_any _).mono ?_
  rintro e w1 ⟨rfl, hb⟩
  have HB := Lib.hid hb
  have H0 := Lib.hid (gates_one w1 en pe)
  have B0 : Hid (Below w1.heap.size w1 (w1.alloc (.cells #[.slice none 0 0] 27))) := (Below.refl _ _).alloc (Nat.le_refl _) _
  obtain ⟨w2, hw2⟩ : ∃ w2, w1.alloc (.cells #[.slice none 0 0] 27) = w2 := ⟨_, rfl⟩
  have HW := Lib.hid hw2
  rw [hw2] at H0 B0
  clear hw2 hb
  go_wp2_with fail
  rw [HW.out]
  refine (set_one 0 1 0 1 ho H0.out rfl (by decide) (by decide) (by decide)).mono ?_
  rintro e u0 ⟨rfl, ht⟩
  obtain ⟨v1, h1, b1⟩ := GatesOn.set B0.out.size H0.out B0.out ht
  have H1 := Lib.hid h1
  have B1 := Lib.hid b1
  clear h1 b1 ht H0 B0
  go_wp2_with fail
  refine (all_any _ _ _ _ _ H1.out).mono ?_
  rintro e u1 ⟨A1, c1, rfl, _, ht⟩
  obtain ⟨v2, h2, b2⟩ := GatesOn.same B1.out.size H1.out B1.out ht
  have H2 := Lib.hid h2
  have B2 := Lib.hid b2
  clear h2 b2 ht H1 B1
  go_wp2_with fail
  refine (kv2 _).mono ?_
  rintro e w0 ⟨rfl, rfl⟩
  go_wp2_with fail
  refine (km.out _ _ _ _ H2.out).mono ?_
  rintro e u2 ⟨rfl, ht⟩
  obtain ⟨v3, h3, b3⟩ := GatesOn.same B2.out.size H2.out B2.out ht
  have H3 := Lib.hid h3
  have B3 := Lib.hid b3
  clear h3 b3 ht H2 B2
  go_wp2_with fail
  refine (set_one 1 0 0 0 ho H3.out rfl (by decide) (by decide) (by decide)).mono ?_
  rintro e u3 ⟨rfl, ht⟩
  obtain ⟨v4, h4, b4⟩ := GatesOn.set B3.out.size H3.out B3.out ht
  have H4 := Lib.hid h4
  have B4 := Lib.hid b4
  clear h4 b4 ht H3 B3
  go_wp2_with fail
  refine (all_any _ _ _ _ _ H4.out).mono ?_
  rintro e u4 ⟨A4, c4, rfl, _, ht⟩
  obtain ⟨v5, h5, b5⟩ := GatesOn.same B4.out.size H4.out B4.out ht
  have H5 := Lib.hid h5
  have B5 := Lib.hid b5
  clear h5 b5 ht H4 B4
  go_wp2_with fail
  refine (may_one 0 0 ho H5.out (by decide)).mono ?_
  rintro e u5 ⟨rfl, ht⟩
  obtain ⟨v6, h6, b6⟩ := GatesOn.same B5.out.size H5.out B5.out ht
  have H6 := Lib.hid h6
  have B6 := Lib.hid b6
  clear h6 b6 ht H5 B5
  go_wp2_with fail
  go_ret
  exact ⟨rfl, HB.out.trans (B6.out.mono HB.out.size)⟩
set_option maxRecDepth 100000 in
set_option maxHeartbeats 1000000 in
theorem apart_per (en pe la : Int) (w : World) (ho : okT en pe = true) (h1 : ¬ en < 1) (h2 : ¬ 9 < en) (kv : ∀ w, Calls Try.prog 17 #[.int .i64 pe] w fun e w' => e = .returned (.bool true) ∧ w = w') (hne : (la == pe) = false) (km : Hid (∀ B c v w, GatesAt w B c v (oneT en pe 1) → Calls Try.prog 14 #[.pointer (some ⟨c, 0, none⟩), .int .i64 en, .int .i64 la] w fun e w' => e = .returned (.int .i64 0) ∧ Below w.heap.size w w')) (kv2 : ∀ w, Calls Try.prog 17 #[.int .i64 la] w fun e w' => e = .returned (.bool true) ∧ w = w') : Calls Try.prog 5 #[.int .i64 en, .int .i64 pe, .int .i64 en, .int .i64 la] w fun e w' => e = .returned (.bool true) ∧ Below w.heap.size w w' := by
  go_enter Try.func5, Try.ntmps5
  go_wp2_with fail
  refine (kv w).mono ?_
  rintro e w0 ⟨rfl, rfl⟩
  go_wp2_with fail
  refine (alive_any _).mono ?_
  rintro e w1 ⟨rfl, hb⟩
  have HB := Lib.hid hb
  have H0 := Lib.hid (gates_one w1 en pe)
  have B0 : Hid (Below w1.heap.size w1 (w1.alloc (.cells #[.slice none 0 0] 27))) := (Below.refl _ _).alloc (Nat.le_refl _) _
  obtain ⟨w2, hw2⟩ : ∃ w2, w1.alloc (.cells #[.slice none 0 0] 27) = w2 := ⟨_, rfl⟩
  have HW := Lib.hid hw2
  rw [hw2] at H0 B0
  clear hw2 hb
  go_wp2_with fail
  rw [HW.out]
  refine (set_one 0 1 0 1 ho H0.out rfl (by decide) (by decide) (by decide)).mono ?_
  rintro e u0 ⟨rfl, ht⟩
  obtain ⟨v1, h1, b1⟩ := GatesOn.set B0.out.size H0.out B0.out ht
  have H1 := Lib.hid h1
  have B1 := Lib.hid b1
  clear h1 b1 ht H0 B0
  go_wp2_with fail
  refine (all_any _ _ _ _ _ H1.out).mono ?_
  rintro e u1 ⟨A1, c1, rfl, _, ht⟩
  obtain ⟨v2, h2, b2⟩ := GatesOn.same B1.out.size H1.out B1.out ht
  have H2 := Lib.hid h2
  have B2 := Lib.hid b2
  clear h2 b2 ht H1 B1
  go_wp2_with fail
  refine (kv2 _).mono ?_
  rintro e w0 ⟨rfl, rfl⟩
  go_wp2_with fail
  refine (km.out _ _ _ _ H2.out).mono ?_
  rintro e u2 ⟨rfl, ht⟩
  obtain ⟨v3, h3, b3⟩ := GatesOn.same B2.out.size H2.out B2.out ht
  have H3 := Lib.hid h3
  have B3 := Lib.hid b3
  clear h3 b3 ht H2 B2
  go_wp2_with fail
  refine (set_one 1 0 0 0 ho H3.out rfl (by decide) (by decide) (by decide)).mono ?_
  rintro e u3 ⟨rfl, ht⟩
  obtain ⟨v4, h4, b4⟩ := GatesOn.set B3.out.size H3.out B3.out ht
  have H4 := Lib.hid h4
  have B4 := Lib.hid b4
  clear h4 b4 ht H3 B3
  go_wp2_with fail
  refine (all_any _ _ _ _ _ H4.out).mono ?_
  rintro e u4 ⟨A4, c4, rfl, _, ht⟩
  obtain ⟨v5, h5, b5⟩ := GatesOn.same B4.out.size H4.out B4.out ht
  have H5 := Lib.hid h5
  have B5 := Lib.hid b5
  clear h5 b5 ht H4 B4
  go_wp2_with fail
  refine (may_one 0 0 ho H5.out (by decide)).mono ?_
  rintro e u5 ⟨rfl, ht⟩
  obtain ⟨v6, h6, b6⟩ := GatesOn.same B5.out.size H5.out B5.out ht
  have H6 := Lib.hid h6
  have B6 := Lib.hid b6
  clear h6 b6 ht H5 B5
  go_wp2_with fail
  go_ret
  exact ⟨rfl, HB.out.trans (B6.out.mono HB.out.size)⟩
set_option maxRecDepth 100000 in
set_option maxHeartbeats 1000000 in
theorem apart_same (en pe : Int) (w : World) (ho : okT en pe = true) (h1 : ¬ en < 1) (h2 : ¬ 9 < en) (kv : ∀ w, Calls Try.prog 17 #[.int .i64 pe] w fun e w' => e = .returned (.bool true) ∧ w = w') (km : Hid (∀ B c v w, GatesAt w B c v (oneT en pe 1) → Calls Try.prog 14 #[.pointer (some ⟨c, 0, none⟩), .int .i64 en, .int .i64 pe] w fun e w' => e = .returned (.int .i64 6) ∧ Below w.heap.size w w')) : Calls Try.prog 5 #[.int .i64 en, .int .i64 pe, .int .i64 en, .int .i64 pe] w fun e w' => e = .returned (.bool true) ∧ Below w.heap.size w w' := by
  go_enter Try.func5, Try.ntmps5
  go_wp2_with fail
  refine (kv w).mono ?_
  rintro e w0 ⟨rfl, rfl⟩
  go_wp2_with fail
  refine (alive_any _).mono ?_
  rintro e w1 ⟨rfl, hb⟩
  have HB := Lib.hid hb
  have H0 := Lib.hid (gates_one w1 en pe)
  have B0 : Hid (Below w1.heap.size w1 (w1.alloc (.cells #[.slice none 0 0] 27))) := (Below.refl _ _).alloc (Nat.le_refl _) _
  obtain ⟨w2, hw2⟩ : ∃ w2, w1.alloc (.cells #[.slice none 0 0] 27) = w2 := ⟨_, rfl⟩
  have HW := Lib.hid hw2
  rw [hw2] at H0 B0
  clear hw2 hb
  go_wp2_with fail
  rw [HW.out]
  refine (set_one 0 1 0 1 ho H0.out rfl (by decide) (by decide) (by decide)).mono ?_
  rintro e u0 ⟨rfl, ht⟩
  obtain ⟨v1, h1, b1⟩ := GatesOn.set B0.out.size H0.out B0.out ht
  have H1 := Lib.hid h1
  have B1 := Lib.hid b1
  clear h1 b1 ht H0 B0
  go_wp2_with fail
  refine (all_any _ _ _ _ _ H1.out).mono ?_
  rintro e u1 ⟨A1, c1, rfl, _, ht⟩
  obtain ⟨v2, h2, b2⟩ := GatesOn.same B1.out.size H1.out B1.out ht
  have H2 := Lib.hid h2
  have B2 := Lib.hid b2
  clear h2 b2 ht H1 B1
  go_wp2_with fail
  refine (kv _).mono ?_
  rintro e w0 ⟨rfl, rfl⟩
  go_wp2_with fail
  refine (km.out _ _ _ _ H2.out).mono ?_
  rintro e u2 ⟨rfl, ht⟩
  obtain ⟨v3, h3, b3⟩ := GatesOn.same B2.out.size H2.out B2.out ht
  have H3 := Lib.hid h3
  have B3 := Lib.hid b3
  clear h3 b3 ht H2 B2
  go_wp2_with fail
  refine (set_one 1 0 0 0 ho H3.out rfl (by decide) (by decide) (by decide)).mono ?_
  rintro e u3 ⟨rfl, ht⟩
  obtain ⟨v4, h4, b4⟩ := GatesOn.set B3.out.size H3.out B3.out ht
  have H4 := Lib.hid h4
  have B4 := Lib.hid b4
  clear h4 b4 ht H3 B3
  go_wp2_with fail
  refine (all_any _ _ _ _ _ H4.out).mono ?_
  rintro e u4 ⟨A4, c4, rfl, _, ht⟩
  obtain ⟨v5, h5, b5⟩ := GatesOn.same B4.out.size H4.out B4.out ht
  have H5 := Lib.hid h5
  have B5 := Lib.hid b5
  clear h5 b5 ht H4 B4
  go_wp2_with fail
  refine (may_one 0 0 ho H5.out (by decide)).mono ?_
  rintro e u5 ⟨rfl, ht⟩
  obtain ⟨v6, h6, b6⟩ := GatesOn.same B5.out.size H5.out B5.out ht
  have H6 := Lib.hid h6
  have B6 := Lib.hid b6
  clear h6 b6 ht H5 B5
  go_wp2_with fail
  go_ret
  exact ⟨rfl, HB.out.trans (B6.out.mono HB.out.size)⟩

set_option maxRecDepth 100000 in
set_option maxHeartbeats 1000000 in
theorem gatesApart_walk (en pe ot la : Int) (w : World) : Calls Try.prog 5 #[.int .i64 en, .int .i64 pe, .int .i64 ot, .int .i64 la] w fun e w' => e = .returned (.bool true) ∧ Below w.heap.size w w' := by
  by_cases h1 : en < 1
  · skip
    go_enter Try.func5, Try.ntmps5
    go_wp2_with fail
    refine (alive_any _).mono ?_
    rintro e w1 ⟨rfl, hb⟩
    go_wp2_with fail
    go_ret
    exact ⟨rfl, hb⟩
  by_cases h2 : 9 < en
  · skip
    go_enter Try.func5, Try.ntmps5
    go_wp2_with fail
    refine (alive_any _).mono ?_
    rintro e w1 ⟨rfl, hb⟩
    go_wp2_with fail
    go_ret
    exact ⟨rfl, hb⟩
  have kv := fun w => refValid_any pe w
  cases hp : okP pe
  · rw [hp] at kv
    clear hp
    go_enter Try.func5, Try.ntmps5
    go_wp2_with fail
    refine (kv w).mono ?_
    rintro e w0 ⟨rfl, rfl⟩
    go_wp2_with fail
    refine (alive_any _).mono ?_
    rintro e w1 ⟨rfl, hb⟩
    go_wp2_with fail
    go_ret
    exact ⟨rfl, hb⟩
  rw [hp] at kv
  have ho : okT en pe = true := by rw [okT_p h1 h2]; exact hp
  clear hp
  have km : ∀ m, mayT (oneT en pe 1) ot la = m → Hid (∀ B c v w, GatesAt w B c v (oneT en pe 1) → Calls Try.prog 14 #[.pointer (some ⟨c, 0, none⟩), .int .i64 ot, .int .i64 la] w fun e w' => e = .returned (.int .i64 m) ∧ Below w.heap.size w w') := by
    rintro m rfl
    exact fun B c v w h => may_any B c v _ ot la w h
  by_cases g1 : ot < 1
  · exact apart_lo en pe ot la w ho h1 h2 kv g1 (by simp; omega) (km _ (may_bad (okT_lo g1)))
  by_cases g2 : 9 < ot
  · exact apart_hi en pe ot la w ho h1 h2 kv g1 g2 (by simp; omega) (km _ (may_bad (okT_hi g2)))
  have hk := okT_p (p := la) g1 g2
  have kv2 := fun w => refValid_any la w
  cases hq : okP la
  · rw [hq] at kv2 hk
    by_cases he : ot = en
    · subst he
      by_cases hl : la = pe
      · subst hl; rw [ho] at hk; cases hk
      · exact apart_badp2 ot pe la w ho h1 h2 kv (by simp [hl]) (km _ (may_bad hk)) kv2
    · exact apart_badp en pe ot la w ho h1 h2 kv g1 g2 (by simp [he]) (km _ (may_bad hk)) kv2
  · rw [hq] at kv2 hk
    by_cases he : ot = en
    · subst he
      by_cases hl : la = pe
      · subst hl
        refine apart_same ot la w ho h1 h2 kv (km _ ?_)
        unfold mayT
        rw [if_pos ho, st_one 1 ho]
        rfl
      · exact apart_per ot pe la w ho h1 h2 kv (by simp [hl]) (km _ (may_other ho hk (by omega))) kv2
    · exact apart_ent en pe ot la w ho h1 h2 kv g1 g2 (by simp [he]) (km _ (may_other ho hk (by omega))) kv2
end Go.Proofs.Ytgoekobolomppaa
