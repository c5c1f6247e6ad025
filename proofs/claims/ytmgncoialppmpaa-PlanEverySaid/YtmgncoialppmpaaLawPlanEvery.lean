/-
  The statement PlanEvery.
-/
-- WIT0: .agg #[.int .i64 0, .int .i64 0, .int .i64 0, .int .i64 0, .int .i64 0, .int .i64 0, .int .i64 0, .int .i64 0, .int .i64 0, .slice none 0 0, .slice none 0 0, .int .i64 0]
-- HOLE2: obtain ⟨fuel0, hf0⟩ := h0
-- obtain ⟨t0, rfl, q0, s0⟩ := argTpl hf0
-- exact every_walk t0 W q0
import Derived.Test.YtmgncoialppmpaaMany19
import Derived.BigQuiet
namespace Go.Proofs.Ytmgncoialppmpaa
open Mo
open Go.RowKit Go.Sort

theorem tpl_new (w : World) (t : Tpl) (B : Nat) (hB : w.heap.size = B) : Rd (w.alloc (.cells t.cells.toArray 24)) (w.alloc (.cells t.cells.toArray 24)).heap.size 12 (some ⟨B, 0, none⟩) 1 (tpls [t]) := hB ▸ tpl_one w t
theorem perT_get {t : Tpl} {k : Nat} (hc : chkT t = true) (hk : k < (perT t).length) : (perT t)[k]? = some (t.frm + (k : Int) * t.ev) ∧ t.frm + (k : Int) * t.ev ≤ t.til := by
  obtain ⟨_, _, h3, h4, _⟩ := front_of hc
  unfold perT at hk ⊢
  rw [if_pos hc] at hk ⊢
  rw [perL_len] at hk
  refine ⟨?_, (per_lt h4.1 h3 k).1 hk⟩
  unfold perL
  rw [List.getElem?_map, List.getElem?_range hk]
  rfl
theorem perT_last {t : Tpl} (hc : chkT t = true) : 1 ≤ (perT t).length ∧ t.til < t.frm + (((perT t).length - 1 : Nat) : Int) * t.ev + t.ev := by
  obtain ⟨_, _, h3, h4, _⟩ := front_of hc
  have hl : (perT t).length = perN t.frm t.til t.ev := by unfold perT; rw [if_pos hc, perL_len]
  have h1 : 1 ≤ perN t.frm t.til t.ev := by unfold perN; omega
  have h2 := mt (per_lt h4.1 h3 (perN t.frm t.til t.ev)).2 (Nat.lt_irrefl _)
  rw [hl]
  refine ⟨h1, ?_⟩
  obtain ⟨m, hm⟩ : ∃ m, perN t.frm t.til t.ev = m + 1 := ⟨perN t.frm t.til t.ev - 1, by omega⟩
  rw [hm] at h2 ⊢
  rw [show ((m + 1 : Nat) : Int) = (m : Int) + 1 by omega, Int.add_mul, Int.one_mul] at h2
  show t.til < t.frm + (m : Int) * t.ev + t.ev
  omega

set_option maxRecDepth 100000 in
set_option maxHeartbeats 8000000 in
theorem every_walk (t : Tpl) (w : World) (h : TplIn w t) : Calls Try.prog 4 #[.agg t.cells.toArray] w fun e w' => e = .returned (.bool true) ∧ Below w.heap.size w w' := by
  obtain ⟨W, hW⟩ : ∃ W, w.alloc (.cells t.cells.toArray 24) = W := ⟨_, rfl⟩
  have hb : Below w.heap.size w W := by rw [← hW]; exact (Below.refl _ _).alloc (Nat.le_refl _) _
  have hx : TplAt W w.heap.size t := by rw [← hW]; exact heap_new w _
  have hz : W.heap.size = w.heap.size + 1 := by rw [← hW]; simp
  obtain ⟨W2, hW2⟩ : ∃ W2, W.alloc (.cells t.cells.toArray 24) = W2 := ⟨_, rfl⟩
  have hb2 : Below W.heap.size W W2 := by rw [← hW2]; exact (Below.refl _ _).alloc (Nat.le_refl _) _
  have hrd := tpl_new W t _ hz
  rw [hW2] at hrd
  have HB2 : Hid (Below w.heap.size w W2) := hb.trans (hb2.mono hb.size)
  have HIN : Hid (∀ w1, Below w.heap.size w w1 → TplIn w1 t) := fun w1 h1 => h.below h1
  have KS := Lib.hid (small_any [t] _ 1 1 W2 hrd fun u hu => by
    have : u = t := by simpa using hu
    subst this
    exact HIN.out _ HB2.out)
  have HX2 : Hid (∀ w', Below W2.heap.size W2 w' → TplAt w' w.heap.size t) := fun w' h => (hx.below hb2).below h
  have HW := Lib.hid hW; have HW2 := Lib.hid hW2; have HZ := Lib.hid hz
  have KA : Hid (∀ w1, Calls Try.prog 9 #[] w1 fun e w' => e = .returned (.bool true) ∧ Below w1.heap.size w1 w') := alive9_any
  obtain ⟨⟨x0, x1, x2, x3, x4, x5⟩, x6, x7, x8, x9, x10, x11⟩ := tpl_cells hx
  clear hW hb hx hz hW2 hb2 hrd h
  unfold Tpl.cells at *
  go_enter Try.func4, Try.ntmps4
  go_wp2_with fail
  rw [HW.out]
  go_wp2_with fail
  rw [HW2.out]
  refine KS.out.mono ?_
  rintro e w3 ⟨b, rfl, _, hb3⟩
  have HB3 : Hid (Below w.heap.size w w3) := HB2.out.trans (hb3.mono HB2.out.size)
  have HX3 : Hid (TplAt w3 w.heap.size t) := HX2.out w3 hb3
  clear hb3 KS HW HW2 HX2 x0 x1 x2 x3 x4 x5 x6 x7 x8 x9 x10 x11
  cases b
  · go_wp2_with fail
    refine (KA.out _).mono ?_
    rintro e w4 ⟨rfl, hb4⟩
    have HB4 := Lib.hid (HB3.out.trans (hb4.mono HB3.out.size))
    clear hb4
    go_wp2_with fail
    go_ret
    exact ⟨rfl, HB4.out⟩
  go_wp2_with fail
  refine (KA.out _).mono ?_
  rintro e w4 ⟨rfl, hb4⟩
  have HB4 : Hid (Below w.heap.size w w4) := HB3.out.trans (hb4.mono HB3.out.size)
  have HX4 : Hid (TplAt w4 w.heap.size t) := HX3.out.below hb4
  clear hb4
  obtain ⟨⟨x0, x1, x2, x3, x4, x5⟩, x6, x7, x8, x9, x10, x11⟩ := tpl_cells HX4.out
  have KP := Lib.hid (periods_any t w4 (HIN.out w4 HB4.out))
  unfold Tpl.cells at KP
  go_wp2_with fail
  refine KP.out.mono ?_
  rintro e w5 ⟨A5, c5, rfl, hown5, hb5⟩
  have HB5 : Hid (Below w.heap.size w w5) := HB4.out.trans (hb5.mono HB4.out.size)
  have HX5 : Hid (TplAt w5 w.heap.size t) := HX4.out.below hb5
  have KC := Lib.hid (checkT_any t w5 (HIN.out w5 HB5.out))
  have HRD : Hid (∀ w1, Below w5.heap.size w5 w1 → Rd w1 w5.heap.size 1 A5 (perT t).length (ints .i64 (perT t))) := fun w1 h1 => (rd_of_own hown5).below h1
  clear hb5 hown5 KP x0 x1 x2 x3 x4 x5 x6 x7 x8 x9 x10 x11
  obtain ⟨⟨x0, x1, x2, x3, x4, x5⟩, x6, x7, x8, x9, x10, x11⟩ := tpl_cells HX5.out
  unfold Tpl.cells at KC
  cases hc : chkT t
  · rw [chkTE_no hc] at KC
    have hp : (perT t).length = 0 := by rw [perT_no hc]; rfl
    rw [hp]
    clear HRD hc hp
    go_wp2_with fail
    refine KC.out.mono ?_
    rintro e w6 ⟨rfl, hb6⟩
    have HB6 := Lib.hid (HB5.out.trans (hb6.mono HB5.out.size))
    clear hb6 KC x0 x1 x2 x3 x4 x5 x6 x7 x8 x9 x10 x11
    go_wp2_with fail
    go_ret
    exact ⟨rfl, HB6.out⟩
  rw [chkTE_yes hc] at KC
  have HG : Hid (∀ k, k < (perT t).length → (perT t)[k]? = some (t.frm + (k : Int) * t.ev) ∧ t.frm + (k : Int) * t.ev ≤ t.til) := fun k hk => perT_get hc hk
  obtain ⟨hl1, hl2⟩ := perT_last hc
  have hl3 := perT_le t
  obtain ⟨f1, f2, f3, f4, _⟩ := front_of hc
  clear hc
  generalize perT t = P at *
  go_wp2_with fail
  refine KC.out.mono ?_
  rintro e w6 ⟨rfl, hb6⟩
  have HB6 := Lib.hid (HB5.out.trans (hb6.mono HB5.out.size))
  have HB56 := Lib.hid hb6
  have HX6 : Hid (TplAt w6 w.heap.size t) := HX5.out.below hb6
  clear hb6 KC x0 x1 x2 x3 x4 x5 x6 x7 x8 x9 x10 x11
  go_wp2_with fail
  go_loopw [4] (fun iv wr => ∃ k : Nat, k ≤ P.length ∧ iv = .int .i64 k ∧ Below w6.heap.size w6 wr) (fun iv _ => P.length - (intOf iv).toNat)
  case atStart => exact ⟨0, Nat.zero_le _, rfl, Below.refl _ _⟩
  case round =>
    obtain ⟨k, hk, rfl, hbel⟩ := hrel
    have HBW : Hid (Below w.heap.size w wr) := HB6.out.trans (hbel.mono HB6.out.size)
    have HBE := Lib.hid hbel
    obtain ⟨⟨x0, x1, x2, x3, x4, x5⟩, x6, x7, x8, x9, x10, x11⟩ := tpl_cells (HX6.out.below hbel)
    have HR2 : Hid (Rd wr w5.heap.size 1 A5 P.length (ints .i64 P)) := HRD.out wr (HB56.out.trans (hbel.mono HB56.out.size))
    clear hbel x0 x1 x2 x6 x7 x8 x9 x10 x11
    by_cases hlt : k < P.length
    · have hkI : (k : Int) < (P.length : Int) := by omega
      obtain ⟨hg1, hg2⟩ := HG.out k hlt
      obtain ⟨ad, hA, hb2, z0⟩ := HR2.out.int hlt
      rw [hg1, Option.getD_some] at z0
      subst hA
      have hm0 : 0 ≤ (k : Int) * t.ev := Int.mul_nonneg (by omega) (by omega)
      have hw1 : wrap64 ((k : Int) * t.ev) = (k : Int) * t.ev := by unfold wrap64; omega
      have hw2 : wrap64 (t.frm + (k : Int) * t.ev) = t.frm + (k : Int) * t.ev := by unfold wrap64; omega
      have hd : decide (t.til < t.frm + (k : Int) * t.ev) = false := decide_eq_false (by omega)
      clear hg1 hg2 hb2 hm0 f1 f2 f3 f4 hl1 hl2
      go_wp2_with fail
      go_big_quiet (fail)
      go_wp2_with fail
      exact ⟨⟨k + 1, by omega, by go_num, below_drewN HBE.out _⟩, by simp [intOf]; omega⟩
    · obtain rfl : k = P.length := by omega
      obtain ⟨hg1, hg2⟩ := HG.out (P.length - 1) (by omega)
      obtain ⟨ad, hA, hb2, z0⟩ := HR2.out.int (i := P.length - 1) (by omega)
      rw [hg1, Option.getD_some] at z0
      subst hA
      generalize P.length = n at *
      have hm0 : 0 ≤ ((n - 1 : Nat) : Int) * t.ev := Int.mul_nonneg (by omega) (by omega)
      have hk1 : wrap64 ((n : Int) - 1) = ((n - 1 : Nat) : Int) := by unfold wrap64; omega
      have hk2 : ((n - 1 : Nat) : Int) < (n : Int) := by omega
      have hn1 : decide ((1 : Int) ≤ (n : Int)) = true := decide_eq_true (by omega)
      have hn2 : decide (1 ≤ n) = true := decide_eq_true hl1
      generalize ((n - 1 : Nat) : Int) * t.ev = m at *
      have hw2 : wrap64 (t.frm + m + t.ev) = t.frm + m + t.ev := by unfold wrap64; omega
      have hd : decide (t.til < t.frm + m + t.ev) = true := decide_eq_true (by omega)
      clear hg1 hg2 hb2 hm0 f1 f2 f3 f4 hl1 hl2
      go_wp2_with fail
      go_big_quiet (fail)
      go_wp2_with fail
      go_ret
      exact ⟨rfl, below_drewN HBW.out _⟩
end Go.Proofs.Ytmgncoialppmpaa

