/-
  Contract of plan's (Template).accrue.
-/
import Derived.Test.YthjpknipnmagkaaMany13
import Derived.Test.YthjpknipnmagkaaJrRow
import Derived.Test.YthjpknipnmagkaaEntryReverse
namespace Go.Proofs.Ythjpknipnmagkaa
open Go.RowKit Go.Sort

def accJ (t : Tpl) (per id : Int) : Jrn := ⟨id, t.ent, per, ⟨#[]⟩, [⟨t.deb, t.amt, 0⟩, ⟨t.cre, -t.amt, 0⟩], false⟩
def accE (t : Tpl) (per id : Int) : Int := if per < 1199 then revE (accJ t per id) (id + 1) (per + 1) else 0
def accL (t : Tpl) (per id : Int) : List Jrn := accJ t per id :: if per < 1199 then [revJ (accJ t per id) (id + 1) (per + 1)] else []
/-- Journals that were made, or an error. -/
def MadeJs (w : World) (E : Int) (js : List Jrn) (e : Ending) (w' : World) : Prop :=
  Below w.heap.size w w' ∧ ((E ≠ 0 ∧ ∃ A n c, e = .returned (.tuple #[.slice A n c, .int .i64 E])) ∨ (E = 0 ∧ ∃ A c l, e = .returned (.tuple #[.slice A (List.length l) c, .int .i64 0]) ∧ l.map JR.j = js ∧ OwnJl w' w.heap.size A (List.length l) c l))
theorem own_form' {w : World} {B : Nat} {a : JR} (h : w.ownsRow B 40 3 a.lv a.j.lines.length (lins a.j.lines)) : w.ownsRow B 40 3 (.slice a.A a.j.lines.length a.c) a.j.lines.length (lins a.j.lines) := h
theorem own_one {w : World} {B : Nat} {a : JR} (h : w.ownsRow B 40 3 a.lv a.j.lines.length (lins a.j.lines)) (hB : B ≤ w.heap.size) :
    OwnJl (w.alloc (.cells a.cells.toArray 38)) B (some ⟨w.heap.size, 0, none⟩) 1 1 [a] := by
  refine ⟨?_, fun b hb => ?_⟩
  · exact ⟨by simp [jrs, JR.cells], .inr ⟨w.heap.size, 1, _, rfl, hB, heap_new w _, Nat.le_refl _, by unfold maxLen; omega, by simp [JR.cells], by simp [jrs, JR.cells]⟩⟩
  · obtain rfl : b = a := by simpa using hb
    exact own_kept h fun k hk _ => Below.heap_alloc _ _ _ hk
theorem own_two {w : World} {B : Nat} {a b : JR} (h : w.ownsRow B 40 3 a.lv a.j.lines.length (lins a.j.lines)) (h2 : w.ownsRow B 40 3 b.lv b.j.lines.length (lins b.j.lines)) (hB : B ≤ w.heap.size) :
    OwnJl (w.alloc (.cells (a.cells ++ b.cells).toArray 38)) B (some ⟨w.heap.size, 0, none⟩) 2 2 [a, b] := by
  refine ⟨?_, fun x hx => ?_⟩
  · exact ⟨by simp [jrs, JR.cells], .inr ⟨w.heap.size, 2, _, rfl, hB, heap_new w _, Nat.le_refl _, by unfold maxLen; omega, by simp [JR.cells], by simp [jrs, JR.cells]⟩⟩
  · have : x = a ∨ x = b := by simpa using hx
    rcases this with rfl | rfl
    · exact own_kept h fun k hk _ => Below.heap_alloc _ _ _ hk
    · exact own_kept h2 fun k hk _ => Below.heap_alloc _ _ _ hk

set_option maxRecDepth 100000 in
set_option maxHeartbeats 4000000 in
theorem accrue_any (t : Tpl) (per id : Int) (w : World) (ha : 1 ≤ t.amt ∧ t.amt ≤ 1000000000000000) (hp : okP per = true) (hid : -4611686018427387904 ≤ id ∧ id ≤ 4611686018427387904) :
    Calls Try.prog 60 #[.agg t.cells.toArray, .int .i64 per, .int .i64 id] w (MadeJs w (accE t per id) (accL t per id)) := by
  obtain ⟨W, hW⟩ : ∃ W, w.alloc (.cells t.cells.toArray 24) = W := ⟨_, rfl⟩
  have hbW : Below w.heap.size w W := by rw [← hW]; exact (Below.refl _ _).alloc (Nat.le_refl _) _
  have hzW : W.heap.size = w.heap.size + 1 := by rw [← hW]; simp
  have hx : TplAt W w.heap.size t := by rw [← hW]; exact heap_new w _
  obtain ⟨W1, hW1⟩ : ∃ W1, W.alloc (.cells #[.int .i64 t.deb, .int .i64 t.amt, .int .i64 0] 40) = W1 := ⟨_, rfl⟩
  have hb1 : Below W.heap.size W W1 := by rw [← hW1]; exact (Below.refl _ _).alloc (Nat.le_refl _) _
  have hz1 : W1.heap.size = W.heap.size + 1 := by rw [← hW1]; simp
  have ho1 : W1.ownsRow w.heap.size 40 3 (.slice (some ⟨W.heap.size, 0, none⟩) 1 1) 1 (lins [⟨t.deb, t.amt, 0⟩]) := by
    rw [← hW1]
    exact ⟨by simp [lins, Lin.cells], .inr ⟨W.heap.size, 1, _, rfl, by omega, heap_new W _, Nat.le_refl _, by unfold maxLen; omega, by simp, by simp [lins, Lin.cells]⟩⟩
  have kj := Lib.hid (journal_any t per id _ 1 w.heap.size _ W1 ho1 (by omega) (by omega) ha)
  have HB1 : Hid (Below w.heap.size w W1) := hbW.trans (hb1.mono hbW.size)
  have HX1 : Hid (TplAt W1 w.heap.size t) := hx.below hb1
  have HW := Lib.hid hW; have HW1 := Lib.hid hW1; have HZ1 : Hid (w.heap.size + 1 + 1 = W1.heap.size) := by unfold Hid; omega
  have HZW := Lib.hid hzW
  have hp2 := okP_t hp
  have ks := Lib.hid (fun w1 => shift_any per 1 w1 (by omega) (by omega))
  have HOKS : Hid (okS per 1 = decide (per < 1199)) := by unfold Hid okS; rw [hp, Bool.eq_iff_iff]; simp; omega
  obtain ⟨⟨x0, x1, x2, x3, x4, x5⟩, x6, x7, x8, x9, x10, x11⟩ := tpl_cells hx
  clear hW hbW hx hb1 ho1 hW1 hz1 hp hzW
  unfold Tpl.cells at *
  go_enter Try.func60, Try.ntmps60
  go_wp2_with fail
  rw [HW.out]
  rw [HW1.out]
  rw [HZW.out] at kj
  refine kj.out.mono ?_
  rintro e w2 ⟨A, c, rfl, hown2, hb2⟩
  have HO2 : Hid (w2.ownsRow w.heap.size 40 3 (JR.mk (accJ t per id) A c).lv (JR.mk (accJ t per id) A c).j.lines.length (lins (JR.mk (accJ t per id) A c).j.lines)) := hown2
  have HB2 : Hid (Below w.heap.size w w2) := HB1.out.trans hb2
  obtain ⟨W3, hW3⟩ : ∃ W3, w2.alloc (.cells #[.int .i64 id, .int .i64 t.ent, .int .i64 per, .string ⟨#[]⟩, .slice A 2 c, .bool false] 38) = W3 := ⟨_, rfl⟩
  have hb3 : Below w2.heap.size w2 W3 := by rw [← hW3]; exact (Below.refl _ _).alloc (Nat.le_refl _) _
  have HJ3 : Hid (JAt W3 w2.heap.size (accJ t per id) A 2 c) := by rw [← hW3]; exact heap_new w2 _
  have HW3 := Lib.hid hW3
  have HB3 := Lib.hid hb3
  have hz2 := HB2.out.size
  clear hown2 hb2 hW3 hb3 kj x0 x1 x2 x3 x4 x5 x6 x7 x8 x9 x10 x11
  go_wp2_with fail
  rw [HW3.out]
  refine (ks.out _).mono ?_
  rintro e w4 ⟨rfl, hb4⟩
  have HB24 : Hid (Below w2.heap.size w2 w4) := HB3.out.trans (hb4.mono HB3.out.size)
  have HB4 : Hid (Below w.heap.size w w4) := HB2.out.trans (HB24.out.mono HB2.out.size)
  have hj4 : JAt w4 w2.heap.size (accJ t per id) A 2 c := (hb4.block _ (lt_of_blk HJ3.out)).trans HJ3.out
  have HO4 : Hid (w4.ownsRow w.heap.size 40 3 (JR.mk (accJ t per id) A c).lv (JR.mk (accJ t per id) A c).j.lines.length (lins (JR.mk (accJ t per id) A c).j.lines)) := own_kept HO2.out fun k hk _ => HB24.out.block k hk
  obtain ⟨b0, b1, b2, b3, b4, b5⟩ := six_cells hj4
  have HJ4 := Lib.hid hj4
  clear hb4 hj4 ks
  by_cases hlt : per < 1199
  rotate_left
  · have hE : shiftE per 1 = 1 := by unfold shiftE; rw [HOKS.out, decide_eq_false hlt]; rfl
    have hA : accE t per id = 0 := by unfold accE; rw [if_neg hlt]
    have hL : accL t per id = [accJ t per id] := by unfold accL; rw [if_neg hlt]
    rw [hE]
    have HA := Lib.hid hA; have HL := Lib.hid hL
    have HLT := Lib.hid hlt
    unfold accJ at b0 b1 b2 b3 b5
    dsimp only at b0 b1 b2 b3 b5
    clear hE hA hL hlt
    go_wp2_with fail
    go_ret2
    refine ⟨HB4.out.alloc HB4.out.size _, .inr ⟨HA.out, some ⟨w4.heap.size, 0, none⟩, 1, [JR.mk (accJ t per id) A c], rfl, HL.out.symm, own_one HO4.out HB4.out.size⟩⟩
  · have hE : shiftE per 1 = 0 := by unfold shiftE; rw [HOKS.out, decide_eq_true hlt]; rfl
    have hV : shiftV per 1 = per + 1 := by unfold shiftV; rw [HOKS.out, decide_eq_true hlt]; rfl
    have hA : accE t per id = revE (accJ t per id) (id + 1) (per + 1) := by unfold accE; rw [if_pos hlt]
    have hL : accL t per id = [accJ t per id, revJ (accJ t per id) (id + 1) (per + 1)] := by unfold accL; rw [if_pos hlt]
    have hrd := rd_of_own (own_form' HO4.out)
    have kr := Lib.hid (reverse_any (accJ t per id) A 2 c w4.heap.size (id + 1) (per + 1) w4 hrd (Nat.le_refl _) (by unfold maxLen; omega) (Nat.zero_le _))
    have hwr : wrap64 (id + 1) = id + 1 := by unfold wrap64; omega
    rw [hE, hV]
    have HA := Lib.hid hA; have HL := Lib.hid hL
    have HLT := Lib.hid hlt
    unfold Jrn.val at kr
    have HRV : Hid (revE (accJ t per id) (id + 1) (per + 1) = 0 → revV (accJ t per id) (id + 1) (per + 1) = revJ (accJ t per id) (id + 1) (per + 1)) := fun h => by unfold revV; rw [if_pos h]
    clear hE hV hA hL hlt hrd
    unfold accJ at b0 b1 b2 b3 b5 kr
    dsimp only at b0 b1 b2 b3 b5 kr
    go_wp2_with fail
    refine kr.out.mono ?_
    rintro e w5 ⟨A5, n5, c5, he5, hown5, hb5⟩
    have hnl : (revV (accJ t per id) (id + 1) (per + 1)).lines.length = n5 := by have := hown5.1; rw [lins_len] at this; exact Nat.eq_of_mul_eq_mul_right (by omega) this
    subst hnl
    have he6 : e = .returned (.tuple #[.agg #[.int .i64 (revV (accJ t per id) (id + 1) (per + 1)).id, .int .i64 (revV (accJ t per id) (id + 1) (per + 1)).ent, .int .i64 (revV (accJ t per id) (id + 1) (per + 1)).per, .string (revV (accJ t per id) (id + 1) (per + 1)).ref, .slice A5 (revV (accJ t per id) (id + 1) (per + 1)).lines.length c5, .bool (revV (accJ t per id) (id + 1) (per + 1)).void], .int .i64 (revE (accJ t per id) (id + 1) (per + 1))]) := he5
    have HO5 : Hid (w5.ownsRow w4.heap.size 40 3 (JR.mk (revV (accJ t per id) (id + 1) (per + 1)) A5 c5).lv (JR.mk (revV (accJ t per id) (id + 1) (per + 1)) A5 c5).j.lines.length (lins (JR.mk (revV (accJ t per id) (id + 1) (per + 1)) A5 c5).j.lines)) := hown5
    have HOA : Hid (w5.ownsRow w.heap.size 40 3 (JR.mk (accJ t per id) A c).lv (JR.mk (accJ t per id) A c).j.lines.length (lins (JR.mk (accJ t per id) A c).j.lines)) := own_kept HO4.out fun k hk _ => hb5.block k hk
    have HB5 : Hid (Below w.heap.size w w5) := HB4.out.trans (hb5.mono HB4.out.size)
    have HJ5 : Hid (JAt w5 w2.heap.size (accJ t per id) A 2 c) := (hb5.block _ (lt_of_blk HJ4.out)).trans HJ4.out
    subst he6
    clear hown5 hb5 he5 kr b0 b1 b2 b3 b4 b5
    generalize revV (accJ t per id) (id + 1) (per + 1) = RV at *
    generalize revE (accJ t per id) (id + 1) (per + 1) = RE at *
    obtain ⟨W6, hW6⟩ : ∃ W6, w5.alloc (.cells #[.int .i64 RV.id, .int .i64 RV.ent, .int .i64 RV.per, .string RV.ref, .slice A5 RV.lines.length c5, .bool RV.void] 38) = W6 := ⟨_, rfl⟩
    have hb6 : Below w5.heap.size w5 W6 := by rw [← hW6]; exact (Below.refl _ _).alloc (Nat.le_refl _) _
    have HB6 : Hid (Below w.heap.size w W6) := HB5.out.trans (hb6.mono HB5.out.size)
    have HOB6 : Hid (W6.ownsRow w.heap.size 40 3 (JR.mk RV A5 c5).lv (JR.mk RV A5 c5).j.lines.length (lins (JR.mk RV A5 c5).j.lines)) := own_base (own_kept HO5.out fun k hk _ => hb6.block k hk) HB4.out.size
    have HOA6 : Hid (W6.ownsRow w.heap.size 40 3 (JR.mk (accJ t per id) A c).lv (JR.mk (accJ t per id) A c).j.lines.length (lins (JR.mk (accJ t per id) A c).j.lines)) := own_kept HOA.out fun k hk _ => hb6.block k hk
    have HZ6 : Hid (W6.heap.size = w5.heap.size + 1) := by rw [← hW6]; simp [Hid]
    have HW6 := Lib.hid hW6
    have HAL : Hid (∀ a v, w5.cell? a = some v → ∀ o, (w5.alloc o).cell? a = some v) := fun a v hv o => (((Below.refl w5.heap.size w5).alloc (Nat.le_refl _) o).cell (block_of_cell hv)).trans hv
    obtain ⟨b0, b1, b2, b3, b4, b5⟩ := six_cells HJ5.out
    replace b0 := HAL.out _ _ b0; replace b1 := HAL.out _ _ b1; replace b2 := HAL.out _ _ b2; replace b3 := HAL.out _ _ b3; replace b4 := HAL.out _ _ b4; replace b5 := HAL.out _ _ b5
    unfold accJ at b0 b1 b2 b3 b5
    dsimp only at b0 b1 b2 b3 b5
    clear hW6 hb6
    by_cases hv : RE = 0
    · subst hv
      have HR2 := Lib.hid (HRV.out rfl)
      go_wp2_with fail
      rw [HW6.out]
      go_ret2
      refine ⟨HB6.out.alloc HB6.out.size _, .inr ⟨HA.out, some ⟨w5.heap.size + 1, 0, none⟩, 2, [JR.mk (accJ t per id) A c, JR.mk RV A5 c5], rfl, by rw [HL.out, ← HR2.out]; rfl, HZ6.out ▸ own_two HOA6.out HOB6.out HB6.out.size⟩⟩
    · have hv2 : (RE != 0) = true := by simpa using hv
      have HV := Lib.hid hv
      clear hv
      go_wp2_with fail
      rw [HW6.out]
      go_ret2
      exact ⟨HB6.out, .inl ⟨fun h => HV.out (HA.out.symm.trans h), none, 0, 0, by rw [HA.out]; rfl⟩⟩
end Go.Proofs.Ythjpknipnmagkaa

