/-
  The statements' helper alive, of plan.
-/
import Derived.Test.YthjpknipnmagkaaPlanRun
import Derived.Test.YthjpknipnmagkaaMany17
namespace Go.Proofs.Ythjpknipnmagkaa
open Mo
open Go.RowKit Go.Sort

def t9 : Tpl := ⟨1, 1, 1, 3, 4, 1, 5, 1, 2, [], [], none, 0, none, 0, 0⟩
theorem t9_chk : chkT t9 = true := by decide
theorem t9_per : perT t9 = [3, 4] := by
  unfold perT
  rw [if_pos t9_chk]
  decide
theorem t9_mkL (p id : Int) : mkL t9 p id = accL t9 p id := by unfold mkL; exact if_pos rfl
theorem t9_run : runJ [t9] 10 = some [accJ t9 3 10, revJ (accJ t9 3 10) 11 4, accJ t9 4 12, revJ (accJ t9 4 12) 13 5] := by
  have hi : itemsK [t9] 1 = [⟨3, 0, 0⟩, ⟨4, 0, 0⟩] := by
    rw [itemsK_succ (t := t9) rfl]
    show [] ++ tplP 0 t9.rk (perT t9) = _
    rw [t9_per]
    rfl
  have hp : putsI [] [⟨3, 0, 0⟩, ⟨4, 0, 0⟩] = [⟨3, 0, 0⟩, ⟨4, 0, 0⟩] := by decide
  have m1 : mkB t9 3 10 = true := by unfold mkB; rw [t9_per, t9_mkL, t9_chk]; decide
  have m2 : mkB t9 4 12 = true := by unfold mkB; rw [t9_per, t9_mkL, t9_chk]; decide
  unfold runJ
  rw [show [t9].length = 1 from rfl, hi, hp, runT_step (i := 0) rfl rfl]
  rw [show (10 : Int) + (([] : List Jrn).length : Int) = 10 from rfl, if_pos m1, t9_mkL, show accL t9 3 10 = [accJ t9 3 10, revJ (accJ t9 3 10) 11 4] from rfl, runT_step (i := 0) rfl rfl]
  rw [show (10 : Int) + ((([] : List Jrn) ++ [accJ t9 3 10, revJ (accJ t9 3 10) 11 4]).length : Int) = 12 from rfl, if_pos m2, t9_mkL, show accL t9 4 12 = [accJ t9 4 12, revJ (accJ t9 4 12) 13 5] from rfl]
  rfl

theorem tpl_one (w : World) (t : Tpl) : Rd (w.alloc (.cells t.cells.toArray 24)) (w.alloc (.cells t.cells.toArray 24)).heap.size 12 (some ⟨w.heap.size, 0, none⟩) 1 (tpls [t]) :=
  ⟨rfl, fun _ => ⟨_, rfl, by simp, by
    have := cells_new w t.cells 24
    rwa [show tpls [t] = t.cells by simp [tpls]]⟩⟩
theorem t9_in (w : World) : TplIn w t9 := ⟨⟨rfl, fun h => absurd h (by decide)⟩, ⟨rfl, fun h => absurd h (by decide)⟩, by decide, by decide⟩
theorem chkT_size {js : List Jrn} (h : js = [accJ t9 3 10, revJ (accJ t9 3 10) 11 4, accJ t9 4 12, revJ (accJ t9 4 12) 13 5]) : ∀ j ∈ js, j.ref.size ≤ maxLen ∧ j.lines.length ≤ maxLen := by
  subst h
  intro j hj
  have : j = accJ t9 3 10 ∨ j = revJ (accJ t9 3 10) 11 4 ∨ j = accJ t9 4 12 ∨ j = revJ (accJ t9 4 12) 13 5 := by simpa using hj
  rcases this with rfl | rfl | rfl | rfl <;> exact ⟨Nat.zero_le _, by show 2 ≤ maxLen; unfold maxLen; omega⟩
set_option maxRecDepth 100000 in
set_option maxHeartbeats 4000000 in
theorem alive9_any (w : World) : Calls Try.prog 11 #[] w fun e w' => e = .returned (.bool true) ∧ Below w.heap.size w w' := by
  obtain ⟨W, hW⟩ : ∃ W, w.alloc (.cells t9.cells.toArray 24) = W := ⟨_, rfl⟩
  have hb : Below w.heap.size w W := by rw [← hW]; exact (Below.refl _ _).alloc (Nat.le_refl _) _
  have hx : TplAt W w.heap.size t9 := by rw [← hW]; exact heap_new w _
  have hz : W.heap.size = w.heap.size + 1 := by rw [← hW]; simp
  obtain ⟨W2, hW2⟩ : ∃ W2, W.alloc (.cells t9.cells.toArray 24) = W2 := ⟨_, rfl⟩
  have hb2 : Below W.heap.size W W2 := by rw [← hW2]; exact (Below.refl _ _).alloc (Nat.le_refl _) _
  have hrd := tpl_one W t9
  rw [hW2, hz] at hrd
  have kr := run_any 10 [t9] _ 1 1 W2 hrd (fun t ht => by have : t = t9 := by simpa using ht
                                                          subst this; exact t9_in _) (by omega) (by omega)
  rw [t9_run] at kr
  have HB2 : Hid (Below w.heap.size w W2) := hb.trans (hb2.mono hb.size)
  have HX2 : Hid (∀ w', Below W2.heap.size W2 w' → TplAt w' w.heap.size t9) := fun w' h => (hx.below hb2).below h
  have KR := Lib.hid kr
  have HW : Hid (w.alloc (.cells #[.int .i64 1, .int .i64 1, .int .i64 1, .int .i64 3, .int .i64 4, .int .i64 1, .int .i64 5, .int .i64 1, .int .i64 2, .slice none 0 0, .slice none 0 0, .int .i64 0] 24) = W) := hW
  have HW2 : Hid (W.alloc (.cells #[.int .i64 1, .int .i64 1, .int .i64 1, .int .i64 3, .int .i64 4, .int .i64 1, .int .i64 5, .int .i64 1, .int .i64 2, .slice none 0 0, .slice none 0 0, .int .i64 0] 24) = W2) := hW2
  have HZ := Lib.hid hz
  have hx' := hx
  obtain ⟨⟨x0, x1, x2, x3, x4, x5⟩, x6, x7, x8, x9, x10, x11⟩ := tpl_cells hx
  simp only [t9] at x0 x1 x2 x3 x4 x5 x6 x7 x8 x9 x10 x11
  clear hW hb hx hz hW2 hb2 hrd kr hx'
  go_enter Try.func11, Try.ntmps11
  go_wp2_with fail
  rw [HW.out]
  go_wp2_with fail
  rw [HW2.out]
  refine KR.out.mono ?_
  rintro e w3 ⟨hb3, hres⟩
  rcases hres with ⟨h, _⟩ | ⟨A, c, la, h, rfl, hown⟩
  · cases h
  injection h with hm
  have hb03 : Below w.heap.size w w3 := HB2.out.trans (hb3.mono HB2.out.size)
  have HBW := Lib.hid hb03
  obtain ⟨⟨y0, y1, y2, y3, y4, y5⟩, y6, y7, y8, y9, y10, y11⟩ := tpl_cells (HX2.out w3 hb3)
  simp only [t9] at y0 y1 y2 y3 y4 y5 y6 y7 y8 y9 y10 y11
  have KC : Hid (Calls Try.prog 31 #[.agg #[.int .i64 1, .int .i64 1, .int .i64 1, .int .i64 3, .int .i64 4, .int .i64 1, .int .i64 5, .int .i64 1, .int .i64 2, .slice none 0 0, .slice none 0 0, .int .i64 0]] w3 fun e w' => e = .returned (.int .i64 0) ∧ Below w3.heap.size w3 w') := by
    have := checkT_any t9 w3 (t9_in w3)
    rwa [chkTE_yes t9_chk] at this
  obtain ⟨a, b, c', d, rfl, ha, hbj, hd⟩ : ∃ a b c' d, la = [a, b, c', d] ∧ a.j = accJ t9 3 10 ∧ b.j = revJ (accJ t9 3 10) 11 4 ∧ d.j = revJ (accJ t9 4 12) 13 5 := by
    rcases la with _ | ⟨a, _ | ⟨b, _ | ⟨c', _ | ⟨d, _ | ⟨e', r⟩⟩⟩⟩⟩ <;> simp at hm
    exact ⟨a, b, c', d, rfl, hm.1.symm, hm.2.1.symm, hm.2.2.2.symm⟩
  obtain ⟨g, cap, hv, _, _⟩ := hown.own.form (by simp)
  injection hv with hA hn hc
  subst hA
  have q := hown.own.cells (g := g) rfl
  have Q : ∀ j u, (jrs [a, b, c', d])[j]? = some u → w3.cell? ⟨g, j, none⟩ = some u := fun j u hu => by
    have := q j u hu
    rwa [Addr.add_lit, Nat.zero_add] at this
  have c0 : w3.cell? ⟨g, 0, none⟩ = some (.int .i64 10) := (Q 0 _ rfl).trans (by rw [ha]; rfl)
  have c18 : w3.cell? ⟨g, 18, none⟩ = some (.int .i64 13) := (Q 18 _ rfl).trans (by rw [hd]; rfl)
  have c20 : w3.cell? ⟨g, 20, none⟩ = some (.int .i64 5) := (Q 20 _ rfl).trans (by rw [hd]; rfl)
  have hl := hown.lines b (by simp)
  have hl' : w3.ownsRow W2.heap.size 40 3 (.slice b.A b.j.lines.length b.c) b.j.lines.length (lins b.j.lines) := hl
  have c10 : w3.cell? ⟨g, 10, none⟩ = some (.slice b.A b.j.lines.length b.c) := Q 10 _ rfl
  rw [hbj] at hl' c10
  obtain ⟨g1, cap1, hv1, _, _⟩ := hl'.form (by show 0 < 2; omega)
  injection hv1 with hA1 hn1 hc1
  rw [hA1] at hl' c10
  have c1 : w3.cell? ⟨g1, 1, none⟩ = some (.int .i64 (-5)) := by
    have := hl'.cells (g := g1) rfl 1 _ rfl
    rwa [Addr.add_lit, Nat.zero_add] at this
  replace c10 : w3.cell? ⟨g, 10, none⟩ = some (.slice (some ⟨g1, 0, none⟩) 2 b.c) := c10
  clear hb3 hown hm hb03 ha hbj hd q Q hl hl' KR HW HW2 x0 x1 x2 x3 x4 x5 x6 x7 x8 x9 x10 x11
  go_wp2_with fail
  refine KC.out.mono ?_
  rintro e w4 ⟨rfl, hb4⟩
  have HB4 := Lib.hid (HBW.out.trans (hb4.mono HBW.out.size))
  clear hb4 KC y0 y1 y2 y3 y4 y5 y6 y7 y8 y9 y10 y11
  go_wp2_with fail
  go_ret
  exact ⟨rfl, HB4.out⟩
end Go.Proofs.Ythjpknipnmagkaa

