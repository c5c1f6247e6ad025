/-
  Several texts, one behind the other: what each holds stands ahead of it.
-/
import Derived.Test.YthjpknipnmagkaaPlanRun
import Derived.Test.YthjpknipnmagkaaMany17
import Derived.Test.YthjpknipnmagkaaArgRd
import Derived.Test.YthjpknipnmagkaaMany7
import Derived.Lib.SmallJoins
import Derived.Test.YthjpknipnmagkaaMany9

/-
  The statements' helper alive, of plan.
-/
namespace Go.Proofs.Ythjpknipnmagkaa
open Mo
open Go.RowKit Go.Sort

def t9 : Tpl := ⟨1, 1, 1, 3, 4, 1, 5, 1, 2, [], [], none, 0, none, 0, 0⟩
theorem t9_chk : chkT t9 = true := by decide
theorem t9_per : perT t9 = [3, 4] := by
  unfold perT
  rw [if_pos t9_chk]
  decide
theorem t9_mkL (p id : Int) : mkL t9 p id = accL t9 p id := by unfold mkL; exact if_pos rfl
theorem t9_run : runJ [t9] 10 = some [accJ t9 3 10, revJ (accJ t9 3 10) 11 4, accJ t9 4 12, revJ (accJ t9 4 12) 13 5] := by
  have hi : itemsK [t9] 1 = [⟨3, 0, 0⟩, ⟨4, 0, 0⟩] := by
    rw [itemsK_succ (t := t9) rfl]
    show [] ++ tplP 0 t9.rk (perT t9) = _
    rw [t9_per]
    rfl
  have hp : putsI [] [⟨3, 0, 0⟩, ⟨4, 0, 0⟩] = [⟨3, 0, 0⟩, ⟨4, 0, 0⟩] := by decide
  have m1 : mkB t9 3 10 = true := by unfold mkB; rw [t9_per, t9_mkL, t9_chk]; decide
  have m2 : mkB t9 4 12 = true := by unfold mkB; rw [t9_per, t9_mkL, t9_chk]; decide
  unfold runJ
  rw [show [t9].length = 1 from rfl, hi, hp, runT_step (i := 0) rfl rfl]
  rw [show (10 : Int) + (([] : List Jrn).length : Int) = 10 from rfl, if_pos m1, t9_mkL, show accL t9 3 10 = [accJ t9 3 10, revJ (accJ t9 3 10) 11 4] from rfl, runT_step (i := 0) rfl rfl]
  rw [show (10 : Int) + ((([] : List Jrn) ++ [accJ t9 3 10, revJ (accJ t9 3 10) 11 4]).length : Int) = 12 from rfl, if_pos m2, t9_mkL, show accL t9 4 12 = [accJ t9 4 12, revJ (accJ t9 4 12) 13 5] from rfl]
  rfl

theorem tpl_one (w : World) (t : Tpl) : Rd (w.alloc (.cells t.cells.toArray 24)) (w.alloc (.cells t.cells.toArray 24)).heap.size 12 (some ⟨w.heap.size, 0, none⟩) 1 (tpls [t]) :=
  ⟨rfl, fun _ => ⟨_, rfl, by simp, by
    have := cells_new w t.cells 24
    rwa [show tpls [t] = t.cells by simp [tpls]]⟩⟩
theorem t9_in (w : World) : TplIn w t9 := ⟨⟨rfl, fun h => absurd h (by decide)⟩, ⟨rfl, fun h => absurd h (by decide)⟩, by decide, by decide⟩
theorem chkT_size {js : List Jrn} (h : js = [accJ t9 3 10, revJ (accJ t9 3 10) 11 4, accJ t9 4 12, revJ (accJ t9 4 12) 13 5]) : ∀ j ∈ js, j.ref.size ≤ maxLen ∧ j.lines.length ≤ maxLen := by
  subst h
  intro j hj
  have : j = accJ t9 3 10 ∨ j = revJ (accJ t9 3 10) 11 4 ∨ j = accJ t9 4 12 ∨ j = revJ (accJ t9 4 12) 13 5 := by simpa using hj
  rcases this with rfl | rfl | rfl | rfl <;> exact ⟨Nat.zero_le _, by show 2 ≤ maxLen; unfold maxLen; omega⟩
set_option maxRecDepth 100000 in
set_option maxHeartbeats 4000000 in
theorem alive9_any (w : World) : Calls Try.prog 11 #[] w fun e w' => e = .returned (.bool true) ∧ Below w.heap.size w w' := by
  obtain ⟨W, hW⟩ : ∃ W, w.alloc (.cells t9.cells.toArray 24) = W := ⟨_, rfl⟩
  have hb : Below w.heap.size w W := by rw [← hW]; exact (Below.refl _ _).alloc (Nat.le_refl _) _
  have hx : TplAt W w.heap.size t9 := by rw [← hW]; exact heap_new w _
  have hz : W.heap.size = w.heap.size + 1 := by rw [← hW]; simp
  obtain ⟨W2, hW2⟩ : ∃ W2, W.alloc (.cells t9.cells.toArray 24) = W2 := ⟨_, rfl⟩
  have hb2 : Below W.heap.size W W2 := by rw [← hW2]; exact (Below.refl _ _).alloc (Nat.le_refl _) _
  have hrd := tpl_one W t9
  rw [hW2, hz] at hrd
  have kr := run_any 10 [t9] _ 1 1 W2 hrd (fun t ht => by have : t = t9 := by simpa using ht
                                                          subst this; exact t9_in _) (by omega) (by omega)
  rw [t9_run] at kr
  have HB2 : Hid (Below w.heap.size w W2) := hb.trans (hb2.mono hb.size)
  have HX2 : Hid (∀ w', Below W2.heap.size W2 w' → TplAt w' w.heap.size t9) := fun w' h => (hx.below hb2).below h
  have KR := Lib.hid kr
  have HW : Hid (w.alloc (.cells #[.int .i64 1, .int .i64 1, .int .i64 1, .int .i64 3, .int .i64 4, .int .i64 1, .int .i64 5, .int .i64 1, .int .i64 2, .slice none 0 0, .slice none 0 0, .int .i64 0] 24) = W) := hW
  have HW2 : Hid (W.alloc (.cells #[.int .i64 1, .int .i64 1, .int .i64 1, .int .i64 3, .int .i64 4, .int .i64 1, .int .i64 5, .int .i64 1, .int .i64 2, .slice none 0 0, .slice none 0 0, .int .i64 0] 24) = W2) := hW2
  have HZ := Lib.hid hz
  have hx' := hx
  obtain ⟨⟨x0, x1, x2, x3, x4, x5⟩, x6, x7, x8, x9, x10, x11⟩ := tpl_cells hx
  simp only [t9] at x0 x1 x2 x3 x4 x5 x6 x7 x8 x9 x10 x11
  clear hW hb hx hz hW2 hb2 hrd kr hx'
  go_enter Try.func11, Try.ntmps11
  go_wp2_with fail
  rw [HW.out]
  go_wp2_with fail
  rw [HW2.out]
  refine KR.out.mono ?_
  rintro e w3 ⟨hb3, hres⟩
  rcases hres with ⟨h, _⟩ | ⟨A, c, la, h, rfl, hown⟩
  · cases h
  injection h with hm
  have hb03 : Below w.heap.size w w3 := HB2.out.trans (hb3.mono HB2.out.size)
  have HBW := Lib.hid hb03
  obtain ⟨⟨y0, y1, y2, y3, y4, y5⟩, y6, y7, y8, y9, y10, y11⟩ := tpl_cells (HX2.out w3 hb3)
  simp only [t9] at y0 y1 y2 y3 y4 y5 y6 y7 y8 y9 y10 y11
  have KC : Hid (Calls Try.prog 31 #[.agg #[.int .i64 1, .int .i64 1, .int .i64 1, .int .i64 3, .int .i64 4, .int .i64 1, .int .i64 5, .int .i64 1, .int .i64 2, .slice none 0 0, .slice none 0 0, .int .i64 0]] w3 fun e w' => e = .returned (.int .i64 0) ∧ Below w3.heap.size w3 w') := by
    have := checkT_any t9 w3 (t9_in w3)
    rwa [chkTE_yes t9_chk] at this
  obtain ⟨a, b, c', d, rfl, ha, hbj, hd⟩ : ∃ a b c' d, la = [a, b, c', d] ∧ a.j = accJ t9 3 10 ∧ b.j = revJ (accJ t9 3 10) 11 4 ∧ d.j = revJ (accJ t9 4 12) 13 5 := by
    rcases la with _ | ⟨a, _ | ⟨b, _ | ⟨c', _ | ⟨d, _ | ⟨e', r⟩⟩⟩⟩⟩ <;> simp at hm
    exact ⟨a, b, c', d, rfl, hm.1.symm, hm.2.1.symm, hm.2.2.2.symm⟩
  obtain ⟨g, cap, hv, _, _⟩ := hown.own.form (by simp)
  injection hv with hA hn hc
  subst hA
  have q := hown.own.cells (g := g) rfl
  have Q : ∀ j u, (jrs [a, b, c', d])[j]? = some u → w3.cell? ⟨g, j, none⟩ = some u := fun j u hu => by
    have := q j u hu
    rwa [Addr.add_lit, Nat.zero_add] at this
  have c0 : w3.cell? ⟨g, 0, none⟩ = some (.int .i64 10) := (Q 0 _ rfl).trans (by rw [ha]; rfl)
  have c18 : w3.cell? ⟨g, 18, none⟩ = some (.int .i64 13) := (Q 18 _ rfl).trans (by rw [hd]; rfl)
  have c20 : w3.cell? ⟨g, 20, none⟩ = some (.int .i64 5) := (Q 20 _ rfl).trans (by rw [hd]; rfl)
  have hl := hown.lines b (by simp)
  have hl' : w3.ownsRow W2.heap.size 40 3 (.slice b.A b.j.lines.length b.c) b.j.lines.length (lins b.j.lines) := hl
  have c10 : w3.cell? ⟨g, 10, none⟩ = some (.slice b.A b.j.lines.length b.c) := Q 10 _ rfl
  rw [hbj] at hl' c10
  obtain ⟨g1, cap1, hv1, _, _⟩ := hl'.form (by show 0 < 2; omega)
  injection hv1 with hA1 hn1 hc1
  rw [hA1] at hl' c10
  have c1 : w3.cell? ⟨g1, 1, none⟩ = some (.int .i64 (-5)) := by
    have := hl'.cells (g := g1) rfl 1 _ rfl
    rwa [Addr.add_lit, Nat.zero_add] at this
  replace c10 : w3.cell? ⟨g, 10, none⟩ = some (.slice (some ⟨g1, 0, none⟩) 2 b.c) := c10
  clear hb3 hown hm hb03 ha hbj hd q Q hl hl' KR HW HW2 x0 x1 x2 x3 x4 x5 x6 x7 x8 x9 x10 x11
  go_wp2_with fail
  refine KC.out.mono ?_
  rintro e w4 ⟨rfl, hb4⟩
  have HB4 := Lib.hid (HBW.out.trans (hb4.mono HBW.out.size))
  clear hb4 KC y0 y1 y2 y3 y4 y5 y6 y7 y8 y9 y10 y11
  go_wp2_with fail
  go_ret
  exact ⟨rfl, HB4.out⟩
end Go.Proofs.Ythjpknipnmagkaa

/-
  A template that came in.
-/
namespace Go.Proofs.Ythjpknipnmagkaa
open Mo
open Go.RowKit

theorem agg_of_12 {v : Value} (h : v.cells.toList.length = 12) : ∃ cs, v = .agg cs ∧ v.cells = cs := by
  cases v <;> first | exact ⟨_, rfl, rfl⟩ | (simp [Value.cells] at h)
def Tpl.ok64 (t : Tpl) : Prop := i64ok t.kind ∧ i64ok t.id ∧ i64ok t.ent ∧ i64ok t.frm ∧ i64ok t.til ∧ i64ok t.ev ∧ i64ok t.amt ∧ i64ok t.deb ∧ i64ok t.cre ∧ i64ok t.rk
set_option maxRecDepth 100000 in
set_option maxHeartbeats 2000000 in
theorem argTpl {H : Type} {enc : TypeId × Value → H} {w : World} {base : Nat} {spare : Nat → Bool} {held : Bool} {fuel : Nat} {v : Value} {x : DataW H × List MemPlace}
    (h : DataW.trod enc Try.prog w base spare held fuel 24 v.cells.toList = some x) : ∃ t : Tpl, v = .agg t.cells.toArray ∧ TplIn w t ∧ t.ok64 := by
  obtain ⟨xs, q, _, _, hl, hx, hf⟩ := DataW.trod_struct Try.underlying24 h
  have hl : v.cells.toList.length = 12 := hl.trans (by kernel_rfl)
  have hx : xs.length = 12 := hx
  obtain ⟨cs, rfl, hcs⟩ := agg_of_12 hl
  rw [hcs] at hl hf
  obtain ⟨l⟩ := cs
  match l, hl with
  | [c0, c1, c2, c3, c4, c5, c6, c7, c8, c9, c10, c11], _ =>
    obtain ⟨y0, h0⟩ := part_at (k := 1) (by kernel_rfl) (hf 0 _ rfl) (by omega)
    obtain ⟨y1, h1⟩ := part_at (k := 1) (by kernel_rfl) (hf 1 _ rfl) (by omega)
    obtain ⟨y2, h2⟩ := part_at (k := 1) (by kernel_rfl) (hf 2 _ rfl) (by omega)
    obtain ⟨y3, h3⟩ := part_at (k := 1) (by kernel_rfl) (hf 3 _ rfl) (by omega)
    obtain ⟨y4, h4⟩ := part_at (k := 1) (by kernel_rfl) (hf 4 _ rfl) (by omega)
    obtain ⟨y5, h5⟩ := part_at (k := 1) (by kernel_rfl) (hf 5 _ rfl) (by omega)
    obtain ⟨y6, h6⟩ := part_at (k := 1) (by kernel_rfl) (hf 6 _ rfl) (by omega)
    obtain ⟨y7, h7⟩ := part_at (k := 1) (by kernel_rfl) (hf 7 _ rfl) (by omega)
    obtain ⟨y8, h8⟩ := part_at (k := 1) (by kernel_rfl) (hf 8 _ rfl) (by omega)
    obtain ⟨y9, h9⟩ := part_at (k := 1) (by kernel_rfl) (hf 9 _ rfl) (by omega)
    obtain ⟨y10, h10⟩ := part_at (k := 1) (by kernel_rfl) (hf 10 _ rfl) (by omega)
    obtain ⟨y11, h11⟩ := part_at (k := 1) (by kernel_rfl) (hf 11 _ rfl) (by omega)
    obtain ⟨n0, e0, _, w0⟩ := DataW.trod_int Try.underlying3 h0
    obtain ⟨n1, e1, _, w1⟩ := DataW.trod_int Try.underlying3 h1
    obtain ⟨n2, e2, _, w2⟩ := DataW.trod_int Try.underlying3 h2
    obtain ⟨n3, e3, _, w3⟩ := DataW.trod_int Try.underlying3 h3
    obtain ⟨n4, e4, _, w4⟩ := DataW.trod_int Try.underlying3 h4
    obtain ⟨n5, e5, _, w5⟩ := DataW.trod_int Try.underlying3 h5
    obtain ⟨n6, e6, _, w6⟩ := DataW.trod_int Try.underlying3 h6
    obtain ⟨n7, e7, _, w7⟩ := DataW.trod_int Try.underlying3 h7
    obtain ⟨n8, e8, _, w8⟩ := DataW.trod_int Try.underlying3 h8
    obtain ⟨n11, e11, _, w11⟩ := DataW.trod_int Try.underlying3 h11
    obtain ⟨A9, n9, c9', e9⟩ := Joins.slice_form Try.underlying22 h9
    obtain ⟨A10, n10, c10', e10⟩ := Joins.slice_form Try.underlying22 h10
    simp at e0 e1 e2 e3 e4 e5 e6 e7 e8 e9 e10 e11
    subst e0 e1 e2 e3 e4 e5 e6 e7 e8 e9 e10 e11
    obtain ⟨L9, hL9⟩ := argInts (A := A9) (n := n9) (c := c9') (fuel := q) (x := y9) h9
    obtain ⟨L10, hL10⟩ := argInts (A := A10) (n := n10) (c := c10') (fuel := q) (x := y10) h10
    have r9 := hL9.ints; have r10 := hL10.ints
    obtain rfl := r9.ints_len
    obtain rfl := r10.ints_len
    exact ⟨⟨n0, n1, n2, n3, n4, n5, n6, n7, n8, L9, L10, A9, c9', A10, c10', n11⟩, rfl, ⟨r9, r10, hL9.len, hL10.len⟩, bounds_i64 w0, bounds_i64 w1, bounds_i64 w2, bounds_i64 w3, bounds_i64 w4, bounds_i64 w5, bounds_i64 w6, bounds_i64 w7, bounds_i64 w8, bounds_i64 w11⟩
end Go.Proofs.Ythjpknipnmagkaa

/-
  Templates that came in.
-/
namespace Go.Proofs.Ythjpknipnmagkaa
open Mo
open Go.RowKit

instance : Inhabited Tpl := ⟨⟨0, 0, 0, 0, 0, 0, 0, 0, 0, [], [], none, 0, none, 0, 0⟩⟩
set_option maxRecDepth 100000 in
theorem argTpls {H : Type} {enc : TypeId × Value → H} {w : World} {base : Nat} {spare : Nat → Bool} {held : Bool} {fuel : Nat} {A : Option Addr} {n c : Nat} {x : DataW H × List MemPlace}
    (h : DataW.trod enc Try.prog w base spare held fuel 42 (Value.cells (.slice A n c)).toList = some x) : ∃ l : List Tpl, Rd w w.heap.size 12 A n (tpls l) ∧ (∀ t ∈ l, TplIn w t) ∧ (∀ t ∈ l, t.ok64) ∧ n ≤ maxLen ∧ n ≤ c := by
  obtain ⟨l, q⟩ : ∃ l : List Tpl, ArgRd Tpl.cells 12 (fun t => TplIn w t ∧ t.ok64) w A n c l :=
    argRd_of_trod _ 12 _ Try.underlying42 (by kernel_rfl) (by omega) (fun _ => rfl) (fun m cs y hy => by
      have hy2 : DataW.trod enc Try.prog w base spare held m 24 (Value.cells (.agg cs.toArray)).toList = some y := by simpa [Value.cells] using hy
      obtain ⟨t, hv, hI, h64⟩ := argTpl hy2
      refine ⟨t, ?_, hI, h64⟩
      injection hv with hv
      have := congrArg Array.toList hv
      simpa using this) h
  exact ⟨l, q.rd, fun t ht => (q.wf t ht).1, fun t ht => (q.wf t ht).2, q.len, q.cap⟩
end Go.Proofs.Ythjpknipnmagkaa
