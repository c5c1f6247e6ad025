/-
  The package variables that the calls read; strconv.Itoa.
-/
import Derived.Test.YtakjiehncoankaaDoorOwn
import Derived.Test.YtakjiehncoankaaDoorShelf
import Derived.WalkSmall
import Derived.Lib.ItoaLen
namespace Go.Proofs.YtakjiehncoankaaDoor
open Go.RowKit Go.Sort

structure Glob (w : World) : Prop where
  tab : Lib.TabIs Tryd.prog w "internal/strconv.uint64pow10" .u64 Lib.pow10Tab
  syn : ∃ tp p, w.var? Tryd.prog "strconv.ErrSyntax" = some #[.iface tp p]
  ran : ∃ tp p, w.var? Tryd.prog "strconv.ErrRange" = some #[.iface tp p]
set_option maxRecDepth 100000 in
theorem g_tab : ∃ g, Tryd.prog.globalNamed "internal/strconv.uint64pow10" = some g := Option.isSome_iff_exists.1 (by kernel_rfl)
set_option maxRecDepth 100000 in
theorem g_syn : ∃ g, Tryd.prog.globalNamed "strconv.ErrSyntax" = some g := Option.isSome_iff_exists.1 (by kernel_rfl)
set_option maxRecDepth 100000 in
theorem g_ran : ∃ g, Tryd.prog.globalNamed "strconv.ErrRange" = some g := Option.isSome_iff_exists.1 (by kernel_rfl)
theorem var_kept {P : Program} {g : Nat} {w w' : World} {n : String} {cs : Array Value} (hg : P.globalNamed n = some g) (h0 : 0 < cs.size) (hb : Below w.heap.size w w') (hv : w.var? P n = some cs) : w'.var? P n = some cs :=
  var?_below hb hg (block_of_cell (p := ⟨g, 0, none⟩) ((World.var?_cell hg hv 0).trans (Array.getElem?_eq_getElem h0))) hv
theorem Glob.below {w w' : World} (h : Glob w) (hb : Below w.heap.size w w') : Glob w' := by
  obtain ⟨h1, ⟨t2, p2, h2⟩, ⟨t3, p3, h3⟩⟩ := h
  obtain ⟨g1, e1⟩ := g_tab
  obtain ⟨g2, e2⟩ := g_syn
  obtain ⟨g3, e3⟩ := g_ran
  exact ⟨var_kept e1 (by simp [Lib.pow10Tab]) hb h1, ⟨t2, p2, var_kept e2 (by simp) hb h2⟩, ⟨t3, p3, var_kept e3 (by simp) hb h3⟩⟩

def itoaS (n : Int) : ByteArray := ⟨(Lib.itoa n).toArray⟩
theorem itoaS_size {n : Int} (h0 : -9223372036854775808 ≤ n) (h1 : n ≤ 9223372036854775807) : (itoaS n).size ≤ 21 := by
  have := Lib.itoa_length_le n h0 h1
  show (Lib.itoa n).toArray.size ≤ 21
  simpa using this
theorem itoa_any (n : Int) (w : World) (G : Glob w) (h0 : -9223372036854775808 ≤ n) (h1 : n ≤ 9223372036854775807) :
    Calls Tryd.prog 27 #[.int .i64 n] w fun e w' => e = .returned (.string (itoaS n)) ∧ Below w.heap.size w w' :=
  (Tryd.strconv_Itoa n h0 h1 w G.tab).mono fun e w' ⟨he, k, os, hw⟩ => ⟨he, by
    rw [hw]
    exact ⟨rfl, rfl, rfl, by simp [grow], fun q hq => by simp [grow, Array.getElem?_append, hq]⟩⟩
end Go.Proofs.YtakjiehncoankaaDoor
