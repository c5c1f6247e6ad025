/-
  Several texts, one behind the other: what each holds stands ahead of it.
-/
import Derived.Test.YtbdhhfaelnnocaaGreatDoorOwn
import Derived.Test.YtbdhhfaelnnocaaGreatDoorShelf
import Derived.WalkSmall
import Derived.Lib.ItoaLen
import Derived.Test.YtbdhhfaelnnocaaGreatDoorRows
import Derived.Lib.LaidTab
import Derived.Stop.LaidErr
import Derived.LaidLaws
import Derived.MakeChecks

/-
  The package variables that the calls read; strconv.Itoa.
-/
namespace Go.Proofs.YtbdhhfaelnnocaaGreatDoor
open Go.RowKit Go.Sort

structure Glob (w : World) : Prop where
  tab : Lib.TabIs Tryz.prog w "internal/strconv.uint64pow10" .u64 Lib.pow10Tab
  syn : ∃ tp p, w.var? Tryz.prog "strconv.ErrSyntax" = some #[.iface tp p]
  ran : ∃ tp p, w.var? Tryz.prog "strconv.ErrRange" = some #[.iface tp p]
set_option maxRecDepth 100000 in
theorem g_tab : ∃ g, Tryz.prog.globalNamed "internal/strconv.uint64pow10" = some g := Option.isSome_iff_exists.1 (by kernel_rfl)
set_option maxRecDepth 100000 in
theorem g_syn : ∃ g, Tryz.prog.globalNamed "strconv.ErrSyntax" = some g := Option.isSome_iff_exists.1 (by kernel_rfl)
set_option maxRecDepth 100000 in
theorem g_ran : ∃ g, Tryz.prog.globalNamed "strconv.ErrRange" = some g := Option.isSome_iff_exists.1 (by kernel_rfl)
theorem var_kept {P : Program} {g : Nat} {w w' : World} {n : String} {cs : Array Value} (hg : P.globalNamed n = some g) (h0 : 0 < cs.size) (hb : Below w.heap.size w w') (hv : w.var? P n = some cs) : w'.var? P n = some cs :=
  var?_below hb hg (block_of_cell (p := ⟨g, 0, none⟩) ((World.var?_cell hg hv 0).trans (Array.getElem?_eq_getElem h0))) hv
theorem Glob.below {w w' : World} (h : Glob w) (hb : Below w.heap.size w w') : Glob w' := by
  obtain ⟨h1, ⟨t2, p2, h2⟩, ⟨t3, p3, h3⟩⟩ := h
  obtain ⟨g1, e1⟩ := g_tab
  obtain ⟨g2, e2⟩ := g_syn
  obtain ⟨g3, e3⟩ := g_ran
  exact ⟨var_kept e1 (by simp [Lib.pow10Tab]) hb h1, ⟨t2, p2, var_kept e2 (by simp) hb h2⟩, ⟨t3, p3, var_kept e3 (by simp) hb h3⟩⟩

def itoaS (n : Int) : ByteArray := ⟨(Lib.itoa n).toArray⟩
theorem itoaS_size {n : Int} (h0 : -9223372036854775808 ≤ n) (h1 : n ≤ 9223372036854775807) : (itoaS n).size ≤ 21 := by
  have := Lib.itoa_length_le n h0 h1
  show (Lib.itoa n).toArray.size ≤ 21
  simpa using this
theorem itoa_any (n : Int) (w : World) (G : Glob w) (h0 : -9223372036854775808 ≤ n) (h1 : n ≤ 9223372036854775807) :
    Calls Tryz.prog 23 #[.int .i64 n] w fun e w' => e = .returned (.string (itoaS n)) ∧ Below w.heap.size w w' :=
  (Tryz.strconv_Itoa n h0 h1 w G.tab).mono fun e w' ⟨he, k, os, hw⟩ => ⟨he, by
    rw [hw]
    exact ⟨rfl, rfl, rfl, by simp [grow], fun q hq => by simp [grow, Array.getElem?_append, hq]⟩⟩
end Go.Proofs.YtbdhhfaelnnocaaGreatDoor

/-
  The listed variables hold what the calls want of them.
-/
namespace Go.Proofs.YtbdhhfaelnnocaaGreatDoor
open Go.RowKit

set_option maxRecDepth 100000 in
theorem star_es : "*" ++ "errors.errorString" = "*errors.errorString" := by decide
set_option maxRecDepth 100000 in
theorem row_es (u : TypeId) (h : Tryz.prog.typeName? 3 u = some "*errors.errorString") : u = 189 :=
  typeName_ptr_named (nm := "errors.errorString") (by rw [star_es]; kernel_rfl) (by kernel_rfl) (by decide) u (by rw [star_es]; exact h)
theorem pow_data : (Rows.laid_internal_strconv_uint64pow10 : DataW Unit) = Lib.tabData .u64 Lib.pow10Tab := by kernel_rfl
set_option maxRecDepth 100000 in
theorem glob_of_laid {W : World} (h : laidMetH Tryz.prog [("math/bits.deBruijn32tab", Rows.laid_math_bits_deBruijn32tab), ("math/bits.deBruijn64tab", Rows.laid_math_bits_deBruijn64tab), ("internal/strconv.uint64pow10", Rows.laid_internal_strconv_uint64pow10), ("strconv.ErrRange", Rows.laid_strconv_ErrRange), ("strconv.ErrSyntax", Rows.laid_strconv_ErrSyntax)] W) : Glob W := by
  rw [MakeChecks.laidMetH_plain _ _ _ (by kernel_rfl)] at h
  have h3 := h.tail.tail
  rw [pow_data] at h3
  have h4 := h3.tail
  have h5 := h4.tail
  obtain ⟨g1, e1⟩ := g_tab
  obtain ⟨a4, s4, hv4, _⟩ := laid_sentinel (ti := 99) (tp := 189) h4 (g := 3) (by kernel_rfl) (by kernel_rfl) Tryz.underlying99 row_es Tryz.underlying189 Tryz.underlying191 rfl rfl Tryz.underlying9 (by kernel_rfl) (by kernel_rfl)
  obtain ⟨a5, s5, hv5, _⟩ := laid_sentinel (ti := 99) (tp := 189) h5 (g := 2) (by kernel_rfl) (by kernel_rfl) Tryz.underlying99 row_es Tryz.underlying189 Tryz.underlying191 rfl rfl Tryz.underlying9 (by kernel_rfl) (by kernel_rfl)
  refine ⟨?_, ⟨_, _, hv5⟩, ⟨_, _, hv4⟩⟩
  exact Lib.tabIs_of_head (g := 0) (t := 167) (e := 106) (n := 20) (by kernel_rfl) (by kernel_rfl) Tryz.underlying167 Tryz.underlying106 (by kernel_rfl) (by kernel_rfl) h3
end Go.Proofs.YtbdhhfaelnnocaaGreatDoor
