/-
  The listed variables hold what the calls want of them.
-/
import Derived.Test.YtakjiehncoankaaDoorRows
import Derived.Test.YtakjiehncoankaaDoorGlob
import Derived.Lib.LaidTab
import Derived.Stop.LaidErr
import Derived.LaidLaws
import Derived.MakeChecks
namespace Go.Proofs.YtakjiehncoankaaDoor
open Go.RowKit

set_option maxRecDepth 100000 in
theorem star_es : "*" ++ "errors.errorString" = "*errors.errorString" := by decide
set_option maxRecDepth 100000 in
theorem row_es (u : TypeId) (h : Tryd.prog.typeName? 3 u = some "*errors.errorString") : u = 123 :=
  typeName_ptr_named (nm := "errors.errorString") (by rw [star_es]; kernel_rfl) (by kernel_rfl) (by decide) u (by rw [star_es]; exact h)
theorem pow_data : (Rows.laid_internal_strconv_uint64pow10 : DataW Unit) = Lib.tabData .u64 Lib.pow10Tab := by kernel_rfl
set_option maxRecDepth 100000 in
theorem glob_of_laid {W : World} (h : laidMetH Tryd.prog [("math/bits.deBruijn32tab", Rows.laid_math_bits_deBruijn32tab), ("math/bits.deBruijn64tab", Rows.laid_math_bits_deBruijn64tab), ("internal/strconv.uint64pow10", Rows.laid_internal_strconv_uint64pow10), ("strconv.ErrRange", Rows.laid_strconv_ErrRange), ("strconv.ErrSyntax", Rows.laid_strconv_ErrSyntax)] W) : Glob W := by
  rw [MakeChecks.laidMetH_plain _ _ _ (by kernel_rfl)] at h
  have h3 := h.tail.tail
  rw [pow_data] at h3
  have h4 := h3.tail
  have h5 := h4.tail
  obtain ⟨g1, e1⟩ := g_tab
  obtain ⟨a4, s4, hv4, _⟩ := laid_sentinel (ti := 81) (tp := 123) h4 (g := 3) (by kernel_rfl) (by kernel_rfl) Tryd.underlying81 row_es Tryd.underlying123 Tryd.underlying125 rfl rfl Tryd.underlying9 (by kernel_rfl) (by kernel_rfl)
  obtain ⟨a5, s5, hv5, _⟩ := laid_sentinel (ti := 81) (tp := 123) h5 (g := 2) (by kernel_rfl) (by kernel_rfl) Tryd.underlying81 row_es Tryd.underlying123 Tryd.underlying125 rfl rfl Tryd.underlying9 (by kernel_rfl) (by kernel_rfl)
  refine ⟨?_, ⟨_, _, hv5⟩, ⟨_, _, hv4⟩⟩
  exact Lib.tabIs_of_head (g := 0) (t := 110) (e := 90) (n := 20) (by kernel_rfl) (by kernel_rfl) Tryd.underlying110 Tryd.underlying90 (by kernel_rfl) (by kernel_rfl) h3
end Go.Proofs.YtakjiehncoankaaDoor
