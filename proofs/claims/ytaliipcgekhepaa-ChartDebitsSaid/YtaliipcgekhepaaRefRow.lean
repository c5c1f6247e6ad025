/-
  Contract of the reference's Row.
-/
import Derived.Test.YtaliipcgekhepaaChartMath
namespace Go.Proofs.Ytaliipcgekhepaa
open Go.RowKit

set_option maxRecDepth 100000 in
theorem refRow_any (x k : Int) (w : World) : Calls Try.prog 11 #[.int .i64 x, .int .i64 k] w fun e w' => e = .returned (.bool (okRow x k)) ∧ w = w' := by
  by_cases h1 : 1 ≤ x
  · by_cases h2 : x ≤ 9999
    · by_cases h3 : 1 ≤ k
      · by_cases h4 : k ≤ 5
        · have HO : Hid (okRow x k = true) := by simp [okRow, Hid, h1, h2, h3, h4]
          go_enter Try.func11, Try.ntmps11
          go_wp2
          go_ret
          exact ⟨ret_bool (by rw [HO.out]; try simp [h4]), rfl⟩
        · have HO : Hid (okRow x k = false) := by simp [okRow, Hid]; omega
          go_enter Try.func11, Try.ntmps11
          go_wp2
          go_ret
          exact ⟨ret_bool (by rw [HO.out]; try simp [h4]), rfl⟩
      · have HO : Hid (okRow x k = false) := by simp [okRow, Hid]; omega
        go_enter Try.func11, Try.ntmps11
        go_wp2
        go_ret
        exact ⟨ret_bool HO.out.symm, rfl⟩
    · have HO : Hid (okRow x k = false) := by simp [okRow, Hid]; omega
      go_enter Try.func11, Try.ntmps11
      go_wp2
      go_ret
      exact ⟨ret_bool HO.out.symm, rfl⟩
  · have HO : Hid (okRow x k = false) := by simp [okRow, Hid]; omega
    go_enter Try.func11, Try.ntmps11
    go_wp2
    go_ret
    exact ⟨ret_bool HO.out.symm, rfl⟩
end Go.Proofs.Ytaliipcgekhepaa
