/-
  Contracts of the small functions of package money: size, withSign, roundsUp, signWord.
-/
import Derived.Test.YtbjeikfekhgeoaaProg
import Derived.WalkKit
import Derived.WalkSpells
import Derived.WalkLawsBesides
namespace Go.Proofs.Ytbjeikfekhgeoaa
open Go.RowKit

theorem ret_int {k : IntKind} {a b : Int} (h : a = b) : Ending.returned (.int k a) = .returned (.int k b) := by rw [h]
theorem ret_bool {a b : Bool} (h : a = b) : Ending.returned (.bool a) = .returned (.bool b) := by rw [h]

def absI (a : Int) : Int := if a < 0 then -a else a
def signed (u a : Int) : Int := if a < 0 then -u else u
def signW (x : Int) : Int := if x < 0 then 18446744073709551615 else 0
def rUp (q r d : Int) : Bool := decide (d < 2 * r ∨ 2 * r = d ∧ q % 2 = 1)

set_option maxHeartbeats 400000 in
theorem size_any (a : Int) (w : World) (h1 : -1000000000000000 ≤ a) (h2 : a ≤ 1000000000000000) :
    Calls Try.prog 28 #[.int .i64 a] w fun e w' => e = .returned (.int .u64 (absI a)) ∧ w = w' := by
  by_cases h : a < 0
  · go_enter Try.func28, Try.ntmps28
    go_wp2
    go_ret
    exact ⟨ret_int (by unfold absI; rw [if_pos h]), rfl⟩
  · go_enter Try.func28, Try.ntmps28
    go_wp2
    go_ret
    exact ⟨ret_int (by unfold absI; rw [if_neg (by omega)]), rfl⟩

set_option maxHeartbeats 400000 in
theorem withSign_any (u a : Int) (w : World) (h1 : 0 ≤ u) (h2 : u ≤ 1000000000000001) :
    Calls Try.prog 30 #[.int .u64 u, .int .i64 a] w fun e w' => e = .returned (.int .i64 (signed u a)) ∧ w = w' := by
  by_cases h : a < 0
  · go_enter Try.func30, Try.ntmps30
    go_wp2
    go_ret
    exact ⟨ret_int (by unfold signed; rw [if_pos h]), rfl⟩
  · go_enter Try.func30, Try.ntmps30
    go_wp2
    go_ret
    exact ⟨ret_int (by unfold signed; rw [if_neg (by omega)]), rfl⟩

theorem signW_eq (x : Int) (h1 : -9223372036854775808 ≤ x) (h2 : x ≤ 9223372036854775807) : IntKind.u64.wrap (x / 9223372036854775808) = signW x := by
  unfold signW; rw [IntKind.wrap_u64]; split <;> omega

set_option maxHeartbeats 400000 in
theorem signWord_any (x : Int) (w : World) (h1 : -9223372036854775808 ≤ x) (h2 : x ≤ 9223372036854775807) :
    Calls Try.prog 25 #[.int .i64 x] w fun e w' => e = .returned (.int .u64 (signW x)) ∧ w = w' := by
  have H := signW_eq x h1 h2
  go_enter Try.func25, Try.ntmps25
  go_wp2
  go_ret
  exact ⟨rfl, rfl⟩

set_option maxHeartbeats 400000 in
theorem roundsUp_any (q r d : Int) (w : World) (h1 : 0 ≤ q) (h2 : q ≤ 1000000000000000) (h3 : 0 ≤ r) (h4 : r ≤ 1000000000) (_h5 : 0 ≤ d) (_h6 : d ≤ 1000000000) :
    Calls Try.prog 73 #[.int .u64 q, .int .u64 r, .int .u64 d] w fun e w' => e = .returned (.bool (rUp q r d)) ∧ w = w' := by
  go_enter Try.func73, Try.ntmps73
  go_wp2
  all_goals
    go_ret
    exact ⟨ret_bool (by unfold rUp; rw [Bool.eq_iff_iff]; simp; try omega), rfl⟩
end Go.Proofs.Ytbjeikfekhgeoaa
