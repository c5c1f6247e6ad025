/-
  The walk of the statement ChartDebits.
-/
-- HOLE: exact chartDebits_walk a0 a1 w
import Derived.Test.YtaliipcgekhepaaChartAlive
import Derived.Test.YtaliipcgekhepaaRefRow
namespace Go.Proofs.Ytaliipcgekhepaa
open Go.RowKit

theorem addE_nil (x k : Int) : addE [] ⟨x, k, false⟩ = if okRow x k = true then 0 else 1 := by
  unfold addE findA; simp

set_option maxRecDepth 100000 in
set_option maxHeartbeats 1000000 in
theorem chartDebits_walk (kind code : Int) (w : World) :
    Calls Try.prog 3 #[.int .i64 kind, .int .i64 code] w fun e w' => e = .returned (.bool true) ∧ Below w.heap.size w w' := by
  have kd := fun w => debit_any kind w
  have hAR : Hid ((addE [] ⟨code, kind, false⟩ == 0) = okRow code kind) := by rw [addE_nil]; cases okRow code kind <;> rfl
  have kr := fun w => refRow_any code kind w
  have ka := Lib.hid fun (B c : Nat) (w : World) (h : Charted w B c []) (hw : B ≤ w.heap.size) => add_ch B B c [] code kind w h (Nat.le_refl _) hw
  generalize addE [] ⟨code, kind, false⟩ = E at *
  generalize okRow code kind = R at *
  have main : ∀ t : Bool, (kind == 1 || kind == 5) = t → (kind = 1 ∧ t = true ∨ kind = 5 ∧ t = true ∨ kind ≠ 1 ∧ kind ≠ 5 ∧ t = false) → Calls Try.prog 3 #[.int .i64 kind, .int .i64 code] w fun e w' => e = .returned (.bool true) ∧ Below w.heap.size w w' := by
    intro t ht hk
    rw [ht] at kd
    clear ht
    go_enter Try.func3, Try.ntmps3
    go_wp2_with fail
    refine (alive_any w).mono ?_
    rintro e w1 ⟨rfl, hb1⟩
    have hz1 := hb1.size
    have HB1 := Lib.hid hb1
    clear hb1
    have HC : Hid (ChartAt (w1.alloc (.cells #[.slice none 0 0] 26)) w1.heap.size w1.heap.size (.slice none 0 0) []) := ⟨heap_new _ _, Nat.le_refl _, World.ownsRow_nil _ _ _ _, GoodA.nil⟩
    have HB2 : Hid (Below w.heap.size w (w1.alloc (.cells #[.slice none 0 0] 26))) := HB1.out.alloc hz1 _
    have hz2 : w1.heap.size + 1 ≤ (w1.alloc (.cells #[.slice none 0 0] 26)).heap.size := by simp
    go_wp2_with fail
    generalize w1.alloc (.cells #[.slice none 0 0] 26) = w2 at *
    refine (get_any _ _ _ _ code w2 HC.out).mono ?_
    rintro e w3 ⟨rfl, hb3⟩
    have HC3 := Lib.hid (HC.out.below hb3)
    have hz3 := hb3.size
    have HB3 : Hid (Below w.heap.size w w3) := HB2.out.trans (hb3.mono (by omega))
    clear hb3
    rw [show getV [] code = .tuple #[.agg #[.int .i64 0, .int .i64 0, .bool false], .bool false] from rfl]
    go_wp2_with fail
    refine (kd _).mono ?_
    rintro e w4 ⟨rfl, hb4'⟩
    have hb4 : Below w3.heap.size w3 w4 := ((Below.refl _ _).alloc (Nat.le_refl _) _).trans (hb4'.mono (by simp))
    clear hb4'
    have HC4 := Lib.hid (HC3.out.below hb4)
    have hz4 := hb4.size
    have HB4 : Hid (Below w.heap.size w w4) := HB3.out.trans (hb4.mono (by omega))
    clear hb4
    rcases hk with ⟨rfl, rfl⟩ | ⟨rfl, rfl⟩ | ⟨h1, h5, rfl⟩
    all_goals
      go_wp2_with fail
      refine (all_any _ _ _ _ w4 HC4.out).mono ?_
      rintro e w5 ⟨A5, c5, rfl, _, hb5⟩
      have HC5 := Lib.hid (HC4.out.below hb5)
      have hz5 := hb5.size
      have HB5 : Hid (Below w.heap.size w w5) := HB4.out.trans (hb5.mono (by omega))
      clear hb5
      rw [show ([] : List Acc).length = 0 from rfl]
      go_wp2_with fail
      refine (live_any _ _ _ _ [code] _ _ _ (w5.heap.size + 1) _ (HC5.out.below ((Below.refl _ _).alloc (Nat.le_refl _) _)) (rd_one w5 (.int .i64 code) 3) (by simp) (by omega)).mono ?_
      rintro e w6 ⟨rfl, hb6⟩
      have HB56 : Hid (Below w5.heap.size w5 w6) := ((Below.refl _ _).alloc (Nat.le_refl _) _).trans (hb6.mono (by simp))
      have HC6 := Lib.hid (HC5.out.below HB56.out)
      have hz6 := HB56.out.size
      have HB6 : Hid (Below w.heap.size w w6) := HB5.out.trans (HB56.out.mono (by omega))
      clear hb6 HB56
      rw [show liveE [] [code] = 4 from rfl]
      go_wp2_with fail
      refine (ka.out _ _ w6 ⟨_, HC6.out⟩ (by omega)).mono ?_
      rintro e w7 ⟨rfl, _, hb7⟩
      have hz7 := hb7.size
      have HB7 : Hid (Below w.heap.size w w7) := HB6.out.trans (hb7.mono (by omega))
      clear hb7
      go_wp2_with fail
      refine (kr w7).mono ?_
      rintro e w8 ⟨rfl, rfl⟩
      go_wp2
      go_ret
      exact ⟨ret_bool (by rw [hAR.out]; simp; try omega), HB7.out⟩
  by_cases h1 : kind = 1
  · exact main _ rfl (.inl ⟨h1, by simp [h1]⟩)
  by_cases h5 : kind = 5
  · exact main _ rfl (.inr (.inl ⟨h5, by simp [h5]⟩))
  · exact main _ rfl (.inr (.inr ⟨h1, h5, by simp [h1, h5]⟩))
end Go.Proofs.Ytaliipcgekhepaa
