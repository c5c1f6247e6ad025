/-
  The walk of the statement TermTells.
-/
-- HOLE: exact termTells_walk a0 a1 a2 a3 w (bounds_i64 w3).1 (bounds_i64 w3).2
import Derived.Test.YtehpecjnldbaiaaLawTermSteps
namespace Go.Proofs.Ytehpecjnldbaiaa
open Go.RowKit

theorem of_no {y m : Int} (h : okD y m = false) : ofV y m = 0 ∧ ofE y m = 1 := by unfold ofV ofE; simp [h]
theorem of_yes {y m : Int} (h : okD y m = true) : ofV y m = 12 * (y - 2000) + m - 1 ∧ ofE y m = 0 := by unfold ofV ofE; simp [h]
theorem valid_none (w : World) : Calls Try.prog 12 #[.slice none 0 0] w fun e w' => e = .returned (.bool true) ∧ w = w' :=
  valid_any [] none 0 0 0 w Rd.nil_ (by omega)

theorem yearV_no {p : Int} (h : okP p = false) : yearV p = 0 := by unfold yearV; simp [h]
theorem monthV_no {p : Int} (h : okP p = false) : monthV p = 0 := by unfold monthV; simp [h]
theorem yearV_yes {p : Int} (h : okP p = true) : yearV p = 2000 + p / 12 := by unfold yearV; simp [h]
theorem monthV_yes {p : Int} (h : okP p = true) : monthV p = p % 12 + 1 := by unfold monthV; simp [h]

set_option maxRecDepth 100000 in
set_option maxHeartbeats 4000000 in
theorem tells_d0 (year month p n : Int) (w : World) (d : year < 2000) (n1 : -9223372036854775808 ≤ n) (n2 : n ≤ 9223372036854775807) :
    Calls Try.prog 3 #[.int .i64 year, .int .i64 month, .int .i64 p, .int .i64 n] w fun e w' => e = .returned (.bool true) ∧ Below w.heap.size w w' := by
  have ko := fun w => of_any year month w
  have hd : okD year month = false := by unfold okD; simp; omega
  rw [(of_no hd).1, (of_no hd).2] at ko
  clear hd
  have ks := fun w => shift_any p n w n1 n2
  have ky := fun w => year_any p w
  have km := fun w => month_any p w
  have kv := fun w => refValid_any p w
  have k1 := fun w => @valid_one p w 3
  have k2 := fun w => @valid_two 0 p w 3
  rw [show okP 0 = true from by decide, Bool.true_and] at k2
  by_cases c0 : p < 0
  · have hp : okP p = false := by unfold okP; simp; omega
    have hs : okS p n = false := by unfold okS okP; simp; omega
    rw [hp] at kv k1 k2
    rw [yearV_no hp] at ky
    rw [monthV_no hp] at km
    rw [(shift_no hs).1, (shift_no hs).2] at ks
    clear hp hs
    go_enter Try.func3, Try.ntmps3
    go_wp2_with fail
    refine (alive_any w).mono ?_
    rintro e w1 ⟨rfl, hb⟩
    have H1 := Lib.hid hb
    clear hb
    go_wp2_with fail
    refine (ko w1).mono ?_
    rintro e w2 ⟨rfl, hb2⟩
    have H2 : Hid (Below w.heap.size w w2) := H1.out.trans (hb2.mono H1.out.size)
    clear hb2 H1
    go_wp2_with fail
    refine (kv w2).mono ?_
    rintro e w2' ⟨rfl, rfl⟩
    go_wp2_with fail
    refine (ks w2).mono ?_
    rintro e w3 ⟨rfl, hb3⟩
    have H3 : Hid (Below w.heap.size w w3) := H2.out.trans (hb3.mono H2.out.size)
    clear hb3 H2
    go_wp2_with fail
    refine (k1 w3).mono ?_
    rintro e w3' ⟨rfl, rfl⟩
    have H4 : Hid (Below w.heap.size w (w3.alloc (.cells #[.int .i64 p] 3))) := H3.out.alloc H3.out.size _
    clear H3
    generalize w3.alloc (.cells #[.int .i64 p] 3) = w4 at *
    go_wp2_with fail
    refine (ky w4).mono ?_
    rintro e w5 ⟨rfl, hb5⟩
    have H5 : Hid (Below w.heap.size w w5) := H4.out.trans (hb5.mono H4.out.size)
    clear hb5 H4
    go_wp2_with fail
    refine (km w5).mono ?_
    rintro e w6 ⟨rfl, hb6⟩
    have H6 : Hid (Below w.heap.size w w6) := H5.out.trans (hb6.mono H5.out.size)
    clear hb6 H5
    go_wp2_with fail
    refine (valid_none w6).mono ?_
    rintro e w6' ⟨rfl, rfl⟩
    go_wp2_with fail
    refine (k2 w6).mono ?_
    rintro e w6' ⟨rfl, rfl⟩
    go_wp2
    go_ret
    exact ⟨rfl, H6.out.alloc H6.out.size _⟩
  by_cases c1 : 1199 < p
  · have hp : okP p = false := by unfold okP; simp; omega
    have hs : okS p n = false := by unfold okS okP; simp; omega
    rw [hp] at kv k1 k2
    rw [yearV_no hp] at ky
    rw [monthV_no hp] at km
    rw [(shift_no hs).1, (shift_no hs).2] at ks
    clear hp hs
    go_enter Try.func3, Try.ntmps3
    go_wp2_with fail
    refine (alive_any w).mono ?_
    rintro e w1 ⟨rfl, hb⟩
    have H1 := Lib.hid hb
    clear hb
    go_wp2_with fail
    refine (ko w1).mono ?_
    rintro e w2 ⟨rfl, hb2⟩
    have H2 : Hid (Below w.heap.size w w2) := H1.out.trans (hb2.mono H1.out.size)
    clear hb2 H1
    go_wp2_with fail
    refine (kv w2).mono ?_
    rintro e w2' ⟨rfl, rfl⟩
    go_wp2_with fail
    refine (ks w2).mono ?_
    rintro e w3 ⟨rfl, hb3⟩
    have H3 : Hid (Below w.heap.size w w3) := H2.out.trans (hb3.mono H2.out.size)
    clear hb3 H2
    go_wp2_with fail
    refine (k1 w3).mono ?_
    rintro e w3' ⟨rfl, rfl⟩
    have H4 : Hid (Below w.heap.size w (w3.alloc (.cells #[.int .i64 p] 3))) := H3.out.alloc H3.out.size _
    clear H3
    generalize w3.alloc (.cells #[.int .i64 p] 3) = w4 at *
    go_wp2_with fail
    refine (ky w4).mono ?_
    rintro e w5 ⟨rfl, hb5⟩
    have H5 : Hid (Below w.heap.size w w5) := H4.out.trans (hb5.mono H4.out.size)
    clear hb5 H4
    go_wp2_with fail
    refine (km w5).mono ?_
    rintro e w6 ⟨rfl, hb6⟩
    have H6 : Hid (Below w.heap.size w w6) := H5.out.trans (hb6.mono H5.out.size)
    clear hb6 H5
    go_wp2_with fail
    refine (valid_none w6).mono ?_
    rintro e w6' ⟨rfl, rfl⟩
    go_wp2_with fail
    refine (k2 w6).mono ?_
    rintro e w6' ⟨rfl, rfl⟩
    go_wp2
    go_ret
    exact ⟨rfl, H6.out.alloc H6.out.size _⟩
  by_cases c2 : n < -p
  · have hp : okP p = true := by unfold okP; simp; omega
    have hs : okS p n = false := by unfold okS okP; simp; omega
    rw [hp] at kv k1 k2
    rw [yearV_yes hp] at ky
    rw [monthV_yes hp] at km
    rw [(shift_no hs).1, (shift_no hs).2] at ks
    clear hp hs
    go_enter Try.func3, Try.ntmps3
    go_wp2_with fail
    refine (alive_any w).mono ?_
    rintro e w1 ⟨rfl, hb⟩
    have H1 := Lib.hid hb
    clear hb
    go_wp2_with fail
    refine (ko w1).mono ?_
    rintro e w2 ⟨rfl, hb2⟩
    have H2 : Hid (Below w.heap.size w w2) := H1.out.trans (hb2.mono H1.out.size)
    clear hb2 H1
    go_wp2_with fail
    refine (kv w2).mono ?_
    rintro e w2' ⟨rfl, rfl⟩
    go_wp2_with fail
    refine (ks w2).mono ?_
    rintro e w3 ⟨rfl, hb3⟩
    have H3 : Hid (Below w.heap.size w w3) := H2.out.trans (hb3.mono H2.out.size)
    clear hb3 H2
    go_wp2_with fail
    refine (k1 w3).mono ?_
    rintro e w3' ⟨rfl, rfl⟩
    have H4 : Hid (Below w.heap.size w (w3.alloc (.cells #[.int .i64 p] 3))) := H3.out.alloc H3.out.size _
    clear H3
    generalize w3.alloc (.cells #[.int .i64 p] 3) = w4 at *
    go_wp2_with fail
    refine (ky w4).mono ?_
    rintro e w5 ⟨rfl, hb5⟩
    have H5 : Hid (Below w.heap.size w w5) := H4.out.trans (hb5.mono H4.out.size)
    clear hb5 H4
    go_wp2_with fail
    refine (km w5).mono ?_
    rintro e w6 ⟨rfl, hb6⟩
    have H6 : Hid (Below w.heap.size w w6) := H5.out.trans (hb6.mono H5.out.size)
    clear hb6 H5
    go_wp2_with fail
    refine (valid_none w6).mono ?_
    rintro e w6' ⟨rfl, rfl⟩
    go_wp2_with fail
    refine (k2 w6).mono ?_
    rintro e w6' ⟨rfl, rfl⟩
    go_wp2
    go_ret
    exact ⟨rfl, H6.out.alloc H6.out.size _⟩
  by_cases c3 : 1199 - p < n
  · have hp : okP p = true := by unfold okP; simp; omega
    have hs : okS p n = false := by unfold okS okP; simp; omega
    rw [hp] at kv k1 k2
    rw [yearV_yes hp] at ky
    rw [monthV_yes hp] at km
    rw [(shift_no hs).1, (shift_no hs).2] at ks
    clear hp hs
    go_enter Try.func3, Try.ntmps3
    go_wp2_with fail
    refine (alive_any w).mono ?_
    rintro e w1 ⟨rfl, hb⟩
    have H1 := Lib.hid hb
    clear hb
    go_wp2_with fail
    refine (ko w1).mono ?_
    rintro e w2 ⟨rfl, hb2⟩
    have H2 : Hid (Below w.heap.size w w2) := H1.out.trans (hb2.mono H1.out.size)
    clear hb2 H1
    go_wp2_with fail
    refine (kv w2).mono ?_
    rintro e w2' ⟨rfl, rfl⟩
    go_wp2_with fail
    refine (ks w2).mono ?_
    rintro e w3 ⟨rfl, hb3⟩
    have H3 : Hid (Below w.heap.size w w3) := H2.out.trans (hb3.mono H2.out.size)
    clear hb3 H2
    go_wp2_with fail
    refine (k1 w3).mono ?_
    rintro e w3' ⟨rfl, rfl⟩
    have H4 : Hid (Below w.heap.size w (w3.alloc (.cells #[.int .i64 p] 3))) := H3.out.alloc H3.out.size _
    clear H3
    generalize w3.alloc (.cells #[.int .i64 p] 3) = w4 at *
    go_wp2_with fail
    refine (ky w4).mono ?_
    rintro e w5 ⟨rfl, hb5⟩
    have H5 : Hid (Below w.heap.size w w5) := H4.out.trans (hb5.mono H4.out.size)
    clear hb5 H4
    go_wp2_with fail
    refine (km w5).mono ?_
    rintro e w6 ⟨rfl, hb6⟩
    have H6 : Hid (Below w.heap.size w w6) := H5.out.trans (hb6.mono H5.out.size)
    clear hb6 H5
    go_wp2_with fail
    refine (valid_none w6).mono ?_
    rintro e w6' ⟨rfl, rfl⟩
    go_wp2_with fail
    refine (k2 w6).mono ?_
    rintro e w6' ⟨rfl, rfl⟩
    go_wp2
    go_ret
    exact ⟨rfl, H6.out.alloc H6.out.size _⟩
  · have hp : okP p = true := by unfold okP; simp; omega
    have hs : okS p n = true := by unfold okS okP; simp; omega
    rw [hp] at kv k1 k2
    rw [yearV_yes hp] at ky
    rw [monthV_yes hp] at km
    rw [(shift_yes hs).1, (shift_yes hs).2] at ks
    clear hp hs
    go_enter Try.func3, Try.ntmps3
    go_wp2_with fail
    refine (alive_any w).mono ?_
    rintro e w1 ⟨rfl, hb⟩
    have H1 := Lib.hid hb
    clear hb
    go_wp2_with fail
    refine (ko w1).mono ?_
    rintro e w2 ⟨rfl, hb2⟩
    have H2 : Hid (Below w.heap.size w w2) := H1.out.trans (hb2.mono H1.out.size)
    clear hb2 H1
    go_wp2_with fail
    refine (kv w2).mono ?_
    rintro e w2' ⟨rfl, rfl⟩
    go_wp2_with fail
    refine (ks w2).mono ?_
    rintro e w3 ⟨rfl, hb3⟩
    have H3 : Hid (Below w.heap.size w w3) := H2.out.trans (hb3.mono H2.out.size)
    clear hb3 H2
    go_wp2_with fail
    refine (k1 w3).mono ?_
    rintro e w3' ⟨rfl, rfl⟩
    have H4 : Hid (Below w.heap.size w (w3.alloc (.cells #[.int .i64 p] 3))) := H3.out.alloc H3.out.size _
    clear H3
    generalize w3.alloc (.cells #[.int .i64 p] 3) = w4 at *
    go_wp2_with fail
    refine (ky w4).mono ?_
    rintro e w5 ⟨rfl, hb5⟩
    have H5 : Hid (Below w.heap.size w w5) := H4.out.trans (hb5.mono H4.out.size)
    clear hb5 H4
    go_wp2_with fail
    refine (km w5).mono ?_
    rintro e w6 ⟨rfl, hb6⟩
    have H6 : Hid (Below w.heap.size w w6) := H5.out.trans (hb6.mono H5.out.size)
    clear hb6 H5
    go_wp2_with fail
    refine (valid_none w6).mono ?_
    rintro e w6' ⟨rfl, rfl⟩
    go_wp2_with fail
    refine (k2 w6).mono ?_
    rintro e w6' ⟨rfl, rfl⟩
    go_wp2
    go_ret
    exact ⟨rfl, H6.out.alloc H6.out.size _⟩

set_option maxRecDepth 100000 in
set_option maxHeartbeats 4000000 in
theorem tells_d1 (year month p n : Int) (w : World) (d : 2000 ≤ year) (d2 : 2099 < year) (n1 : -9223372036854775808 ≤ n) (n2 : n ≤ 9223372036854775807) :
    Calls Try.prog 3 #[.int .i64 year, .int .i64 month, .int .i64 p, .int .i64 n] w fun e w' => e = .returned (.bool true) ∧ Below w.heap.size w w' := by
  have ko := fun w => of_any year month w
  have hd : okD year month = false := by unfold okD; simp; omega
  rw [(of_no hd).1, (of_no hd).2] at ko
  clear hd
  have ks := fun w => shift_any p n w n1 n2
  have ky := fun w => year_any p w
  have km := fun w => month_any p w
  have kv := fun w => refValid_any p w
  have k1 := fun w => @valid_one p w 3
  have k2 := fun w => @valid_two 0 p w 3
  rw [show okP 0 = true from by decide, Bool.true_and] at k2
  by_cases c0 : p < 0
  · have hp : okP p = false := by unfold okP; simp; omega
    have hs : okS p n = false := by unfold okS okP; simp; omega
    rw [hp] at kv k1 k2
    rw [yearV_no hp] at ky
    rw [monthV_no hp] at km
    rw [(shift_no hs).1, (shift_no hs).2] at ks
    clear hp hs
    go_enter Try.func3, Try.ntmps3
    go_wp2_with fail
    refine (alive_any w).mono ?_
    rintro e w1 ⟨rfl, hb⟩
    have H1 := Lib.hid hb
    clear hb
    go_wp2_with fail
    refine (ko w1).mono ?_
    rintro e w2 ⟨rfl, hb2⟩
    have H2 : Hid (Below w.heap.size w w2) := H1.out.trans (hb2.mono H1.out.size)
    clear hb2 H1
    go_wp2_with fail
    refine (kv w2).mono ?_
    rintro e w2' ⟨rfl, rfl⟩
    go_wp2_with fail
    refine (ks w2).mono ?_
    rintro e w3 ⟨rfl, hb3⟩
    have H3 : Hid (Below w.heap.size w w3) := H2.out.trans (hb3.mono H2.out.size)
    clear hb3 H2
    go_wp2_with fail
    refine (k1 w3).mono ?_
    rintro e w3' ⟨rfl, rfl⟩
    have H4 : Hid (Below w.heap.size w (w3.alloc (.cells #[.int .i64 p] 3))) := H3.out.alloc H3.out.size _
    clear H3
    generalize w3.alloc (.cells #[.int .i64 p] 3) = w4 at *
    go_wp2_with fail
    refine (ky w4).mono ?_
    rintro e w5 ⟨rfl, hb5⟩
    have H5 : Hid (Below w.heap.size w w5) := H4.out.trans (hb5.mono H4.out.size)
    clear hb5 H4
    go_wp2_with fail
    refine (km w5).mono ?_
    rintro e w6 ⟨rfl, hb6⟩
    have H6 : Hid (Below w.heap.size w w6) := H5.out.trans (hb6.mono H5.out.size)
    clear hb6 H5
    go_wp2_with fail
    refine (valid_none w6).mono ?_
    rintro e w6' ⟨rfl, rfl⟩
    go_wp2_with fail
    refine (k2 w6).mono ?_
    rintro e w6' ⟨rfl, rfl⟩
    go_wp2
    go_ret
    exact ⟨rfl, H6.out.alloc H6.out.size _⟩
  by_cases c1 : 1199 < p
  · have hp : okP p = false := by unfold okP; simp; omega
    have hs : okS p n = false := by unfold okS okP; simp; omega
    rw [hp] at kv k1 k2
    rw [yearV_no hp] at ky
    rw [monthV_no hp] at km
    rw [(shift_no hs).1, (shift_no hs).2] at ks
    clear hp hs
    go_enter Try.func3, Try.ntmps3
    go_wp2_with fail
    refine (alive_any w).mono ?_
    rintro e w1 ⟨rfl, hb⟩
    have H1 := Lib.hid hb
    clear hb
    go_wp2_with fail
    refine (ko w1).mono ?_
    rintro e w2 ⟨rfl, hb2⟩
    have H2 : Hid (Below w.heap.size w w2) := H1.out.trans (hb2.mono H1.out.size)
    clear hb2 H1
    go_wp2_with fail
    refine (kv w2).mono ?_
    rintro e w2' ⟨rfl, rfl⟩
    go_wp2_with fail
    refine (ks w2).mono ?_
    rintro e w3 ⟨rfl, hb3⟩
    have H3 : Hid (Below w.heap.size w w3) := H2.out.trans (hb3.mono H2.out.size)
    clear hb3 H2
    go_wp2_with fail
    refine (k1 w3).mono ?_
    rintro e w3' ⟨rfl, rfl⟩
    have H4 : Hid (Below w.heap.size w (w3.alloc (.cells #[.int .i64 p] 3))) := H3.out.alloc H3.out.size _
    clear H3
    generalize w3.alloc (.cells #[.int .i64 p] 3) = w4 at *
    go_wp2_with fail
    refine (ky w4).mono ?_
    rintro e w5 ⟨rfl, hb5⟩
    have H5 : Hid (Below w.heap.size w w5) := H4.out.trans (hb5.mono H4.out.size)
    clear hb5 H4
    go_wp2_with fail
    refine (km w5).mono ?_
    rintro e w6 ⟨rfl, hb6⟩
    have H6 : Hid (Below w.heap.size w w6) := H5.out.trans (hb6.mono H5.out.size)
    clear hb6 H5
    go_wp2_with fail
    refine (valid_none w6).mono ?_
    rintro e w6' ⟨rfl, rfl⟩
    go_wp2_with fail
    refine (k2 w6).mono ?_
    rintro e w6' ⟨rfl, rfl⟩
    go_wp2
    go_ret
    exact ⟨rfl, H6.out.alloc H6.out.size _⟩
  by_cases c2 : n < -p
  · have hp : okP p = true := by unfold okP; simp; omega
    have hs : okS p n = false := by unfold okS okP; simp; omega
    rw [hp] at kv k1 k2
    rw [yearV_yes hp] at ky
    rw [monthV_yes hp] at km
    rw [(shift_no hs).1, (shift_no hs).2] at ks
    clear hp hs
    go_enter Try.func3, Try.ntmps3
    go_wp2_with fail
    refine (alive_any w).mono ?_
    rintro e w1 ⟨rfl, hb⟩
    have H1 := Lib.hid hb
    clear hb
    go_wp2_with fail
    refine (ko w1).mono ?_
    rintro e w2 ⟨rfl, hb2⟩
    have H2 : Hid (Below w.heap.size w w2) := H1.out.trans (hb2.mono H1.out.size)
    clear hb2 H1
    go_wp2_with fail
    refine (kv w2).mono ?_
    rintro e w2' ⟨rfl, rfl⟩
    go_wp2_with fail
    refine (ks w2).mono ?_
    rintro e w3 ⟨rfl, hb3⟩
    have H3 : Hid (Below w.heap.size w w3) := H2.out.trans (hb3.mono H2.out.size)
    clear hb3 H2
    go_wp2_with fail
    refine (k1 w3).mono ?_
    rintro e w3' ⟨rfl, rfl⟩
    have H4 : Hid (Below w.heap.size w (w3.alloc (.cells #[.int .i64 p] 3))) := H3.out.alloc H3.out.size _
    clear H3
    generalize w3.alloc (.cells #[.int .i64 p] 3) = w4 at *
    go_wp2_with fail
    refine (ky w4).mono ?_
    rintro e w5 ⟨rfl, hb5⟩
    have H5 : Hid (Below w.heap.size w w5) := H4.out.trans (hb5.mono H4.out.size)
    clear hb5 H4
    go_wp2_with fail
    refine (km w5).mono ?_
    rintro e w6 ⟨rfl, hb6⟩
    have H6 : Hid (Below w.heap.size w w6) := H5.out.trans (hb6.mono H5.out.size)
    clear hb6 H5
    go_wp2_with fail
    refine (valid_none w6).mono ?_
    rintro e w6' ⟨rfl, rfl⟩
    go_wp2_with fail
    refine (k2 w6).mono ?_
    rintro e w6' ⟨rfl, rfl⟩
    go_wp2
    go_ret
    exact ⟨rfl, H6.out.alloc H6.out.size _⟩
  by_cases c3 : 1199 - p < n
  · have hp : okP p = true := by unfold okP; simp; omega
    have hs : okS p n = false := by unfold okS okP; simp; omega
    rw [hp] at kv k1 k2
    rw [yearV_yes hp] at ky
    rw [monthV_yes hp] at km
    rw [(shift_no hs).1, (shift_no hs).2] at ks
    clear hp hs
    go_enter Try.func3, Try.ntmps3
    go_wp2_with fail
    refine (alive_any w).mono ?_
    rintro e w1 ⟨rfl, hb⟩
    have H1 := Lib.hid hb
    clear hb
    go_wp2_with fail
    refine (ko w1).mono ?_
    rintro e w2 ⟨rfl, hb2⟩
    have H2 : Hid (Below w.heap.size w w2) := H1.out.trans (hb2.mono H1.out.size)
    clear hb2 H1
    go_wp2_with fail
    refine (kv w2).mono ?_
    rintro e w2' ⟨rfl, rfl⟩
    go_wp2_with fail
    refine (ks w2).mono ?_
    rintro e w3 ⟨rfl, hb3⟩
    have H3 : Hid (Below w.heap.size w w3) := H2.out.trans (hb3.mono H2.out.size)
    clear hb3 H2
    go_wp2_with fail
    refine (k1 w3).mono ?_
    rintro e w3' ⟨rfl, rfl⟩
    have H4 : Hid (Below w.heap.size w (w3.alloc (.cells #[.int .i64 p] 3))) := H3.out.alloc H3.out.size _
    clear H3
    generalize w3.alloc (.cells #[.int .i64 p] 3) = w4 at *
    go_wp2_with fail
    refine (ky w4).mono ?_
    rintro e w5 ⟨rfl, hb5⟩
    have H5 : Hid (Below w.heap.size w w5) := H4.out.trans (hb5.mono H4.out.size)
    clear hb5 H4
    go_wp2_with fail
    refine (km w5).mono ?_
    rintro e w6 ⟨rfl, hb6⟩
    have H6 : Hid (Below w.heap.size w w6) := H5.out.trans (hb6.mono H5.out.size)
    clear hb6 H5
    go_wp2_with fail
    refine (valid_none w6).mono ?_
    rintro e w6' ⟨rfl, rfl⟩
    go_wp2_with fail
    refine (k2 w6).mono ?_
    rintro e w6' ⟨rfl, rfl⟩
    go_wp2
    go_ret
    exact ⟨rfl, H6.out.alloc H6.out.size _⟩
  · have hp : okP p = true := by unfold okP; simp; omega
    have hs : okS p n = true := by unfold okS okP; simp; omega
    rw [hp] at kv k1 k2
    rw [yearV_yes hp] at ky
    rw [monthV_yes hp] at km
    rw [(shift_yes hs).1, (shift_yes hs).2] at ks
    clear hp hs
    go_enter Try.func3, Try.ntmps3
    go_wp2_with fail
    refine (alive_any w).mono ?_
    rintro e w1 ⟨rfl, hb⟩
    have H1 := Lib.hid hb
    clear hb
    go_wp2_with fail
    refine (ko w1).mono ?_
    rintro e w2 ⟨rfl, hb2⟩
    have H2 : Hid (Below w.heap.size w w2) := H1.out.trans (hb2.mono H1.out.size)
    clear hb2 H1
    go_wp2_with fail
    refine (kv w2).mono ?_
    rintro e w2' ⟨rfl, rfl⟩
    go_wp2_with fail
    refine (ks w2).mono ?_
    rintro e w3 ⟨rfl, hb3⟩
    have H3 : Hid (Below w.heap.size w w3) := H2.out.trans (hb3.mono H2.out.size)
    clear hb3 H2
    go_wp2_with fail
    refine (k1 w3).mono ?_
    rintro e w3' ⟨rfl, rfl⟩
    have H4 : Hid (Below w.heap.size w (w3.alloc (.cells #[.int .i64 p] 3))) := H3.out.alloc H3.out.size _
    clear H3
    generalize w3.alloc (.cells #[.int .i64 p] 3) = w4 at *
    go_wp2_with fail
    refine (ky w4).mono ?_
    rintro e w5 ⟨rfl, hb5⟩
    have H5 : Hid (Below w.heap.size w w5) := H4.out.trans (hb5.mono H4.out.size)
    clear hb5 H4
    go_wp2_with fail
    refine (km w5).mono ?_
    rintro e w6 ⟨rfl, hb6⟩
    have H6 : Hid (Below w.heap.size w w6) := H5.out.trans (hb6.mono H5.out.size)
    clear hb6 H5
    go_wp2_with fail
    refine (valid_none w6).mono ?_
    rintro e w6' ⟨rfl, rfl⟩
    go_wp2_with fail
    refine (k2 w6).mono ?_
    rintro e w6' ⟨rfl, rfl⟩
    go_wp2
    go_ret
    exact ⟨rfl, H6.out.alloc H6.out.size _⟩

set_option maxRecDepth 100000 in
set_option maxHeartbeats 4000000 in
theorem tells_d2 (year month p n : Int) (w : World) (d : 2000 ≤ year) (d2 : year ≤ 2099) (d3 : month < 1) (n1 : -9223372036854775808 ≤ n) (n2 : n ≤ 9223372036854775807) :
    Calls Try.prog 3 #[.int .i64 year, .int .i64 month, .int .i64 p, .int .i64 n] w fun e w' => e = .returned (.bool true) ∧ Below w.heap.size w w' := by
  have ko := fun w => of_any year month w
  have hd : okD year month = false := by unfold okD; simp; omega
  rw [(of_no hd).1, (of_no hd).2] at ko
  clear hd
  have ks := fun w => shift_any p n w n1 n2
  have ky := fun w => year_any p w
  have km := fun w => month_any p w
  have kv := fun w => refValid_any p w
  have k1 := fun w => @valid_one p w 3
  have k2 := fun w => @valid_two 0 p w 3
  rw [show okP 0 = true from by decide, Bool.true_and] at k2
  by_cases c0 : p < 0
  · have hp : okP p = false := by unfold okP; simp; omega
    have hs : okS p n = false := by unfold okS okP; simp; omega
    rw [hp] at kv k1 k2
    rw [yearV_no hp] at ky
    rw [monthV_no hp] at km
    rw [(shift_no hs).1, (shift_no hs).2] at ks
    clear hp hs
    go_enter Try.func3, Try.ntmps3
    go_wp2_with fail
    refine (alive_any w).mono ?_
    rintro e w1 ⟨rfl, hb⟩
    have H1 := Lib.hid hb
    clear hb
    go_wp2_with fail
    refine (ko w1).mono ?_
    rintro e w2 ⟨rfl, hb2⟩
    have H2 : Hid (Below w.heap.size w w2) := H1.out.trans (hb2.mono H1.out.size)
    clear hb2 H1
    go_wp2_with fail
    refine (kv w2).mono ?_
    rintro e w2' ⟨rfl, rfl⟩
    go_wp2_with fail
    refine (ks w2).mono ?_
    rintro e w3 ⟨rfl, hb3⟩
    have H3 : Hid (Below w.heap.size w w3) := H2.out.trans (hb3.mono H2.out.size)
    clear hb3 H2
    go_wp2_with fail
    refine (k1 w3).mono ?_
    rintro e w3' ⟨rfl, rfl⟩
    have H4 : Hid (Below w.heap.size w (w3.alloc (.cells #[.int .i64 p] 3))) := H3.out.alloc H3.out.size _
    clear H3
    generalize w3.alloc (.cells #[.int .i64 p] 3) = w4 at *
    go_wp2_with fail
    refine (ky w4).mono ?_
    rintro e w5 ⟨rfl, hb5⟩
    have H5 : Hid (Below w.heap.size w w5) := H4.out.trans (hb5.mono H4.out.size)
    clear hb5 H4
    go_wp2_with fail
    refine (km w5).mono ?_
    rintro e w6 ⟨rfl, hb6⟩
    have H6 : Hid (Below w.heap.size w w6) := H5.out.trans (hb6.mono H5.out.size)
    clear hb6 H5
    go_wp2_with fail
    refine (valid_none w6).mono ?_
    rintro e w6' ⟨rfl, rfl⟩
    go_wp2_with fail
    refine (k2 w6).mono ?_
    rintro e w6' ⟨rfl, rfl⟩
    go_wp2
    go_ret
    exact ⟨rfl, H6.out.alloc H6.out.size _⟩
  by_cases c1 : 1199 < p
  · have hp : okP p = false := by unfold okP; simp; omega
    have hs : okS p n = false := by unfold okS okP; simp; omega
    rw [hp] at kv k1 k2
    rw [yearV_no hp] at ky
    rw [monthV_no hp] at km
    rw [(shift_no hs).1, (shift_no hs).2] at ks
    clear hp hs
    go_enter Try.func3, Try.ntmps3
    go_wp2_with fail
    refine (alive_any w).mono ?_
    rintro e w1 ⟨rfl, hb⟩
    have H1 := Lib.hid hb
    clear hb
    go_wp2_with fail
    refine (ko w1).mono ?_
    rintro e w2 ⟨rfl, hb2⟩
    have H2 : Hid (Below w.heap.size w w2) := H1.out.trans (hb2.mono H1.out.size)
    clear hb2 H1
    go_wp2_with fail
    refine (kv w2).mono ?_
    rintro e w2' ⟨rfl, rfl⟩
    go_wp2_with fail
    refine (ks w2).mono ?_
    rintro e w3 ⟨rfl, hb3⟩
    have H3 : Hid (Below w.heap.size w w3) := H2.out.trans (hb3.mono H2.out.size)
    clear hb3 H2
    go_wp2_with fail
    refine (k1 w3).mono ?_
    rintro e w3' ⟨rfl, rfl⟩
    have H4 : Hid (Below w.heap.size w (w3.alloc (.cells #[.int .i64 p] 3))) := H3.out.alloc H3.out.size _
    clear H3
    generalize w3.alloc (.cells #[.int .i64 p] 3) = w4 at *
    go_wp2_with fail
    refine (ky w4).mono ?_
    rintro e w5 ⟨rfl, hb5⟩
    have H5 : Hid (Below w.heap.size w w5) := H4.out.trans (hb5.mono H4.out.size)
    clear hb5 H4
    go_wp2_with fail
    refine (km w5).mono ?_
    rintro e w6 ⟨rfl, hb6⟩
    have H6 : Hid (Below w.heap.size w w6) := H5.out.trans (hb6.mono H5.out.size)
    clear hb6 H5
    go_wp2_with fail
    refine (valid_none w6).mono ?_
    rintro e w6' ⟨rfl, rfl⟩
    go_wp2_with fail
    refine (k2 w6).mono ?_
    rintro e w6' ⟨rfl, rfl⟩
    go_wp2
    go_ret
    exact ⟨rfl, H6.out.alloc H6.out.size _⟩
  by_cases c2 : n < -p
  · have hp : okP p = true := by unfold okP; simp; omega
    have hs : okS p n = false := by unfold okS okP; simp; omega
    rw [hp] at kv k1 k2
    rw [yearV_yes hp] at ky
    rw [monthV_yes hp] at km
    rw [(shift_no hs).1, (shift_no hs).2] at ks
    clear hp hs
    go_enter Try.func3, Try.ntmps3
    go_wp2_with fail
    refine (alive_any w).mono ?_
    rintro e w1 ⟨rfl, hb⟩
    have H1 := Lib.hid hb
    clear hb
    go_wp2_with fail
    refine (ko w1).mono ?_
    rintro e w2 ⟨rfl, hb2⟩
    have H2 : Hid (Below w.heap.size w w2) := H1.out.trans (hb2.mono H1.out.size)
    clear hb2 H1
    go_wp2_with fail
    refine (kv w2).mono ?_
    rintro e w2' ⟨rfl, rfl⟩
    go_wp2_with fail
    refine (ks w2).mono ?_
    rintro e w3 ⟨rfl, hb3⟩
    have H3 : Hid (Below w.heap.size w w3) := H2.out.trans (hb3.mono H2.out.size)
    clear hb3 H2
    go_wp2_with fail
    refine (k1 w3).mono ?_
    rintro e w3' ⟨rfl, rfl⟩
    have H4 : Hid (Below w.heap.size w (w3.alloc (.cells #[.int .i64 p] 3))) := H3.out.alloc H3.out.size _
    clear H3
    generalize w3.alloc (.cells #[.int .i64 p] 3) = w4 at *
    go_wp2_with fail
    refine (ky w4).mono ?_
    rintro e w5 ⟨rfl, hb5⟩
    have H5 : Hid (Below w.heap.size w w5) := H4.out.trans (hb5.mono H4.out.size)
    clear hb5 H4
    go_wp2_with fail
    refine (km w5).mono ?_
    rintro e w6 ⟨rfl, hb6⟩
    have H6 : Hid (Below w.heap.size w w6) := H5.out.trans (hb6.mono H5.out.size)
    clear hb6 H5
    go_wp2_with fail
    refine (valid_none w6).mono ?_
    rintro e w6' ⟨rfl, rfl⟩
    go_wp2_with fail
    refine (k2 w6).mono ?_
    rintro e w6' ⟨rfl, rfl⟩
    go_wp2
    go_ret
    exact ⟨rfl, H6.out.alloc H6.out.size _⟩
  by_cases c3 : 1199 - p < n
  · have hp : okP p = true := by unfold okP; simp; omega
    have hs : okS p n = false := by unfold okS okP; simp; omega
    rw [hp] at kv k1 k2
    rw [yearV_yes hp] at ky
    rw [monthV_yes hp] at km
    rw [(shift_no hs).1, (shift_no hs).2] at ks
    clear hp hs
    go_enter Try.func3, Try.ntmps3
    go_wp2_with fail
    refine (alive_any w).mono ?_
    rintro e w1 ⟨rfl, hb⟩
    have H1 := Lib.hid hb
    clear hb
    go_wp2_with fail
    refine (ko w1).mono ?_
    rintro e w2 ⟨rfl, hb2⟩
    have H2 : Hid (Below w.heap.size w w2) := H1.out.trans (hb2.mono H1.out.size)
    clear hb2 H1
    go_wp2_with fail
    refine (kv w2).mono ?_
    rintro e w2' ⟨rfl, rfl⟩
    go_wp2_with fail
    refine (ks w2).mono ?_
    rintro e w3 ⟨rfl, hb3⟩
    have H3 : Hid (Below w.heap.size w w3) := H2.out.trans (hb3.mono H2.out.size)
    clear hb3 H2
    go_wp2_with fail
    refine (k1 w3).mono ?_
    rintro e w3' ⟨rfl, rfl⟩
    have H4 : Hid (Below w.heap.size w (w3.alloc (.cells #[.int .i64 p] 3))) := H3.out.alloc H3.out.size _
    clear H3
    generalize w3.alloc (.cells #[.int .i64 p] 3) = w4 at *
    go_wp2_with fail
    refine (ky w4).mono ?_
    rintro e w5 ⟨rfl, hb5⟩
    have H5 : Hid (Below w.heap.size w w5) := H4.out.trans (hb5.mono H4.out.size)
    clear hb5 H4
    go_wp2_with fail
    refine (km w5).mono ?_
    rintro e w6 ⟨rfl, hb6⟩
    have H6 : Hid (Below w.heap.size w w6) := H5.out.trans (hb6.mono H5.out.size)
    clear hb6 H5
    go_wp2_with fail
    refine (valid_none w6).mono ?_
    rintro e w6' ⟨rfl, rfl⟩
    go_wp2_with fail
    refine (k2 w6).mono ?_
    rintro e w6' ⟨rfl, rfl⟩
    go_wp2
    go_ret
    exact ⟨rfl, H6.out.alloc H6.out.size _⟩
  · have hp : okP p = true := by unfold okP; simp; omega
    have hs : okS p n = true := by unfold okS okP; simp; omega
    rw [hp] at kv k1 k2
    rw [yearV_yes hp] at ky
    rw [monthV_yes hp] at km
    rw [(shift_yes hs).1, (shift_yes hs).2] at ks
    clear hp hs
    go_enter Try.func3, Try.ntmps3
    go_wp2_with fail
    refine (alive_any w).mono ?_
    rintro e w1 ⟨rfl, hb⟩
    have H1 := Lib.hid hb
    clear hb
    go_wp2_with fail
    refine (ko w1).mono ?_
    rintro e w2 ⟨rfl, hb2⟩
    have H2 : Hid (Below w.heap.size w w2) := H1.out.trans (hb2.mono H1.out.size)
    clear hb2 H1
    go_wp2_with fail
    refine (kv w2).mono ?_
    rintro e w2' ⟨rfl, rfl⟩
    go_wp2_with fail
    refine (ks w2).mono ?_
    rintro e w3 ⟨rfl, hb3⟩
    have H3 : Hid (Below w.heap.size w w3) := H2.out.trans (hb3.mono H2.out.size)
    clear hb3 H2
    go_wp2_with fail
    refine (k1 w3).mono ?_
    rintro e w3' ⟨rfl, rfl⟩
    have H4 : Hid (Below w.heap.size w (w3.alloc (.cells #[.int .i64 p] 3))) := H3.out.alloc H3.out.size _
    clear H3
    generalize w3.alloc (.cells #[.int .i64 p] 3) = w4 at *
    go_wp2_with fail
    refine (ky w4).mono ?_
    rintro e w5 ⟨rfl, hb5⟩
    have H5 : Hid (Below w.heap.size w w5) := H4.out.trans (hb5.mono H4.out.size)
    clear hb5 H4
    go_wp2_with fail
    refine (km w5).mono ?_
    rintro e w6 ⟨rfl, hb6⟩
    have H6 : Hid (Below w.heap.size w w6) := H5.out.trans (hb6.mono H5.out.size)
    clear hb6 H5
    go_wp2_with fail
    refine (valid_none w6).mono ?_
    rintro e w6' ⟨rfl, rfl⟩
    go_wp2_with fail
    refine (k2 w6).mono ?_
    rintro e w6' ⟨rfl, rfl⟩
    go_wp2
    go_ret
    exact ⟨rfl, H6.out.alloc H6.out.size _⟩

set_option maxRecDepth 100000 in
set_option maxHeartbeats 4000000 in
theorem tells_d3 (year month p n : Int) (w : World) (d : 2000 ≤ year) (d2 : year ≤ 2099) (d3 : 1 ≤ month) (d4 : 12 < month) (n1 : -9223372036854775808 ≤ n) (n2 : n ≤ 9223372036854775807) :
    Calls Try.prog 3 #[.int .i64 year, .int .i64 month, .int .i64 p, .int .i64 n] w fun e w' => e = .returned (.bool true) ∧ Below w.heap.size w w' := by
  have ko := fun w => of_any year month w
  have hd : okD year month = false := by unfold okD; simp; omega
  rw [(of_no hd).1, (of_no hd).2] at ko
  clear hd
  have ks := fun w => shift_any p n w n1 n2
  have ky := fun w => year_any p w
  have km := fun w => month_any p w
  have kv := fun w => refValid_any p w
  have k1 := fun w => @valid_one p w 3
  have k2 := fun w => @valid_two 0 p w 3
  rw [show okP 0 = true from by decide, Bool.true_and] at k2
  by_cases c0 : p < 0
  · have hp : okP p = false := by unfold okP; simp; omega
    have hs : okS p n = false := by unfold okS okP; simp; omega
    rw [hp] at kv k1 k2
    rw [yearV_no hp] at ky
    rw [monthV_no hp] at km
    rw [(shift_no hs).1, (shift_no hs).2] at ks
    clear hp hs
    go_enter Try.func3, Try.ntmps3
    go_wp2_with fail
    refine (alive_any w).mono ?_
    rintro e w1 ⟨rfl, hb⟩
    have H1 := Lib.hid hb
    clear hb
    go_wp2_with fail
    refine (ko w1).mono ?_
    rintro e w2 ⟨rfl, hb2⟩
    have H2 : Hid (Below w.heap.size w w2) := H1.out.trans (hb2.mono H1.out.size)
    clear hb2 H1
    go_wp2_with fail
    refine (kv w2).mono ?_
    rintro e w2' ⟨rfl, rfl⟩
    go_wp2_with fail
    refine (ks w2).mono ?_
    rintro e w3 ⟨rfl, hb3⟩
    have H3 : Hid (Below w.heap.size w w3) := H2.out.trans (hb3.mono H2.out.size)
    clear hb3 H2
    go_wp2_with fail
    refine (k1 w3).mono ?_
    rintro e w3' ⟨rfl, rfl⟩
    have H4 : Hid (Below w.heap.size w (w3.alloc (.cells #[.int .i64 p] 3))) := H3.out.alloc H3.out.size _
    clear H3
    generalize w3.alloc (.cells #[.int .i64 p] 3) = w4 at *
    go_wp2_with fail
    refine (ky w4).mono ?_
    rintro e w5 ⟨rfl, hb5⟩
    have H5 : Hid (Below w.heap.size w w5) := H4.out.trans (hb5.mono H4.out.size)
    clear hb5 H4
    go_wp2_with fail
    refine (km w5).mono ?_
    rintro e w6 ⟨rfl, hb6⟩
    have H6 : Hid (Below w.heap.size w w6) := H5.out.trans (hb6.mono H5.out.size)
    clear hb6 H5
    go_wp2_with fail
    refine (valid_none w6).mono ?_
    rintro e w6' ⟨rfl, rfl⟩
    go_wp2_with fail
    refine (k2 w6).mono ?_
    rintro e w6' ⟨rfl, rfl⟩
    go_wp2
    go_ret
    exact ⟨rfl, H6.out.alloc H6.out.size _⟩
  by_cases c1 : 1199 < p
  · have hp : okP p = false := by unfold okP; simp; omega
    have hs : okS p n = false := by unfold okS okP; simp; omega
    rw [hp] at kv k1 k2
    rw [yearV_no hp] at ky
    rw [monthV_no hp] at km
    rw [(shift_no hs).1, (shift_no hs).2] at ks
    clear hp hs
    go_enter Try.func3, Try.ntmps3
    go_wp2_with fail
    refine (alive_any w).mono ?_
    rintro e w1 ⟨rfl, hb⟩
    have H1 := Lib.hid hb
    clear hb
    go_wp2_with fail
    refine (ko w1).mono ?_
    rintro e w2 ⟨rfl, hb2⟩
    have H2 : Hid (Below w.heap.size w w2) := H1.out.trans (hb2.mono H1.out.size)
    clear hb2 H1
    go_wp2_with fail
    refine (kv w2).mono ?_
    rintro e w2' ⟨rfl, rfl⟩
    go_wp2_with fail
    refine (ks w2).mono ?_
    rintro e w3 ⟨rfl, hb3⟩
    have H3 : Hid (Below w.heap.size w w3) := H2.out.trans (hb3.mono H2.out.size)
    clear hb3 H2
    go_wp2_with fail
    refine (k1 w3).mono ?_
    rintro e w3' ⟨rfl, rfl⟩
    have H4 : Hid (Below w.heap.size w (w3.alloc (.cells #[.int .i64 p] 3))) := H3.out.alloc H3.out.size _
    clear H3
    generalize w3.alloc (.cells #[.int .i64 p] 3) = w4 at *
    go_wp2_with fail
    refine (ky w4).mono ?_
    rintro e w5 ⟨rfl, hb5⟩
    have H5 : Hid (Below w.heap.size w w5) := H4.out.trans (hb5.mono H4.out.size)
    clear hb5 H4
    go_wp2_with fail
    refine (km w5).mono ?_
    rintro e w6 ⟨rfl, hb6⟩
    have H6 : Hid (Below w.heap.size w w6) := H5.out.trans (hb6.mono H5.out.size)
    clear hb6 H5
    go_wp2_with fail
    refine (valid_none w6).mono ?_
    rintro e w6' ⟨rfl, rfl⟩
    go_wp2_with fail
    refine (k2 w6).mono ?_
    rintro e w6' ⟨rfl, rfl⟩
    go_wp2
    go_ret
    exact ⟨rfl, H6.out.alloc H6.out.size _⟩
  by_cases c2 : n < -p
  · have hp : okP p = true := by unfold okP; simp; omega
    have hs : okS p n = false := by unfold okS okP; simp; omega
    rw [hp] at kv k1 k2
    rw [yearV_yes hp] at ky
    rw [monthV_yes hp] at km
    rw [(shift_no hs).1, (shift_no hs).2] at ks
    clear hp hs
    go_enter Try.func3, Try.ntmps3
    go_wp2_with fail
    refine (alive_any w).mono ?_
    rintro e w1 ⟨rfl, hb⟩
    have H1 := Lib.hid hb
    clear hb
    go_wp2_with fail
    refine (ko w1).mono ?_
    rintro e w2 ⟨rfl, hb2⟩
    have H2 : Hid (Below w.heap.size w w2) := H1.out.trans (hb2.mono H1.out.size)
    clear hb2 H1
    go_wp2_with fail
    refine (kv w2).mono ?_
    rintro e w2' ⟨rfl, rfl⟩
    go_wp2_with fail
    refine (ks w2).mono ?_
    rintro e w3 ⟨rfl, hb3⟩
    have H3 : Hid (Below w.heap.size w w3) := H2.out.trans (hb3.mono H2.out.size)
    clear hb3 H2
    go_wp2_with fail
    refine (k1 w3).mono ?_
    rintro e w3' ⟨rfl, rfl⟩
    have H4 : Hid (Below w.heap.size w (w3.alloc (.cells #[.int .i64 p] 3))) := H3.out.alloc H3.out.size _
    clear H3
    generalize w3.alloc (.cells #[.int .i64 p] 3) = w4 at *
    go_wp2_with fail
    refine (ky w4).mono ?_
    rintro e w5 ⟨rfl, hb5⟩
    have H5 : Hid (Below w.heap.size w w5) := H4.out.trans (hb5.mono H4.out.size)
    clear hb5 H4
    go_wp2_with fail
    refine (km w5).mono ?_
    rintro e w6 ⟨rfl, hb6⟩
    have H6 : Hid (Below w.heap.size w w6) := H5.out.trans (hb6.mono H5.out.size)
    clear hb6 H5
    go_wp2_with fail
    refine (valid_none w6).mono ?_
    rintro e w6' ⟨rfl, rfl⟩
    go_wp2_with fail
    refine (k2 w6).mono ?_
    rintro e w6' ⟨rfl, rfl⟩
    go_wp2
    go_ret
    exact ⟨rfl, H6.out.alloc H6.out.size _⟩
  by_cases c3 : 1199 - p < n
  · have hp : okP p = true := by unfold okP; simp; omega
    have hs : okS p n = false := by unfold okS okP; simp; omega
    rw [hp] at kv k1 k2
    rw [yearV_yes hp] at ky
    rw [monthV_yes hp] at km
    rw [(shift_no hs).1, (shift_no hs).2] at ks
    clear hp hs
    go_enter Try.func3, Try.ntmps3
    go_wp2_with fail
    refine (alive_any w).mono ?_
    rintro e w1 ⟨rfl, hb⟩
    have H1 := Lib.hid hb
    clear hb
    go_wp2_with fail
    refine (ko w1).mono ?_
    rintro e w2 ⟨rfl, hb2⟩
    have H2 : Hid (Below w.heap.size w w2) := H1.out.trans (hb2.mono H1.out.size)
    clear hb2 H1
    go_wp2_with fail
    refine (kv w2).mono ?_
    rintro e w2' ⟨rfl, rfl⟩
    go_wp2_with fail
    refine (ks w2).mono ?_
    rintro e w3 ⟨rfl, hb3⟩
    have H3 : Hid (Below w.heap.size w w3) := H2.out.trans (hb3.mono H2.out.size)
    clear hb3 H2
    go_wp2_with fail
    refine (k1 w3).mono ?_
    rintro e w3' ⟨rfl, rfl⟩
    have H4 : Hid (Below w.heap.size w (w3.alloc (.cells #[.int .i64 p] 3))) := H3.out.alloc H3.out.size _
    clear H3
    generalize w3.alloc (.cells #[.int .i64 p] 3) = w4 at *
    go_wp2_with fail
    refine (ky w4).mono ?_
    rintro e w5 ⟨rfl, hb5⟩
    have H5 : Hid (Below w.heap.size w w5) := H4.out.trans (hb5.mono H4.out.size)
    clear hb5 H4
    go_wp2_with fail
    refine (km w5).mono ?_
    rintro e w6 ⟨rfl, hb6⟩
    have H6 : Hid (Below w.heap.size w w6) := H5.out.trans (hb6.mono H5.out.size)
    clear hb6 H5
    go_wp2_with fail
    refine (valid_none w6).mono ?_
    rintro e w6' ⟨rfl, rfl⟩
    go_wp2_with fail
    refine (k2 w6).mono ?_
    rintro e w6' ⟨rfl, rfl⟩
    go_wp2
    go_ret
    exact ⟨rfl, H6.out.alloc H6.out.size _⟩
  · have hp : okP p = true := by unfold okP; simp; omega
    have hs : okS p n = true := by unfold okS okP; simp; omega
    rw [hp] at kv k1 k2
    rw [yearV_yes hp] at ky
    rw [monthV_yes hp] at km
    rw [(shift_yes hs).1, (shift_yes hs).2] at ks
    clear hp hs
    go_enter Try.func3, Try.ntmps3
    go_wp2_with fail
    refine (alive_any w).mono ?_
    rintro e w1 ⟨rfl, hb⟩
    have H1 := Lib.hid hb
    clear hb
    go_wp2_with fail
    refine (ko w1).mono ?_
    rintro e w2 ⟨rfl, hb2⟩
    have H2 : Hid (Below w.heap.size w w2) := H1.out.trans (hb2.mono H1.out.size)
    clear hb2 H1
    go_wp2_with fail
    refine (kv w2).mono ?_
    rintro e w2' ⟨rfl, rfl⟩
    go_wp2_with fail
    refine (ks w2).mono ?_
    rintro e w3 ⟨rfl, hb3⟩
    have H3 : Hid (Below w.heap.size w w3) := H2.out.trans (hb3.mono H2.out.size)
    clear hb3 H2
    go_wp2_with fail
    refine (k1 w3).mono ?_
    rintro e w3' ⟨rfl, rfl⟩
    have H4 : Hid (Below w.heap.size w (w3.alloc (.cells #[.int .i64 p] 3))) := H3.out.alloc H3.out.size _
    clear H3
    generalize w3.alloc (.cells #[.int .i64 p] 3) = w4 at *
    go_wp2_with fail
    refine (ky w4).mono ?_
    rintro e w5 ⟨rfl, hb5⟩
    have H5 : Hid (Below w.heap.size w w5) := H4.out.trans (hb5.mono H4.out.size)
    clear hb5 H4
    go_wp2_with fail
    refine (km w5).mono ?_
    rintro e w6 ⟨rfl, hb6⟩
    have H6 : Hid (Below w.heap.size w w6) := H5.out.trans (hb6.mono H5.out.size)
    clear hb6 H5
    go_wp2_with fail
    refine (valid_none w6).mono ?_
    rintro e w6' ⟨rfl, rfl⟩
    go_wp2_with fail
    refine (k2 w6).mono ?_
    rintro e w6' ⟨rfl, rfl⟩
    go_wp2
    go_ret
    exact ⟨rfl, H6.out.alloc H6.out.size _⟩

set_option maxRecDepth 100000 in
set_option maxHeartbeats 4000000 in
theorem tells_d4 (year month p n : Int) (w : World) (d : 2000 ≤ year) (d2 : year ≤ 2099) (d3 : 1 ≤ month) (d4 : month ≤ 12) (n1 : -9223372036854775808 ≤ n) (n2 : n ≤ 9223372036854775807) :
    Calls Try.prog 3 #[.int .i64 year, .int .i64 month, .int .i64 p, .int .i64 n] w fun e w' => e = .returned (.bool true) ∧ Below w.heap.size w w' := by
  have ko := fun w => of_any year month w
  have hd : okD year month = true := by unfold okD; simp; omega
  rw [(of_yes hd).1, (of_yes hd).2] at ko
  clear hd
  have ks := fun w => shift_any p n w n1 n2
  have ky := fun w => year_any p w
  have km := fun w => month_any p w
  have kv := fun w => refValid_any p w
  have k1 := fun w => @valid_one p w 3
  have k2 := fun w => @valid_two 0 p w 3
  rw [show okP 0 = true from by decide, Bool.true_and] at k2
  by_cases c0 : p < 0
  · have hp : okP p = false := by unfold okP; simp; omega
    have hs : okS p n = false := by unfold okS okP; simp; omega
    rw [hp] at kv k1 k2
    rw [yearV_no hp] at ky
    rw [monthV_no hp] at km
    rw [(shift_no hs).1, (shift_no hs).2] at ks
    clear hp hs
    go_enter Try.func3, Try.ntmps3
    go_wp2_with fail
    refine (alive_any w).mono ?_
    rintro e w1 ⟨rfl, hb⟩
    have H1 := Lib.hid hb
    clear hb
    go_wp2_with fail
    refine (ko w1).mono ?_
    rintro e w2 ⟨rfl, hb2⟩
    have H2 : Hid (Below w.heap.size w w2) := H1.out.trans (hb2.mono H1.out.size)
    clear hb2 H1
    go_wp2_with fail
    refine (kv w2).mono ?_
    rintro e w2' ⟨rfl, rfl⟩
    go_wp2_with fail
    refine (ks w2).mono ?_
    rintro e w3 ⟨rfl, hb3⟩
    have H3 : Hid (Below w.heap.size w w3) := H2.out.trans (hb3.mono H2.out.size)
    clear hb3 H2
    go_wp2_with fail
    refine (k1 w3).mono ?_
    rintro e w3' ⟨rfl, rfl⟩
    have H4 : Hid (Below w.heap.size w (w3.alloc (.cells #[.int .i64 p] 3))) := H3.out.alloc H3.out.size _
    clear H3
    generalize w3.alloc (.cells #[.int .i64 p] 3) = w4 at *
    go_wp2_with fail
    refine (ky w4).mono ?_
    rintro e w5 ⟨rfl, hb5⟩
    have H5 : Hid (Below w.heap.size w w5) := H4.out.trans (hb5.mono H4.out.size)
    clear hb5 H4
    go_wp2_with fail
    refine (km w5).mono ?_
    rintro e w6 ⟨rfl, hb6⟩
    have H6 : Hid (Below w.heap.size w w6) := H5.out.trans (hb6.mono H5.out.size)
    clear hb6 H5
    go_wp2_with fail
    refine (valid_none w6).mono ?_
    rintro e w6' ⟨rfl, rfl⟩
    go_wp2_with fail
    refine (k2 w6).mono ?_
    rintro e w6' ⟨rfl, rfl⟩
    go_wp2
    go_ret
    exact ⟨rfl, H6.out.alloc H6.out.size _⟩
  by_cases c1 : 1199 < p
  · have hp : okP p = false := by unfold okP; simp; omega
    have hs : okS p n = false := by unfold okS okP; simp; omega
    rw [hp] at kv k1 k2
    rw [yearV_no hp] at ky
    rw [monthV_no hp] at km
    rw [(shift_no hs).1, (shift_no hs).2] at ks
    clear hp hs
    go_enter Try.func3, Try.ntmps3
    go_wp2_with fail
    refine (alive_any w).mono ?_
    rintro e w1 ⟨rfl, hb⟩
    have H1 := Lib.hid hb
    clear hb
    go_wp2_with fail
    refine (ko w1).mono ?_
    rintro e w2 ⟨rfl, hb2⟩
    have H2 : Hid (Below w.heap.size w w2) := H1.out.trans (hb2.mono H1.out.size)
    clear hb2 H1
    go_wp2_with fail
    refine (kv w2).mono ?_
    rintro e w2' ⟨rfl, rfl⟩
    go_wp2_with fail
    refine (ks w2).mono ?_
    rintro e w3 ⟨rfl, hb3⟩
    have H3 : Hid (Below w.heap.size w w3) := H2.out.trans (hb3.mono H2.out.size)
    clear hb3 H2
    go_wp2_with fail
    refine (k1 w3).mono ?_
    rintro e w3' ⟨rfl, rfl⟩
    have H4 : Hid (Below w.heap.size w (w3.alloc (.cells #[.int .i64 p] 3))) := H3.out.alloc H3.out.size _
    clear H3
    generalize w3.alloc (.cells #[.int .i64 p] 3) = w4 at *
    go_wp2_with fail
    refine (ky w4).mono ?_
    rintro e w5 ⟨rfl, hb5⟩
    have H5 : Hid (Below w.heap.size w w5) := H4.out.trans (hb5.mono H4.out.size)
    clear hb5 H4
    go_wp2_with fail
    refine (km w5).mono ?_
    rintro e w6 ⟨rfl, hb6⟩
    have H6 : Hid (Below w.heap.size w w6) := H5.out.trans (hb6.mono H5.out.size)
    clear hb6 H5
    go_wp2_with fail
    refine (valid_none w6).mono ?_
    rintro e w6' ⟨rfl, rfl⟩
    go_wp2_with fail
    refine (k2 w6).mono ?_
    rintro e w6' ⟨rfl, rfl⟩
    go_wp2
    go_ret
    exact ⟨rfl, H6.out.alloc H6.out.size _⟩
  by_cases c2 : n < -p
  · have hp : okP p = true := by unfold okP; simp; omega
    have hs : okS p n = false := by unfold okS okP; simp; omega
    rw [hp] at kv k1 k2
    rw [yearV_yes hp] at ky
    rw [monthV_yes hp] at km
    rw [(shift_no hs).1, (shift_no hs).2] at ks
    clear hp hs
    go_enter Try.func3, Try.ntmps3
    go_wp2_with fail
    refine (alive_any w).mono ?_
    rintro e w1 ⟨rfl, hb⟩
    have H1 := Lib.hid hb
    clear hb
    go_wp2_with fail
    refine (ko w1).mono ?_
    rintro e w2 ⟨rfl, hb2⟩
    have H2 : Hid (Below w.heap.size w w2) := H1.out.trans (hb2.mono H1.out.size)
    clear hb2 H1
    go_wp2_with fail
    refine (kv w2).mono ?_
    rintro e w2' ⟨rfl, rfl⟩
    go_wp2_with fail
    refine (ks w2).mono ?_
    rintro e w3 ⟨rfl, hb3⟩
    have H3 : Hid (Below w.heap.size w w3) := H2.out.trans (hb3.mono H2.out.size)
    clear hb3 H2
    go_wp2_with fail
    refine (k1 w3).mono ?_
    rintro e w3' ⟨rfl, rfl⟩
    have H4 : Hid (Below w.heap.size w (w3.alloc (.cells #[.int .i64 p] 3))) := H3.out.alloc H3.out.size _
    clear H3
    generalize w3.alloc (.cells #[.int .i64 p] 3) = w4 at *
    go_wp2_with fail
    refine (ky w4).mono ?_
    rintro e w5 ⟨rfl, hb5⟩
    have H5 : Hid (Below w.heap.size w w5) := H4.out.trans (hb5.mono H4.out.size)
    clear hb5 H4
    go_wp2_with fail
    refine (km w5).mono ?_
    rintro e w6 ⟨rfl, hb6⟩
    have H6 : Hid (Below w.heap.size w w6) := H5.out.trans (hb6.mono H5.out.size)
    clear hb6 H5
    go_wp2_with fail
    refine (valid_none w6).mono ?_
    rintro e w6' ⟨rfl, rfl⟩
    go_wp2_with fail
    refine (k2 w6).mono ?_
    rintro e w6' ⟨rfl, rfl⟩
    go_wp2
    go_ret
    exact ⟨rfl, H6.out.alloc H6.out.size _⟩
  by_cases c3 : 1199 - p < n
  · have hp : okP p = true := by unfold okP; simp; omega
    have hs : okS p n = false := by unfold okS okP; simp; omega
    rw [hp] at kv k1 k2
    rw [yearV_yes hp] at ky
    rw [monthV_yes hp] at km
    rw [(shift_no hs).1, (shift_no hs).2] at ks
    clear hp hs
    go_enter Try.func3, Try.ntmps3
    go_wp2_with fail
    refine (alive_any w).mono ?_
    rintro e w1 ⟨rfl, hb⟩
    have H1 := Lib.hid hb
    clear hb
    go_wp2_with fail
    refine (ko w1).mono ?_
    rintro e w2 ⟨rfl, hb2⟩
    have H2 : Hid (Below w.heap.size w w2) := H1.out.trans (hb2.mono H1.out.size)
    clear hb2 H1
    go_wp2_with fail
    refine (kv w2).mono ?_
    rintro e w2' ⟨rfl, rfl⟩
    go_wp2_with fail
    refine (ks w2).mono ?_
    rintro e w3 ⟨rfl, hb3⟩
    have H3 : Hid (Below w.heap.size w w3) := H2.out.trans (hb3.mono H2.out.size)
    clear hb3 H2
    go_wp2_with fail
    refine (k1 w3).mono ?_
    rintro e w3' ⟨rfl, rfl⟩
    have H4 : Hid (Below w.heap.size w (w3.alloc (.cells #[.int .i64 p] 3))) := H3.out.alloc H3.out.size _
    clear H3
    generalize w3.alloc (.cells #[.int .i64 p] 3) = w4 at *
    go_wp2_with fail
    refine (ky w4).mono ?_
    rintro e w5 ⟨rfl, hb5⟩
    have H5 : Hid (Below w.heap.size w w5) := H4.out.trans (hb5.mono H4.out.size)
    clear hb5 H4
    go_wp2_with fail
    refine (km w5).mono ?_
    rintro e w6 ⟨rfl, hb6⟩
    have H6 : Hid (Below w.heap.size w w6) := H5.out.trans (hb6.mono H5.out.size)
    clear hb6 H5
    go_wp2_with fail
    refine (valid_none w6).mono ?_
    rintro e w6' ⟨rfl, rfl⟩
    go_wp2_with fail
    refine (k2 w6).mono ?_
    rintro e w6' ⟨rfl, rfl⟩
    go_wp2
    go_ret
    exact ⟨rfl, H6.out.alloc H6.out.size _⟩
  · have hp : okP p = true := by unfold okP; simp; omega
    have hs : okS p n = true := by unfold okS okP; simp; omega
    rw [hp] at kv k1 k2
    rw [yearV_yes hp] at ky
    rw [monthV_yes hp] at km
    rw [(shift_yes hs).1, (shift_yes hs).2] at ks
    clear hp hs
    go_enter Try.func3, Try.ntmps3
    go_wp2_with fail
    refine (alive_any w).mono ?_
    rintro e w1 ⟨rfl, hb⟩
    have H1 := Lib.hid hb
    clear hb
    go_wp2_with fail
    refine (ko w1).mono ?_
    rintro e w2 ⟨rfl, hb2⟩
    have H2 : Hid (Below w.heap.size w w2) := H1.out.trans (hb2.mono H1.out.size)
    clear hb2 H1
    go_wp2_with fail
    refine (kv w2).mono ?_
    rintro e w2' ⟨rfl, rfl⟩
    go_wp2_with fail
    refine (ks w2).mono ?_
    rintro e w3 ⟨rfl, hb3⟩
    have H3 : Hid (Below w.heap.size w w3) := H2.out.trans (hb3.mono H2.out.size)
    clear hb3 H2
    go_wp2_with fail
    refine (k1 w3).mono ?_
    rintro e w3' ⟨rfl, rfl⟩
    have H4 : Hid (Below w.heap.size w (w3.alloc (.cells #[.int .i64 p] 3))) := H3.out.alloc H3.out.size _
    clear H3
    generalize w3.alloc (.cells #[.int .i64 p] 3) = w4 at *
    go_wp2_with fail
    refine (ky w4).mono ?_
    rintro e w5 ⟨rfl, hb5⟩
    have H5 : Hid (Below w.heap.size w w5) := H4.out.trans (hb5.mono H4.out.size)
    clear hb5 H4
    go_wp2_with fail
    refine (km w5).mono ?_
    rintro e w6 ⟨rfl, hb6⟩
    have H6 : Hid (Below w.heap.size w w6) := H5.out.trans (hb6.mono H5.out.size)
    clear hb6 H5
    go_wp2_with fail
    refine (valid_none w6).mono ?_
    rintro e w6' ⟨rfl, rfl⟩
    go_wp2_with fail
    refine (k2 w6).mono ?_
    rintro e w6' ⟨rfl, rfl⟩
    go_wp2
    go_ret
    exact ⟨rfl, H6.out.alloc H6.out.size _⟩

theorem termTells_walk (year month p n : Int) (w : World) (n1 : -9223372036854775808 ≤ n) (n2 : n ≤ 9223372036854775807) :
    Calls Try.prog 3 #[.int .i64 year, .int .i64 month, .int .i64 p, .int .i64 n] w fun e w' => e = .returned (.bool true) ∧ Below w.heap.size w w' := by
  by_cases c0 : year < 2000
  · exact tells_d0 _ _ _ _ _ c0 n1 n2
  by_cases c1 : 2099 < year
  · exact tells_d1 _ _ _ _ _ (by omega) c1 n1 n2
  by_cases c2 : month < 1
  · exact tells_d2 _ _ _ _ _ (by omega) (by omega) c2 n1 n2
  by_cases c3 : 12 < month
  · exact tells_d3 _ _ _ _ _ (by omega) (by omega) (by omega) c3 n1 n2
  · exact tells_d4 _ _ _ _ _ (by omega) (by omega) (by omega) (by omega) n1 n2
end Go.Proofs.Ytehpecjnldbaiaa
