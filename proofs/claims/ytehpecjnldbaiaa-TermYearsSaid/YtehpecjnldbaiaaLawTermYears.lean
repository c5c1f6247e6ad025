/-
  The walk of the statement TermYears.
-/
-- HOLE: exact termYears_walk a0 w
import Derived.Test.YtehpecjnldbaiaaLawTermSteps
import Derived.Test.YtehpecjnldbaiaaTermTextMath
namespace Go.Proofs.Ytehpecjnldbaiaa
open Go.RowKit

theorem of_of {y m : Int} (h : 2000 ≤ y ∧ y ≤ 2099 ∧ 1 ≤ m ∧ m ≤ 12) : ofV y m = 12 * (y - 2000) + m - 1 ∧ ofE y m = 0 := by
  have : okD y m = true := by unfold okD; simpa using h
  unfold ofV ofE; simp [this]
theorem of_not {y m : Int} (h : m < 1 ∨ 12 < m) : ofV y m = 0 ∧ ofE y m = 1 := by
  have : okD y m = false := by unfold okD; simp; omega
  unfold ofV ofE; simp [this]
theorem yearV_in {p y m : Int} (h : p = 12 * (y - 2000) + m - 1) (h1 : 2000 ≤ y) (h2 : y ≤ 2099) (h3 : 1 ≤ m) (h4 : m ≤ 12) : okP p = true ∧ yearV p = y ∧ monthV p = m := by
  have : okP p = true := by unfold okP; simp; omega
  unfold yearV monthV; simp [this]; omega

set_option maxRecDepth 100000 in
set_option maxHeartbeats 4000000 in
theorem termYears_walk (year : Int) (w : World) :
    Calls Try.prog 7 #[.int .i64 year] w fun e w' => e = .returned (.bool true) ∧ Below w.heap.size w w' := by
  by_cases c0 : year < 2000
  · go_enter Try.func7, Try.ntmps7
    go_wp2_with fail
    refine (alive_any w).mono ?_
    rintro e w1 ⟨rfl, hb⟩
    go_wp2
    go_ret
    exact ⟨rfl, hb⟩
  by_cases c1 : 2099 < year
  · go_enter Try.func7, Try.ntmps7
    go_wp2_with fail
    refine (alive_any w).mono ?_
    rintro e w1 ⟨rfl, hb⟩
    go_wp2
    go_ret
    exact ⟨rfl, hb⟩
  have kz := fun w => of_any year 0 w
  have kt := fun w => of_any year 13 w
  rw [(of_not (y := year) (m := 0) (by omega)).1, (of_not (y := year) (m := 0) (by omega)).2] at kz
  rw [(of_not (y := year) (m := 13) (by omega)).1, (of_not (y := year) (m := 13) (by omega)).2] at kt
  go_enter Try.func7, Try.ntmps7
  go_wp2_with fail
  refine (alive_any w).mono ?_
  rintro e w1 ⟨rfl, hb1⟩
  go_wp2_with fail
  go_loopw [3] (fun mv wr => ∃ k : Nat, k ≤ 12 ∧ mv = .int .i64 ((k : Int) + 1) ∧ Below w.heap.size w wr) (fun mv _ => 13 - (intOf mv).toNat)
  case atStart => exact ⟨0, by omega, rfl, hb1⟩
  case round =>
    obtain ⟨k, hk, rfl, hbel⟩ := hrel
    have Hwr := Lib.hid hbel
    clear hbel hb1
    by_cases hlt : k < 12
    · obtain ⟨p, hp⟩ : ∃ p, 12 * (year - 2000) + ((k : Int) + 1) - 1 = p := ⟨_, rfl⟩
      have hpb : 0 ≤ p ∧ p ≤ 1199 := by omega
      obtain ⟨q1, q2, q3⟩ := yearV_in hp.symm (by omega) (by omega) (by omega) (by omega)
      have hz := textS_size q1
      have ko := fun w => of_any year ((k : Int) + 1) w
      rw [(of_of (y := year) (m := (k : Int) + 1) (by omega)).1, (of_of (y := year) (m := (k : Int) + 1) (by omega)).2, hp] at ko
      have ky := fun w => year_any p w
      have km := fun w => month_any p w
      have kx := fun w => text_any p w
      have ks := fun w => shift_any p 1 w (by omega) (by omega)
      rw [q2] at ky
      rw [q3] at km
      rw [textV_eq] at kx
      have HP := Lib.hid hp
      have HQ := Lib.hid q1
      clear hp q1 q2 q3
      by_cases c11 : k < 11
      · have hs : okS p 1 = true := by have := HP.out; unfold okS okP; simp; omega
        rw [(shift_yes hs).1, (shift_yes hs).2] at ks
        obtain ⟨q1, q2, q3⟩ := yearV_in (p := p + 1) (y := year) (m := (k : Int) + 2) (by have := HP.out; omega) (by omega) (by omega) (by omega) (by omega)
        have hr := rise (p := p) (by omega) (by have := HP.out; omega)
        have hr1 := hr.1
        have hr2 := hr.2
        have kx2 := fun w => text_any (p + 1) w
        have ky2 := fun w => year_any (p + 1) w
        have km2 := fun w => month_any (p + 1) w
        rw [textV_eq] at kx2
        rw [q2] at ky2
        rw [q3] at km2
        clear hs q1 q2 q3 hr
        go_wp2_with fail
        refine (ko wr).mono ?_
        rintro e w2 ⟨rfl, hb⟩
        have Hw2 : Hid (Below w.heap.size w w2) := Hwr.out.trans (hb.mono Hwr.out.size)
        clear hb Hwr
        go_wp2_with fail
        refine (ky w2).mono ?_
        rintro e w3 ⟨rfl, hb⟩
        have Hw3 : Hid (Below w.heap.size w w3) := Hw2.out.trans (hb.mono Hw2.out.size)
        clear hb Hw2
        go_wp2_with fail
        refine (km w3).mono ?_
        rintro e w4 ⟨rfl, hb⟩
        have Hw4 : Hid (Below w.heap.size w w4) := Hw3.out.trans (hb.mono Hw3.out.size)
        clear hb Hw3
        go_wp2_with fail
        refine (kx w4).mono ?_
        rintro e w5 ⟨rfl, hb⟩
        have Hw5 : Hid (Below w.heap.size w w5) := Hw4.out.trans (hb.mono Hw4.out.size)
        clear hb Hw4
        go_wp2_with fail
        refine (ks w5).mono ?_
        rintro e w6 ⟨rfl, hb⟩
        have Hw6 : Hid (Below w.heap.size w w6) := Hw5.out.trans (hb.mono Hw5.out.size)
        clear hb Hw5
        go_wp2_with fail
        refine (kx2 w6).mono ?_
        rintro e w7 ⟨rfl, hb⟩
        have Hw7 : Hid (Below w.heap.size w w7) := Hw6.out.trans (hb.mono Hw6.out.size)
        clear hb Hw6
        go_wp2_with fail
        refine (kx w7).mono ?_
        rintro e w8 ⟨rfl, hb⟩
        have Hw8 : Hid (Below w.heap.size w w8) := Hw7.out.trans (hb.mono Hw7.out.size)
        clear hb Hw7
        go_wp2_with fail
        refine (ky2 w8).mono ?_
        rintro e w9 ⟨rfl, hb⟩
        have Hw9 : Hid (Below w.heap.size w w9) := Hw8.out.trans (hb.mono Hw8.out.size)
        clear hb Hw8
        go_wp2_with fail
        refine (km2 w9).mono ?_
        rintro e w10 ⟨rfl, hb⟩
        have Hw10 : Hid (Below w.heap.size w w10) := Hw9.out.trans (hb.mono Hw9.out.size)
        clear hb Hw9
        go_wp2
        exact ⟨⟨k + 1, by omega, by go_num, Hw10.out⟩, by simp [intOf]; omega⟩
      obtain rfl : k = 11 := by omega
      by_cases cy : year < 2099
      · have hs : okS p 1 = true := by have := HP.out; unfold okS okP; simp; omega
        rw [(shift_yes hs).1, (shift_yes hs).2] at ks
        obtain ⟨q1, q2, q3⟩ := yearV_in (p := p + 1) (y := year + 1) (m := 1) (by have := HP.out; omega) (by omega) (by omega) (by omega) (by omega)
        have hr := rise (p := p) (by omega) (by have := HP.out; omega)
        have hr1 := hr.1
        have hr2 := hr.2
        have kx2 := fun w => text_any (p + 1) w
        have km2 := fun w => month_any (p + 1) w
        rw [textV_eq] at kx2
        rw [q3] at km2
        clear hs q1 q2 q3 hr
        go_wp2_with fail
        refine (ko wr).mono ?_
        rintro e w2 ⟨rfl, hb⟩
        have Hw2 : Hid (Below w.heap.size w w2) := Hwr.out.trans (hb.mono Hwr.out.size)
        clear hb Hwr
        go_wp2_with fail
        refine (ky w2).mono ?_
        rintro e w3 ⟨rfl, hb⟩
        have Hw3 : Hid (Below w.heap.size w w3) := Hw2.out.trans (hb.mono Hw2.out.size)
        clear hb Hw2
        go_wp2_with fail
        refine (km w3).mono ?_
        rintro e w4 ⟨rfl, hb⟩
        have Hw4 : Hid (Below w.heap.size w w4) := Hw3.out.trans (hb.mono Hw3.out.size)
        clear hb Hw3
        go_wp2_with fail
        refine (kx w4).mono ?_
        rintro e w5 ⟨rfl, hb⟩
        have Hw5 : Hid (Below w.heap.size w w5) := Hw4.out.trans (hb.mono Hw4.out.size)
        clear hb Hw4
        go_wp2_with fail
        refine (ks w5).mono ?_
        rintro e w6 ⟨rfl, hb⟩
        have Hw6 : Hid (Below w.heap.size w w6) := Hw5.out.trans (hb.mono Hw5.out.size)
        clear hb Hw5
        go_wp2_with fail
        refine (kx2 w6).mono ?_
        rintro e w7 ⟨rfl, hb⟩
        have Hw7 : Hid (Below w.heap.size w w7) := Hw6.out.trans (hb.mono Hw6.out.size)
        clear hb Hw6
        go_wp2_with fail
        refine (kx w7).mono ?_
        rintro e w8 ⟨rfl, hb⟩
        have Hw8 : Hid (Below w.heap.size w w8) := Hw7.out.trans (hb.mono Hw7.out.size)
        clear hb Hw7
        go_wp2_with fail
        refine (km2 w8).mono ?_
        rintro e w9 ⟨rfl, hb⟩
        have Hw9 : Hid (Below w.heap.size w w9) := Hw8.out.trans (hb.mono Hw8.out.size)
        clear hb Hw8
        go_wp2
        exact ⟨⟨12, by omega, by first | rfl | go_num, Hw9.out⟩, by simp [intOf]⟩
      · obtain rfl : p = 1199 := by have := HP.out; omega
        have hs : okS 1199 1 = false := by decide
        rw [(shift_no hs).1, (shift_no hs).2] at ks
        clear hs
        go_wp2_with fail
        refine (ko wr).mono ?_
        rintro e w2 ⟨rfl, hb⟩
        have Hw2 : Hid (Below w.heap.size w w2) := Hwr.out.trans (hb.mono Hwr.out.size)
        clear hb Hwr
        go_wp2_with fail
        refine (ky w2).mono ?_
        rintro e w3 ⟨rfl, hb⟩
        have Hw3 : Hid (Below w.heap.size w w3) := Hw2.out.trans (hb.mono Hw2.out.size)
        clear hb Hw2
        go_wp2_with fail
        refine (km w3).mono ?_
        rintro e w4 ⟨rfl, hb⟩
        have Hw4 : Hid (Below w.heap.size w w4) := Hw3.out.trans (hb.mono Hw3.out.size)
        clear hb Hw3
        go_wp2_with fail
        refine (kx w4).mono ?_
        rintro e w5 ⟨rfl, hb⟩
        have Hw5 : Hid (Below w.heap.size w w5) := Hw4.out.trans (hb.mono Hw4.out.size)
        clear hb Hw4
        go_wp2_with fail
        refine (ks w5).mono ?_
        rintro e w6 ⟨rfl, hb⟩
        have Hw6 : Hid (Below w.heap.size w w6) := Hw5.out.trans (hb.mono Hw5.out.size)
        clear hb Hw5
        go_wp2
        exact ⟨⟨12, by omega, by first | rfl | go_num, Hw6.out⟩, by simp [intOf]⟩
    · obtain rfl : k = 12 := by omega
      go_wp2_with fail
      refine (kz wr).mono ?_
      rintro e w2 ⟨rfl, hb⟩
      have Hw2 : Hid (Below w.heap.size w w2) := Hwr.out.trans (hb.mono Hwr.out.size)
      clear hb Hwr
      go_wp2_with fail
      refine (kt w2).mono ?_
      rintro e w3 ⟨rfl, hb⟩
      have Hw3 : Hid (Below w.heap.size w w3) := Hw2.out.trans (hb.mono Hw2.out.size)
      clear hb Hw2
      go_wp2
      go_ret
      exact ⟨rfl, Hw3.out⟩
end Go.Proofs.Ytehpecjnldbaiaa
