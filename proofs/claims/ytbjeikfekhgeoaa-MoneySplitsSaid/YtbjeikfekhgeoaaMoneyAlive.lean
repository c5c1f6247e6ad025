/-
  Contracts of money.Split where it may not split, and of the statements' own first call.
-/
import Derived.Test.YtbjeikfekhgeoaaMoneySplitW
namespace Go.Proofs.Ytbjeikfekhgeoaa
open Go.RowKit

/-- May an amount be split by weights? -/
def splitOk (a : Int) (l : List Int) : Bool := fits1 a && decide (l.length ≤ 20) && l.all wt1 && decide (0 < l.sum)

set_option maxRecDepth 100000 in
set_option maxHeartbeats 1000000 in
theorem split_bad (a : Int) (l : List Int) (A : Option Addr) (n c B : Nat) (w : World) (h : Rd w B 1 A n (ints .i64 l)) (hn : n ≤ maxLen) (hno : splitOk a l = false) :
    Calls Try.prog 17 #[.int .i64 a, .slice A n c] w fun e w' => e = .returned (.tuple #[.slice none 0 0, .int .i64 1]) ∧ Below w.heap.size w w' := by
  have hl := h.ints_len
  have HL := Lib.hid hl
  by_cases h20 : 20 < n
  · clear hl
    go_enter Try.func17, Try.ntmps17
    go_wp2_with fail
    refine (total_long A n c w hn h20).mono ?_
    rintro e w' ⟨rfl, rfl⟩
    go_wp2
    go_ret2
    exact ⟨rfl, Below.refl _ _⟩
  · cases ht : totPos l
    · have HT := Lib.hid ht
      clear ht hl hno
      go_enter Try.func17, Try.ntmps17
      go_wp2_with fail
      refine (total_any l A n c B w h (by omega)).mono ?_
      rintro e w' ⟨rfl, rfl⟩
      rw [HT.out]
      go_wp2
      go_ret2
      exact ⟨rfl, Below.refl _ _⟩
    · have hf : fits1 a = false := by
        rw [totPos, Bool.and_eq_true] at ht
        cases e : fits1 a
        · rfl
        · rw [splitOk, e, ht.1, ht.2] at hno
          simp at hno
          omega
      have HT := Lib.hid ht
      have HF := Lib.hid hf
      clear ht hl hno hf
      go_enter Try.func17, Try.ntmps17
      go_wp2_with fail
      refine (total_any l A n c B w h (by omega)).mono ?_
      rintro e w' ⟨rfl, rfl⟩
      rw [HT.out]
      go_wp2_with fail
      refine (fits_one a w _ _).mono ?_
      rintro e w' ⟨rfl, rfl⟩
      rw [HF.out]
      go_wp2
      go_ret2
      exact ⟨rfl, (Below.refl _ _).alloc (Nat.le_refl _) _⟩

theorem alive_split {S : Nat → Bool} (h : Taken (restOf 10 [1, 1, 1]) 3 1 S) : partOf 10 [1, 1, 1] S 0 = 4 ∧ partOf 10 [1, 1, 1] S 1 = 3 ∧ partOf 10 [1, 1, 1] S 2 = 3 := by
  obtain ⟨S0, b, h1, h2, rfl⟩ := h
  have h1 : S0 = fun _ => false := h1
  subst h1
  have h3 := h2.2.2 0 (by omega) rfl
  have hb : b = 0 := by
    have := h2.1
    match b, this with
    | 0, _ => rfl
    | 1, _ => revert h3; decide
    | 2, _ => revert h3; decide
  subst hb
  decide

theorem alive_left : (leftOf 10 [1, 1, 1] 3).toNat = 1 := by decide
theorem absI_ten : absI (-10) = 10 := by decide

set_option maxRecDepth 100000 in
set_option maxHeartbeats 1000000 in
theorem alive_any (w : World) : Calls Try.prog 10 #[] w fun e w' => e = .returned (.bool true) ∧ Below w.heap.size w w' := by
  have e1 : scaleVal 5 1 2 = 2 ∧ scaleErr 5 1 2 = 0 ∧ scaleVal 7 1 2 = 4 ∧ scaleErr 7 1 2 = 0 := by decide
  have E := Lib.hid e1
  clear e1
  go_enter Try.func10, Try.ntmps10
  go_wp2_with fail
  refine (scale_ok 5 1 2 w (by decide)).mono ?_
  rintro e w1 ⟨rfl, hb1⟩
  rw [E.out.1, E.out.2.1]
  go_wp2_with fail
  refine (scale_ok 7 1 2 w1 (by decide)).mono ?_
  rintro e w2 ⟨rfl, hb2⟩
  rw [E.out.2.2.1, E.out.2.2.2]
  go_wp2_with fail
  have hrd : ∀ T, Rd (w2.alloc (.cells #[.int .i64 1, .int .i64 1, .int .i64 1] T)) (w2.heap.size + 1) 1 (some ⟨w2.heap.size, 0, none⟩) 3 (ints .i64 [1, 1, 1]) := by
    intro T
    refine ⟨rfl, fun _ => ⟨_, rfl, by simp, ?_⟩⟩
    intro j u hu
    match j, hu with
    | 0, hu => simp [ints] at hu; subst hu; simp [Addr.add, go_sem]
    | 1, hu => simp [ints] at hu; subst hu; simp [Addr.add, go_sem]
    | 2, hu => simp [ints] at hu; subst hu; simp [Addr.add, go_sem]
    | j + 3, hu => simp [ints] at hu
  have HR := Lib.hid hrd
  clear hrd
  refine (split_ok (-10) [1, 1, 1] (some ⟨w2.heap.size, 0, none⟩) 3 3 (w2.heap.size + 1) _ (HR.out _) (by simp) (by decide) (by decide) (by omega) (by decide)).mono ?_
  rintro e w3 ⟨p, S, rfl, hp, hrow, hT, hb3⟩
  rw [absI_ten] at hrow hT
  rw [alive_left] at hT
  obtain ⟨q0, q1, q2⟩ := alive_split hT
  have c0 := hrow.cell (j := 0) (by omega)
  have c1 := hrow.cell (j := 1) (by omega)
  have c2 := hrow.cell (j := 2) (by omega)
  rw [q0] at c0; rw [q1] at c1; rw [q2] at c2
  have s0 : signed 4 (-10) = -4 := by decide
  have s1 : signed 3 (-10) = -3 := by decide
  rw [s0] at c0; rw [s1] at c1 c2
  clear q0 q1 q2 s0 s1
  go_wp2
  go_ret
  refine ⟨rfl, ?_⟩
  have hb12 := hb1.trans (hb2.mono hb1.size)
  exact hb12.trans (((Below.refl _ _).alloc hb12.size _).trans (hb3.mono (by have := hb12.size; simp; omega)))
end Go.Proofs.Ytbjeikfekhgeoaa
