/-
  Contracts of term.Valid, Of, Year, Month, on, Shift, and of the reference's Valid.
-/
import Derived.Test.YtakjiehncoankaaDoorBase
namespace Go.Proofs.YtakjiehncoankaaDoor
open Go.RowKit

def okP (p : Int) : Bool := decide (0 ≤ p ∧ p ≤ 1199)
def okAll (l : List Int) : Bool := l.all okP

theorem okAll_step {l : List Int} {k : Nat} (hk : k < l.length) (h : okAll (l.take k) = true) (h1 : okP (l[k]?.getD 0) = true) : okAll (l.take (k + 1)) = true := by
  unfold okAll at h ⊢
  rw [List.take_succ_eq_append_getElem hk, List.all_append, h]
  simp [hk] at h1
  simp [h1]
theorem okAll_no {l : List Int} {k : Nat} (hk : k < l.length) (h1 : okP (l[k]?.getD 0) = false) : okAll l = false := by
  rw [okAll, List.all_eq_false]
  exact ⟨l[k], List.getElem_mem hk, by simpa [hk] using h1⟩

set_option maxHeartbeats 400000 in
theorem valid_any (l : List Int) (A : Option Addr) (n c B : Nat) (w : World) (h : Rd w B 1 A n (ints .i64 l)) (hn : n ≤ maxLen) :
    Calls Tryd.prog 47 #[.slice A n c] w fun e w' => e = .returned (.bool (okAll l)) ∧ w = w' := by
  unfold maxLen at hn
  have hl := Lib.hid h.ints_len
  go_enter Tryd.func47, Tryd.ntmps47
  go_wp2
  go_loop [7, 4] (fun i _ => ∃ k : Nat, k ≤ n ∧ i = .int .i64 k ∧ Hid (okAll (l.take k) = true)) (fun i _ => n - (intOf i).toNat)
  case atStart => exact ⟨0, Nat.zero_le _, rfl, rfl⟩
  case round =>
    obtain ⟨k, hk, rfl, hf⟩ := hrel
    by_cases hlt : k < n
    · obtain ⟨ad, rfl, hb, hc⟩ := h.int hlt
      by_cases h1 : l[k]?.getD 0 < 0
      · go_wp2
        go_ret
        exact ⟨ret_bool (okAll_no (k := k) (by have := hl.out; omega) (by unfold okP; simp; omega)).symm, rfl⟩
      by_cases h2 : 1199 < l[k]?.getD 0
      · go_wp2
        go_ret
        exact ⟨ret_bool (okAll_no (k := k) (by have := hl.out; omega) (by unfold okP; simp; omega)).symm, rfl⟩
      · go_wp2
        exact ⟨⟨k + 1, by omega, by go_num, okAll_step (by have := hl.out; omega) hf.out (by unfold okP; simp; omega)⟩, by simp [intOf]; omega⟩
    · go_wp2
      go_ret
      refine ⟨ret_bool ?_, rfl⟩
      have := hf.out
      rw [List.take_of_length_le (by have := hl.out; omega)] at this
      exact this.symm

theorem rd_oneI (w : World) (a : Int) {T : TypeId} : Rd (w.alloc (.cells #[.int .i64 a] T)) (w.heap.size + 1) 1 (some ⟨w.heap.size, 0, none⟩) 1 (ints .i64 [a]) := by
  refine ⟨rfl, fun _ => ⟨_, rfl, by simp, ?_⟩⟩
  intro j u hu
  match j, hu with
  | 0, hu => simp [ints] at hu; subst hu; simp [Addr.add, go_sem]
  | j + 1, hu => simp [ints] at hu
theorem okAll_one (p : Int) : okAll [p] = okP p := by simp [okAll]
theorem okAll_two (p q : Int) : okAll [p, q] = (okP p && okP q) := by simp [okAll]

/-- Valid of one month, in a block laid for the call. -/
theorem valid_one (p : Int) (w : World) {T : TypeId} : Calls Tryd.prog 47 #[.slice (some ⟨w.heap.size, 0, none⟩) 1 1] (w.alloc (.cells #[.int .i64 p] T)) fun e w' => e = .returned (.bool (okP p)) ∧ w.alloc (.cells #[.int .i64 p] T) = w' := by
  have := valid_any [p] _ 1 1 _ _ (rd_oneI w p (T := T)) (by unfold maxLen; omega)
  rwa [okAll_one] at this
theorem valid_two (p q : Int) (w : World) {T : TypeId} : Calls Tryd.prog 47 #[.slice (some ⟨w.heap.size, 0, none⟩) 2 2] (w.alloc (.cells #[.int .i64 p, .int .i64 q] T)) fun e w' => e = .returned (.bool (okP p && okP q)) ∧ w.alloc (.cells #[.int .i64 p, .int .i64 q] T) = w' := by
  have := valid_any [p, q] _ 2 2 _ _ (rd_two w p q (T := T)) (by unfold maxLen; omega)
  rwa [okAll_two] at this

theorem okP_t {p : Int} (h : okP p = true) : 0 ≤ p ∧ p ≤ 1199 := by unfold okP at h; simpa using h
theorem okP_f {p : Int} (h : okP p = false) : p < 0 ∨ 1199 < p := by unfold okP at h; simp at h; omega

def okD (y m : Int) : Bool := decide (2000 ≤ y ∧ y ≤ 2099 ∧ 1 ≤ m ∧ m ≤ 12)
def ofV (y m : Int) : Int := if okD y m = true then 12 * (y - 2000) + m - 1 else 0
def ofE (y m : Int) : Int := if okD y m = true then 0 else 1
def yearV (p : Int) : Int := if okP p = true then 2000 + p / 12 else 0
def monthV (p : Int) : Int := if okP p = true then p % 12 + 1 else 0
def okS (p n : Int) : Bool := okP p && decide (-p ≤ n ∧ n ≤ 1199 - p)
def shiftV (p n : Int) : Int := if okS p n = true then p + n else 0
def shiftE (p n : Int) : Int := if okS p n = true then 0 else 1

set_option maxHeartbeats 400000 in
theorem of_any (y m : Int) (w : World) :
    Calls Tryd.prog 58 #[.int .i64 y, .int .i64 m] w fun e w' => e = .returned (.tuple #[.int .i64 (ofV y m), .int .i64 (ofE y m)]) ∧ Below w.heap.size w w' := by
  by_cases h : okD y m = true
  · have hb : 2000 ≤ y ∧ y ≤ 2099 ∧ 1 ≤ m ∧ m ≤ 12 := by unfold okD at h; simpa using h
    have hv : okP (12 * (y - 2000) + m - 1) = true := by unfold okP; simp; omega
    have e1 : ofV y m = 12 * (y - 2000) + m - 1 := by unfold ofV; rw [if_pos h]
    have e2 : ofE y m = 0 := by unfold ofE; rw [if_pos h]
    rw [e1, e2]
    clear e1 e2 h
    have HV := Lib.hid hv
    clear hv
    go_enter Tryd.func58, Tryd.ntmps58
    go_wp2_with fail
    refine (valid_one _ w).mono ?_
    rintro e w1 ⟨rfl, rfl⟩
    rw [HV.out]
    go_wp2
    go_ret2
    exact ⟨rfl, (Below.refl _ _).alloc (Nat.le_refl _) _⟩
  · have e1 : ofV y m = 0 := by unfold ofV; rw [if_neg h]
    have e2 : ofE y m = 1 := by unfold ofE; rw [if_neg h]
    have hb : ¬ (2000 ≤ y ∧ y ≤ 2099 ∧ 1 ≤ m ∧ m ≤ 12) := by unfold okD at h; simpa using h
    rw [e1, e2]
    clear e1 e2 h
    by_cases m1 : m < 1
    · go_enter Tryd.func58, Tryd.ntmps58
      go_wp2
      go_ret2
      exact ⟨rfl, Below.refl _ _⟩
    by_cases m2 : 12 < m
    · go_enter Tryd.func58, Tryd.ntmps58
      go_wp2
      go_ret2
      exact ⟨rfl, Below.refl _ _⟩
    by_cases m3 : y < 2000
    · go_enter Tryd.func58, Tryd.ntmps58
      go_wp2
      go_ret2
      exact ⟨rfl, Below.refl _ _⟩
    · have m4 : 2099 < y := by omega
      go_enter Tryd.func58, Tryd.ntmps58
      go_wp2
      go_ret2
      exact ⟨rfl, Below.refl _ _⟩

set_option maxHeartbeats 400000 in
theorem year_any (p : Int) (w : World) :
    Calls Tryd.prog 49 #[.int .i64 p] w fun e w' => e = .returned (.int .i64 (yearV p)) ∧ Below w.heap.size w w' := by
  cases h : okP p
  · have e1 : yearV p = 0 := by unfold yearV; simp [h]
    rw [e1]
    have HV := Lib.hid h
    clear h e1
    go_enter Tryd.func49, Tryd.ntmps49
    go_wp2_with fail
    refine (valid_one p w).mono ?_
    rintro e w1 ⟨rfl, rfl⟩
    rw [HV.out]
    go_wp2
    go_ret
    exact ⟨rfl, (Below.refl _ _).alloc (Nat.le_refl _) _⟩
  · have e1 : yearV p = 2000 + p / 12 := by unfold yearV; simp [h]
    have hb := okP_t h
    rw [e1]
    have HV := Lib.hid h
    clear h e1
    go_enter Tryd.func49, Tryd.ntmps49
    go_wp2_with fail
    refine (valid_one p w).mono ?_
    rintro e w1 ⟨rfl, rfl⟩
    rw [HV.out]
    go_wp2
    go_ret
    exact ⟨rfl, (Below.refl _ _).alloc (Nat.le_refl _) _⟩

set_option maxHeartbeats 400000 in
theorem month_any (p : Int) (w : World) :
    Calls Tryd.prog 50 #[.int .i64 p] w fun e w' => e = .returned (.int .i64 (monthV p)) ∧ Below w.heap.size w w' := by
  cases h : okP p
  · have e1 : monthV p = 0 := by unfold monthV; simp [h]
    rw [e1]
    have HV := Lib.hid h
    clear h e1
    go_enter Tryd.func50, Tryd.ntmps50
    go_wp2_with fail
    refine (valid_one p w).mono ?_
    rintro e w1 ⟨rfl, rfl⟩
    rw [HV.out]
    go_wp2
    go_ret
    exact ⟨rfl, (Below.refl _ _).alloc (Nat.le_refl _) _⟩
  · have e1 : monthV p = p % 12 + 1 := by unfold monthV; simp [h]
    have hb := okP_t h
    rw [e1]
    have HV := Lib.hid h
    clear h e1
    go_enter Tryd.func50, Tryd.ntmps50
    go_wp2_with fail
    refine (valid_one p w).mono ?_
    rintro e w1 ⟨rfl, rfl⟩
    rw [HV.out]
    go_wp2
    go_ret
    exact ⟨rfl, (Below.refl _ _).alloc (Nat.le_refl _) _⟩

theorem refValid_any (p : Int) (w : World) :
    Calls Tryd.prog 33 #[.int .i64 p] w fun e w' => e = .returned (.bool (okP p)) ∧ w = w' := by
  by_cases h1 : p < 0
  · have e : okP p = false := by unfold okP; simp; omega
    rw [e]
    go_enter Tryd.func33, Tryd.ntmps33
    go_wp2
    go_ret
    exact ⟨rfl, rfl⟩
  · have e : okP p = decide (p ≤ 1199) := by unfold okP; simp; omega
    rw [e]
    go_enter Tryd.func33, Tryd.ntmps33
    go_wp2
    go_ret
    exact ⟨rfl, rfl⟩
end Go.Proofs.YtakjiehncoankaaDoor
