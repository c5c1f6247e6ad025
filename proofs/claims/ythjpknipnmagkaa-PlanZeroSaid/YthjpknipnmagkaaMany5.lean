/-
  Several texts, one behind the other: what each holds stands ahead of it.
-/
import Derived.Test.YthjpknipnmagkaaMoneySplitW
import Derived.Test.YthjpknipnmagkaaMany1

/-
  Contracts of money.Split where it may not split, and of the statements' own first call.
-/
namespace Go.Proofs.Ythjpknipnmagkaa.Mo
open Go.RowKit

/-- May an amount be split by weights? -/
def splitOk (a : Int) (l : List Int) : Bool := fits1 a && decide (l.length ≤ 20) && l.all wt1 && decide (0 < l.sum)

set_option maxRecDepth 100000 in
set_option maxHeartbeats 1000000 in
theorem split_bad (a : Int) (l : List Int) (A : Option Addr) (n c B : Nat) (w : World) (h : Rd w B 1 A n (ints .i64 l)) (hn : n ≤ maxLen) (hno : splitOk a l = false) :
    Calls Try.prog 88 #[.int .i64 a, .slice A n c] w fun e w' => e = .returned (.tuple #[.slice none 0 0, .int .i64 1]) ∧ Below w.heap.size w w' := by
  have hl := h.ints_len
  have HL := Lib.hid hl
  by_cases h20 : 20 < n
  · clear hl
    go_enter Try.func88, Try.ntmps88
    go_wp2_with fail
    refine (total_long A n c w hn h20).mono ?_
    rintro e w' ⟨rfl, rfl⟩
    go_wp2
    go_ret2
    exact ⟨rfl, Below.refl _ _⟩
  · cases ht : totPos l
    · have HT := Lib.hid ht
      clear ht hl hno
      go_enter Try.func88, Try.ntmps88
      go_wp2_with fail
      refine (total_anyMs l A n c B w h (by omega)).mono ?_
      rintro e w' ⟨rfl, rfl⟩
      rw [HT.out]
      go_wp2
      go_ret2
      exact ⟨rfl, Below.refl _ _⟩
    · have hf : fits1 a = false := by
        rw [totPos, Bool.and_eq_true] at ht
        cases e : fits1 a
        · rfl
        · rw [splitOk, e, ht.1, ht.2] at hno
          simp at hno
          omega
      have HT := Lib.hid ht
      have HF := Lib.hid hf
      clear ht hl hno hf
      go_enter Try.func88, Try.ntmps88
      go_wp2_with fail
      refine (total_anyMs l A n c B w h (by omega)).mono ?_
      rintro e w' ⟨rfl, rfl⟩
      rw [HT.out]
      go_wp2_with fail
      refine (fits_one a w _ _).mono ?_
      rintro e w' ⟨rfl, rfl⟩
      rw [HF.out]
      go_wp2
      go_ret2
      exact ⟨rfl, (Below.refl _ _).alloc (Nat.le_refl _) _⟩

theorem alive_split {S : Nat → Bool} (h : Taken (restOf 10 [1, 1, 1]) 3 1 S) : partOf 10 [1, 1, 1] S 0 = 4 ∧ partOf 10 [1, 1, 1] S 1 = 3 ∧ partOf 10 [1, 1, 1] S 2 = 3 := by
  obtain ⟨S0, b, h1, h2, rfl⟩ := h
  have h1 : S0 = fun _ => false := h1
  subst h1
  have h3 := h2.2.2 0 (by omega) rfl
  have hb : b = 0 := by
    have := h2.1
    match b, this with
    | 0, _ => rfl
    | 1, _ => revert h3; decide
    | 2, _ => revert h3; decide
  subst hb
  decide

theorem alive_left : (leftOf 10 [1, 1, 1] 3).toNat = 1 := by decide
theorem absI_ten : absI (-10) = 10 := by decide

end Go.Proofs.Ythjpknipnmagkaa.Mo

/-
  Contracts of term.Valid, and of the reference's Valid.
-/
namespace Go.Proofs.Ythjpknipnmagkaa
open Go.RowKit

def okP (p : Int) : Bool := decide (0 ≤ p ∧ p ≤ 1199)
def okAll (l : List Int) : Bool := l.all okP

theorem okAll_step {l : List Int} {k : Nat} (hk : k < l.length) (h : okAll (l.take k) = true) (h1 : okP (l[k]?.getD 0) = true) : okAll (l.take (k + 1)) = true := by
  unfold okAll at h ⊢
  rw [List.take_succ_eq_append_getElem hk, List.all_append, h]
  simp [hk] at h1
  simp [h1]
theorem okAll_no {l : List Int} {k : Nat} (hk : k < l.length) (h1 : okP (l[k]?.getD 0) = false) : okAll l = false := by
  rw [okAll, List.all_eq_false]
  exact ⟨l[k], List.getElem_mem hk, by simpa [hk] using h1⟩

set_option maxHeartbeats 400000 in
theorem valid_any (l : List Int) (A : Option Addr) (n c B : Nat) (w : World) (h : Rd w B 1 A n (ints .i64 l)) (hn : n ≤ maxLen) :
    Calls Try.prog 71 #[.slice A n c] w fun e w' => e = .returned (.bool (okAll l)) ∧ w = w' := by
  unfold maxLen at hn
  have hl := Lib.hid h.ints_len
  go_enter Try.func71, Try.ntmps71
  go_wp2
  go_loop [7, 4] (fun i _ => ∃ k : Nat, k ≤ n ∧ i = .int .i64 k ∧ Hid (okAll (l.take k) = true)) (fun i _ => n - (intOf i).toNat)
  case atStart => exact ⟨0, Nat.zero_le _, rfl, rfl⟩
  case round =>
    obtain ⟨k, hk, rfl, hf⟩ := hrel
    by_cases hlt : k < n
    · obtain ⟨ad, rfl, hb, hc⟩ := h.int hlt
      by_cases h1 : l[k]?.getD 0 < 0
      · go_wp2
        go_ret
        exact ⟨ret_bool (okAll_no (k := k) (by have := hl.out; omega) (by unfold okP; simp; omega)).symm, rfl⟩
      by_cases h2 : 1199 < l[k]?.getD 0
      · go_wp2
        go_ret
        exact ⟨ret_bool (okAll_no (k := k) (by have := hl.out; omega) (by unfold okP; simp; omega)).symm, rfl⟩
      · go_wp2
        exact ⟨⟨k + 1, by omega, by go_num, okAll_step (by have := hl.out; omega) hf.out (by unfold okP; simp; omega)⟩, by simp [intOf]; omega⟩
    · go_wp2
      go_ret
      refine ⟨ret_bool ?_, rfl⟩
      have := hf.out
      rw [List.take_of_length_le (by have := hl.out; omega)] at this
      exact this.symm

theorem rd_oneI (w : World) (a : Int) {T : TypeId} : Rd (w.alloc (.cells #[.int .i64 a] T)) (w.heap.size + 1) 1 (some ⟨w.heap.size, 0, none⟩) 1 (ints .i64 [a]) := by
  refine ⟨rfl, fun _ => ⟨_, rfl, by simp, ?_⟩⟩
  intro j u hu
  match j, hu with
  | 0, hu => simp [ints] at hu; subst hu; simp [Addr.add, go_sem]
  | j + 1, hu => simp [ints] at hu
theorem okAll_one (p : Int) : okAll [p] = okP p := by simp [okAll]
theorem okAll_two (p q : Int) : okAll [p, q] = (okP p && okP q) := by simp [okAll]

/-- Valid of one month, in a block laid for the call. -/
theorem valid_one (p : Int) (w : World) {T : TypeId} : Calls Try.prog 71 #[.slice (some ⟨w.heap.size, 0, none⟩) 1 1] (w.alloc (.cells #[.int .i64 p] T)) fun e w' => e = .returned (.bool (okP p)) ∧ w.alloc (.cells #[.int .i64 p] T) = w' := by
  have := valid_any [p] _ 1 1 _ _ (rd_oneI w p (T := T)) (by unfold maxLen; omega)
  rwa [okAll_one] at this
theorem valid_two (p q : Int) (w : World) {T : TypeId} : Calls Try.prog 71 #[.slice (some ⟨w.heap.size, 0, none⟩) 2 2] (w.alloc (.cells #[.int .i64 p, .int .i64 q] T)) fun e w' => e = .returned (.bool (okP p && okP q)) ∧ w.alloc (.cells #[.int .i64 p, .int .i64 q] T) = w' := by
  have := valid_any [p, q] _ 2 2 _ _ (rd_two w p q (T := T)) (by unfold maxLen; omega)
  rwa [okAll_two] at this

theorem okP_t {p : Int} (h : okP p = true) : 0 ≤ p ∧ p ≤ 1199 := by unfold okP at h; simpa using h
theorem okP_f {p : Int} (h : okP p = false) : p < 0 ∨ 1199 < p := by unfold okP at h; simp at h; omega

theorem refValid_any (p : Int) (w : World) :
    Calls Try.prog 28 #[.int .i64 p] w fun e w' => e = .returned (.bool (okP p)) ∧ w = w' := by
  by_cases h1 : p < 0
  · have e : okP p = false := by unfold okP; simp; omega
    rw [e]
    go_enter Try.func28, Try.ntmps28
    go_wp2
    go_ret
    exact ⟨rfl, rfl⟩
  · have e : okP p = decide (p ≤ 1199) := by unfold okP; simp; omega
    rw [e]
    go_enter Try.func28, Try.ntmps28
    go_wp2
    go_ret
    exact ⟨rfl, rfl⟩
end Go.Proofs.Ythjpknipnmagkaa
