/-
  Several texts, one behind the other: what each holds stands ahead of it.
-/
import Derived.Test.YtakjiehncoankaaDoorBase
import Derived.WalkKit
import Derived.WalkSpells
import Derived.WalkLawsBesides
import Derived.Test.YtakjiehncoankaaDoorVocab

/-
  Contracts of the small functions of package money: size, withSign, roundsUp, signWord.
-/
namespace Go.Proofs.YtakjiehncoankaaDoor
open Go.RowKit

def absI (a : Int) : Int := if a < 0 then -a else a
def signed (u a : Int) : Int := if a < 0 then -u else u
def signW (x : Int) : Int := if x < 0 then 18446744073709551615 else 0
def rUp (q r d : Int) : Bool := decide (d < 2 * r ∨ 2 * r = d ∧ q % 2 = 1)



theorem signW_eq (x : Int) (h1 : -9223372036854775808 ≤ x) (h2 : x ≤ 9223372036854775807) : IntKind.u64.wrap (x / 9223372036854775808) = signW x := by
  unfold signW; rw [IntKind.wrap_u64]; split <;> omega


end Go.Proofs.YtakjiehncoankaaDoor

/-
  Contract of money.Fits.
-/
namespace Go.Proofs.YtakjiehncoankaaDoor
open Go.RowKit

def fits1 (x : Int) : Bool := decide (-1000000000000000 ≤ x ∧ x ≤ 1000000000000000)
def fitsAll (l : List Int) : Bool := l.all fits1

theorem fitsAll_step {l : List Int} {k : Nat} (hk : k < l.length) (h : fitsAll (l.take k) = true) (h1 : fits1 (l[k]?.getD 0) = true) : fitsAll (l.take (k + 1)) = true := by
  unfold fitsAll at h ⊢
  rw [List.take_succ_eq_append_getElem hk, List.all_append, h]
  simp [hk] at h1
  simp [h1]
theorem fitsAll_no {l : List Int} {k : Nat} (hk : k < l.length) (h1 : fits1 (l[k]?.getD 0) = false) : fitsAll l = false := by
  rw [fitsAll, List.all_eq_false]
  exact ⟨l[k], List.getElem_mem hk, by simpa [hk] using h1⟩

set_option maxHeartbeats 400000 in
theorem fits_any (l : List Int) (A : Option Addr) (n c B : Nat) (w : World) (h : Rd w B 1 A n (ints .i64 l)) (hn : n ≤ maxLen) :
    Calls Tryd.prog 38 #[.slice A n c] w fun e w' => e = .returned (.bool (fitsAll l)) ∧ w = w' := by
  unfold maxLen at hn
  have hl := Lib.hid h.ints_len
  go_enter Tryd.func38, Tryd.ntmps38
  go_wp2
  go_loop [7, 4] (fun i _ => ∃ k : Nat, k ≤ n ∧ i = .int .i64 k ∧ Hid (fitsAll (l.take k) = true)) (fun i _ => n - (intOf i).toNat)
  case atStart => exact ⟨0, Nat.zero_le _, rfl, rfl⟩
  case round =>
    obtain ⟨k, hk, rfl, hf⟩ := hrel
    by_cases hlt : k < n
    · obtain ⟨ad, rfl, hb, hc⟩ := h.int hlt
      by_cases h1 : l[k]?.getD 0 < -1000000000000000
      · go_wp2
        go_ret
        exact ⟨ret_bool (fitsAll_no (k := k) (by have := hl.out; omega) (by unfold fits1; simp; omega)).symm, rfl⟩
      by_cases h2 : 1000000000000000 < l[k]?.getD 0
      · go_wp2
        go_ret
        exact ⟨ret_bool (fitsAll_no (k := k) (by have := hl.out; omega) (by unfold fits1; simp; omega)).symm, rfl⟩
      · go_wp2
        exact ⟨⟨k + 1, by omega, by go_num, fitsAll_step (by have := hl.out; omega) hf.out (by unfold fits1; simp; omega)⟩, by simp [intOf]; omega⟩
    · go_wp2
      go_ret
      refine ⟨ret_bool ?_, rfl⟩
      have := hf.out
      rw [List.take_of_length_le (by have := hl.out; omega)] at this
      exact this.symm
end Go.Proofs.YtakjiehncoankaaDoor
