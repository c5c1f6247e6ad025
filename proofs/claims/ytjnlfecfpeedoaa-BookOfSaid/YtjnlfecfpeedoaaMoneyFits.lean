/-
  Contract of money.Fits.
-/
import Derived.Test.YtjnlfecfpeedoaaVocab
import Derived.Test.YtjnlfecfpeedoaaMoneySmall
namespace Go.Proofs.Ytjnlfecfpeedoaa
open Go.RowKit

def fits1 (x : Int) : Bool := decide (-1000000000000000 ≤ x ∧ x ≤ 1000000000000000)
def fitsAll (l : List Int) : Bool := l.all fits1

theorem fitsAll_step {l : List Int} {k : Nat} (hk : k < l.length) (h : fitsAll (l.take k) = true) (h1 : fits1 (l[k]?.getD 0) = true) : fitsAll (l.take (k + 1)) = true := by
  unfold fitsAll at h ⊢
  rw [List.take_succ_eq_append_getElem hk, List.all_append, h]
  simp [hk] at h1
  simp [h1]
theorem fitsAll_no {l : List Int} {k : Nat} (hk : k < l.length) (h1 : fits1 (l[k]?.getD 0) = false) : fitsAll l = false := by
  rw [fitsAll, List.all_eq_false]
  exact ⟨l[k], List.getElem_mem hk, by simpa [hk] using h1⟩

set_option maxHeartbeats 400000 in
theorem fits_any (l : List Int) (A : Option Addr) (n c B : Nat) (w : World) (h : Rd w B 1 A n (ints .i64 l)) (hn : n ≤ maxLen) :
    Calls Try.prog 51 #[.slice A n c] w fun e w' => e = .returned (.bool (fitsAll l)) ∧ w = w' := by
  unfold maxLen at hn
  have hl := Lib.hid h.ints_len
  go_enter Try.func51, Try.ntmps51
  go_wp2
  go_loop [7, 4] (fun i _ => ∃ k : Nat, k ≤ n ∧ i = .int .i64 k ∧ Hid (fitsAll (l.take k) = true)) (fun i _ => n - (intOf i).toNat)
  case atStart => exact ⟨0, Nat.zero_le _, rfl, rfl⟩
  case round =>
    obtain ⟨k, hk, rfl, hf⟩ := hrel
    by_cases hlt : k < n
    · obtain ⟨ad, rfl, hb, hc⟩ := h.int hlt
      by_cases h1 : l[k]?.getD 0 < -1000000000000000
      · go_wp2
        go_ret
        exact ⟨ret_bool (fitsAll_no (k := k) (by have := hl.out; omega) (by unfold fits1; simp; omega)).symm, rfl⟩
      by_cases h2 : 1000000000000000 < l[k]?.getD 0
      · go_wp2
        go_ret
        exact ⟨ret_bool (fitsAll_no (k := k) (by have := hl.out; omega) (by unfold fits1; simp; omega)).symm, rfl⟩
      · go_wp2
        exact ⟨⟨k + 1, by omega, by go_num, fitsAll_step (by have := hl.out; omega) hf.out (by unfold fits1; simp; omega)⟩, by simp [intOf]; omega⟩
    · go_wp2
      go_ret
      refine ⟨ret_bool ?_, rfl⟩
      have := hf.out
      rw [List.take_of_length_le (by have := hl.out; omega)] at this
      exact this.symm
end Go.Proofs.Ytjnlfecfpeedoaa
