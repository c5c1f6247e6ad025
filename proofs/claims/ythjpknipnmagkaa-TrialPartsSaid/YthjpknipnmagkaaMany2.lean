/-
  Several texts, one behind the other: what each holds stands ahead of it.
-/
import Derived.Test.YthjpknipnmagkaaOwn
import Derived.Test.YthjpknipnmagkaaMany1
import Derived.WalkKit
import Derived.WalkSpells
import Derived.WalkLawsBesides

/-
  Lists of lines, and the statements' helper over them: SameLines.
-/
namespace Go.Proofs.Ythjpknipnmagkaa
open Go.RowKit

/-- An element. -/
structure Lin where
  acct : Int
  amt : Int
  part : Int
deriving DecidableEq
def Lin.cells (a : Lin) : List Value := [.int .i64 a.acct, .int .i64 a.amt, .int .i64 a.part]
def Lin.val (a : Lin) : Value := .agg #[.int .i64 a.acct, .int .i64 a.amt, .int .i64 a.part]
def lins (l : List Lin) : List Value := l.flatMap Lin.cells
theorem lins_len : ∀ l : List Lin, (lins l).length = l.length * 3
  | [] => rfl
  | a :: l => by have := lins_len l; unfold lins at this ⊢; simp [Lin.cells, this]; omega
theorem lins_append (l m : List Lin) : lins (l ++ m) = lins l ++ lins m := by simp [lins]
theorem lins_at : ∀ (l : List Lin) (k : Nat) (a : Lin), l[k]? = some a → (lins l)[k * 3]? = some (.int .i64 a.acct) ∧ (lins l)[k * 3 + 1]? = some (.int .i64 a.amt) ∧ (lins l)[k * 3 + 2]? = some (.int .i64 a.part)
  | [], k, a, h => by simp at h
  | b :: l, 0, a, h => by
    simp at h; subst h
    exact ⟨rfl, rfl, rfl⟩
  | b :: l, k + 1, a, h => by
    have := lins_at l k a (by simpa using h)
    unfold lins at this ⊢
    simp only [List.flatMap_cons, Lin.cells]
    rw [show (k + 1) * 3 = k * 3 + 3 by omega]
    simpa [List.getElem?_append_right] using this
theorem Rd.lins_len {w : World} {B n : Nat} {A : Option Addr} {l : List Lin} (h : Rd w B 3 A n (lins l)) : l.length = n := by
  have := h.1; rw [Go.Proofs.Ythjpknipnmagkaa.lins_len] at this; omega
theorem Rd.lin {w : World} {B n i : Nat} {A : Option Addr} {l : List Lin} (h : Rd w B 3 A n (lins l)) (hi : i < n) :
    ∃ ad a, A = some ad ∧ ad.block < B ∧ l[i]? = some a ∧ w.cell? (ad.add (i * 3)) = some (.int .i64 a.acct) ∧ w.cell? (ad.add (i * 3 + 1)) = some (.int .i64 a.amt) ∧ w.cell? (ad.add (i * 3 + 2)) = some (.int .i64 a.part) := by
  obtain ⟨ad, e, hb, hc⟩ := h.2 (by omega)
  have hl := h.lins_len
  have hg : l[i]? = some l[i] := List.getElem?_eq_getElem (by omega)
  obtain ⟨h1, h2, h3⟩ := lins_at l i _ hg
  exact ⟨ad, _, e, hb, hg, hc _ _ h1, hc _ _ h2, hc _ _ h3⟩

theorem infoLin : (Try.prog.info? 40).map (fun i => (i.zero, i.size, i.bytes)) = some (some (.agg #[.int .i64 0, .int .i64 0, .int .i64 0]), 3, 24) := by kernel_rfl
theorem lin_step {l m : List Lin} {k : Nat} (hk : k < l.length ∧ k < m.length) (h1 : l.take k = m.take k) (h2 : l[k]? = m[k]?) : l.take (k + 1) = m.take (k + 1) := by
  rw [List.take_succ_eq_append_getElem hk.1, List.take_succ_eq_append_getElem hk.2, h1]
  rw [List.getElem?_eq_getElem hk.1, List.getElem?_eq_getElem hk.2] at h2
  injection h2 with h2
  rw [h2]

end Go.Proofs.Ythjpknipnmagkaa

/-
  Contracts of term.Valid, and of the reference's Valid.
-/
namespace Go.Proofs.Ythjpknipnmagkaa
open Go.RowKit

def okP (p : Int) : Bool := decide (0 ≤ p ∧ p ≤ 1199)
def okAll (l : List Int) : Bool := l.all okP

theorem okAll_step {l : List Int} {k : Nat} (hk : k < l.length) (h : okAll (l.take k) = true) (h1 : okP (l[k]?.getD 0) = true) : okAll (l.take (k + 1)) = true := by
  unfold okAll at h ⊢
  rw [List.take_succ_eq_append_getElem hk, List.all_append, h]
  simp [hk] at h1
  simp [h1]
theorem okAll_no {l : List Int} {k : Nat} (hk : k < l.length) (h1 : okP (l[k]?.getD 0) = false) : okAll l = false := by
  rw [okAll, List.all_eq_false]
  exact ⟨l[k], List.getElem_mem hk, by simpa [hk] using h1⟩

set_option maxHeartbeats 400000 in
theorem valid_any (l : List Int) (A : Option Addr) (n c B : Nat) (w : World) (h : Rd w B 1 A n (ints .i64 l)) (hn : n ≤ maxLen) :
    Calls Try.prog 71 #[.slice A n c] w fun e w' => e = .returned (.bool (okAll l)) ∧ w = w' := by
  unfold maxLen at hn
  have hl := Lib.hid h.ints_len
  go_enter Try.func71, Try.ntmps71
  go_wp2
  go_loop [7, 4] (fun i _ => ∃ k : Nat, k ≤ n ∧ i = .int .i64 k ∧ Hid (okAll (l.take k) = true)) (fun i _ => n - (intOf i).toNat)
  case atStart => exact ⟨0, Nat.zero_le _, rfl, rfl⟩
  case round =>
    obtain ⟨k, hk, rfl, hf⟩ := hrel
    by_cases hlt : k < n
    · obtain ⟨ad, rfl, hb, hc⟩ := h.int hlt
      by_cases h1 : l[k]?.getD 0 < 0
      · go_wp2
        go_ret
        exact ⟨ret_bool (okAll_no (k := k) (by have := hl.out; omega) (by unfold okP; simp; omega)).symm, rfl⟩
      by_cases h2 : 1199 < l[k]?.getD 0
      · go_wp2
        go_ret
        exact ⟨ret_bool (okAll_no (k := k) (by have := hl.out; omega) (by unfold okP; simp; omega)).symm, rfl⟩
      · go_wp2
        exact ⟨⟨k + 1, by omega, by go_num, okAll_step (by have := hl.out; omega) hf.out (by unfold okP; simp; omega)⟩, by simp [intOf]; omega⟩
    · go_wp2
      go_ret
      refine ⟨ret_bool ?_, rfl⟩
      have := hf.out
      rw [List.take_of_length_le (by have := hl.out; omega)] at this
      exact this.symm

theorem rd_oneI (w : World) (a : Int) {T : TypeId} : Rd (w.alloc (.cells #[.int .i64 a] T)) (w.heap.size + 1) 1 (some ⟨w.heap.size, 0, none⟩) 1 (ints .i64 [a]) := by
  refine ⟨rfl, fun _ => ⟨_, rfl, by simp, ?_⟩⟩
  intro j u hu
  match j, hu with
  | 0, hu => simp [ints] at hu; subst hu; simp [Addr.add, go_sem]
  | j + 1, hu => simp [ints] at hu
theorem okAll_one (p : Int) : okAll [p] = okP p := by simp [okAll]
theorem okAll_two (p q : Int) : okAll [p, q] = (okP p && okP q) := by simp [okAll]

/-- Valid of one month, in a block laid for the call. -/
theorem valid_one (p : Int) (w : World) {T : TypeId} : Calls Try.prog 71 #[.slice (some ⟨w.heap.size, 0, none⟩) 1 1] (w.alloc (.cells #[.int .i64 p] T)) fun e w' => e = .returned (.bool (okP p)) ∧ w.alloc (.cells #[.int .i64 p] T) = w' := by
  have := valid_any [p] _ 1 1 _ _ (rd_oneI w p (T := T)) (by unfold maxLen; omega)
  rwa [okAll_one] at this
theorem valid_two (p q : Int) (w : World) {T : TypeId} : Calls Try.prog 71 #[.slice (some ⟨w.heap.size, 0, none⟩) 2 2] (w.alloc (.cells #[.int .i64 p, .int .i64 q] T)) fun e w' => e = .returned (.bool (okP p && okP q)) ∧ w.alloc (.cells #[.int .i64 p, .int .i64 q] T) = w' := by
  have := valid_any [p, q] _ 2 2 _ _ (rd_two w p q (T := T)) (by unfold maxLen; omega)
  rwa [okAll_two] at this

theorem okP_t {p : Int} (h : okP p = true) : 0 ≤ p ∧ p ≤ 1199 := by unfold okP at h; simpa using h
theorem okP_f {p : Int} (h : okP p = false) : p < 0 ∨ 1199 < p := by unfold okP at h; simp at h; omega

theorem refValid_any (p : Int) (w : World) :
    Calls Try.prog 28 #[.int .i64 p] w fun e w' => e = .returned (.bool (okP p)) ∧ w = w' := by
  by_cases h1 : p < 0
  · have e : okP p = false := by unfold okP; simp; omega
    rw [e]
    go_enter Try.func28, Try.ntmps28
    go_wp2
    go_ret
    exact ⟨rfl, rfl⟩
  · have e : okP p = decide (p ≤ 1199) := by unfold okP; simp; omega
    rw [e]
    go_enter Try.func28, Try.ntmps28
    go_wp2
    go_ret
    exact ⟨rfl, rfl⟩
end Go.Proofs.Ythjpknipnmagkaa

/-
  Contracts of the small functions of package money: size, withSign, roundsUp, signWord.
-/
namespace Go.Proofs.Ythjpknipnmagkaa
open Go.RowKit

def absI (a : Int) : Int := if a < 0 then -a else a
def signed (u a : Int) : Int := if a < 0 then -u else u
def signW (x : Int) : Int := if x < 0 then 18446744073709551615 else 0
def rUp (q r d : Int) : Bool := decide (d < 2 * r ∨ 2 * r = d ∧ q % 2 = 1)

set_option maxHeartbeats 400000 in
theorem size_any (a : Int) (w : World) (h1 : -1000000000000000 ≤ a) (h2 : a ≤ 1000000000000000) :
    Calls Try.prog 114 #[.int .i64 a] w fun e w' => e = .returned (.int .u64 (absI a)) ∧ w = w' := by
  by_cases h : a < 0
  · go_enter Try.func114, Try.ntmps114
    go_wp2
    go_ret
    exact ⟨ret_int (by unfold absI; rw [if_pos h]), rfl⟩
  · go_enter Try.func114, Try.ntmps114
    go_wp2
    go_ret
    exact ⟨ret_int (by unfold absI; rw [if_neg (by omega)]), rfl⟩

set_option maxHeartbeats 400000 in
theorem withSign_any (u a : Int) (w : World) (h1 : 0 ≤ u) (h2 : u ≤ 1000000000000001) :
    Calls Try.prog 115 #[.int .u64 u, .int .i64 a] w fun e w' => e = .returned (.int .i64 (signed u a)) ∧ w = w' := by
  by_cases h : a < 0
  · go_enter Try.func115, Try.ntmps115
    go_wp2
    go_ret
    exact ⟨ret_int (by unfold signed; rw [if_pos h]), rfl⟩
  · go_enter Try.func115, Try.ntmps115
    go_wp2
    go_ret
    exact ⟨ret_int (by unfold signed; rw [if_neg (by omega)]), rfl⟩

theorem signW_eq (x : Int) (h1 : -9223372036854775808 ≤ x) (h2 : x ≤ 9223372036854775807) : IntKind.u64.wrap (x / 9223372036854775808) = signW x := by
  unfold signW; rw [IntKind.wrap_u64]; split <;> omega

set_option maxHeartbeats 400000 in
theorem signWord_any (x : Int) (w : World) (h1 : -9223372036854775808 ≤ x) (h2 : x ≤ 9223372036854775807) :
    Calls Try.prog 95 #[.int .i64 x] w fun e w' => e = .returned (.int .u64 (signW x)) ∧ w = w' := by
  have H := signW_eq x h1 h2
  go_enter Try.func95, Try.ntmps95
  go_wp2
  go_ret
  exact ⟨rfl, rfl⟩

end Go.Proofs.Ythjpknipnmagkaa

/-
  Contract of money.Fits.
-/
namespace Go.Proofs.Ythjpknipnmagkaa
open Go.RowKit

def fits1 (x : Int) : Bool := decide (-1000000000000000 ≤ x ∧ x ≤ 1000000000000000)
def fitsAll (l : List Int) : Bool := l.all fits1

theorem fitsAll_step {l : List Int} {k : Nat} (hk : k < l.length) (h : fitsAll (l.take k) = true) (h1 : fits1 (l[k]?.getD 0) = true) : fitsAll (l.take (k + 1)) = true := by
  unfold fitsAll at h ⊢
  rw [List.take_succ_eq_append_getElem hk, List.all_append, h]
  simp [hk] at h1
  simp [h1]
theorem fitsAll_no {l : List Int} {k : Nat} (hk : k < l.length) (h1 : fits1 (l[k]?.getD 0) = false) : fitsAll l = false := by
  rw [fitsAll, List.all_eq_false]
  exact ⟨l[k], List.getElem_mem hk, by simpa [hk] using h1⟩

set_option maxHeartbeats 400000 in
theorem fits_any (l : List Int) (A : Option Addr) (n c B : Nat) (w : World) (h : Rd w B 1 A n (ints .i64 l)) (hn : n ≤ maxLen) :
    Calls Try.prog 91 #[.slice A n c] w fun e w' => e = .returned (.bool (fitsAll l)) ∧ w = w' := by
  unfold maxLen at hn
  have hl := Lib.hid h.ints_len
  go_enter Try.func91, Try.ntmps91
  go_wp2
  go_loop [7, 4] (fun i _ => ∃ k : Nat, k ≤ n ∧ i = .int .i64 k ∧ Hid (fitsAll (l.take k) = true)) (fun i _ => n - (intOf i).toNat)
  case atStart => exact ⟨0, Nat.zero_le _, rfl, rfl⟩
  case round =>
    obtain ⟨k, hk, rfl, hf⟩ := hrel
    by_cases hlt : k < n
    · obtain ⟨ad, rfl, hb, hc⟩ := h.int hlt
      by_cases h1 : l[k]?.getD 0 < -1000000000000000
      · go_wp2
        go_ret
        exact ⟨ret_bool (fitsAll_no (k := k) (by have := hl.out; omega) (by unfold fits1; simp; omega)).symm, rfl⟩
      by_cases h2 : 1000000000000000 < l[k]?.getD 0
      · go_wp2
        go_ret
        exact ⟨ret_bool (fitsAll_no (k := k) (by have := hl.out; omega) (by unfold fits1; simp; omega)).symm, rfl⟩
      · go_wp2
        exact ⟨⟨k + 1, by omega, by go_num, fitsAll_step (by have := hl.out; omega) hf.out (by unfold fits1; simp; omega)⟩, by simp [intOf]; omega⟩
    · go_wp2
      go_ret
      refine ⟨ret_bool ?_, rfl⟩
      have := hf.out
      rw [List.take_of_length_le (by have := hl.out; omega)] at this
      exact this.symm
end Go.Proofs.Ythjpknipnmagkaa
