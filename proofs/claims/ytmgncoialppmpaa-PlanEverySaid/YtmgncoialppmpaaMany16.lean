/-
  Several texts, one behind the other: what each holds stands ahead of it.
-/
import Derived.Test.YtmgncoialppmpaaMany3
import Derived.Laws.Externs
import Derived.Test.YtmgncoialppmpaaMany1
import Derived.Maps.AppendAt
import Derived.Test.YtmgncoialppmpaaMany5

/-
  Contract of money.Add of at most a thousand amounts.
-/
namespace Go.Proofs.Ytmgncoialppmpaa.Mo
open Go.RowKit

theorem fitsAll_bd {l : List Int} (h : fitsAll l = true) : ∀ k, k ≤ l.length → -(1000000000000000 * (k : Int)) ≤ sumTo l k ∧ sumTo l k ≤ 1000000000000000 * (k : Int)
  | 0, _ => by rw [sumTo_zero]; omega
  | k + 1, hk => by
    have := fitsAll_bd h k (by omega)
    have hx : fits1 (l[k]?.getD 0) = true := by
      have := List.all_eq_true.1 h l[k] (List.getElem_mem (by omega))
      simpa [show k < l.length by omega] using this
    have := fits1_of hx
    rw [sumTo_succ (by omega)]; omega
theorem fitsAll_at {l : List Int} (h : fitsAll l = true) (k : Nat) : -1000000000000000 ≤ l[k]?.getD 0 ∧ l[k]?.getD 0 ≤ 1000000000000000 := by
  by_cases hk : k < l.length
  · have := List.all_eq_true.1 h l[k] (List.getElem_mem hk)
    simp [hk]
    exact fits1_of this
  · simp [hk]

def lowW (s : Int) : Int := s % 18446744073709551616
def highW (s : Int) : Int := s / 18446744073709551616 % 18446744073709551616
theorem low_step (s x : Int) : (lowW s + x % 18446744073709551616) % 18446744073709551616 = lowW (s + x) := by unfold lowW; omega
theorem high_step (s x : Int) (h1 : -1000000000000000 ≤ x) (h2 : x ≤ 1000000000000000) :
    (highW s + signW x + (lowW s + x % 18446744073709551616) / 18446744073709551616) % 18446744073709551616 = highW (s + x) := by
  unfold highW lowW signW; split <;> omega

/-- What Add tells of amounts that each fit. -/
def addV (l : List Int) : Int := if fitsAll l && fits1 l.sum then l.sum else 0
def addE (l : List Int) : Int := if fitsAll l && fits1 l.sum then 0 else 2

end Go.Proofs.Ytmgncoialppmpaa.Mo

/-
  Contracts of the document's own Fits and Add.
-/
namespace Go.Proofs.Ytmgncoialppmpaa.Mo
open Go.RowKit

set_option maxHeartbeats 400000 in
theorem refFits_any (a : Int) (w : World) : Calls Try.prog 16 #[.int .i64 a] w fun e w' => e = .returned (.bool (fits1 a)) ∧ w = w' := by
  by_cases h1 : -1000000000000000 ≤ a
  · go_enter Try.func16, Try.ntmps16
    go_wp2
    go_ret
    exact ⟨ret_bool (by unfold fits1; rw [Bool.eq_iff_iff]; simp; omega), rfl⟩
  · go_enter Try.func16, Try.ntmps16
    go_wp2
    go_ret
    exact ⟨ret_bool (by unfold fits1; rw [Bool.eq_iff_iff]; simp; omega), rfl⟩

theorem fitsTo_bd {l : List Int} {k : Nat} (h : fitsAll (l.take k) = true) (hk : k ≤ l.length) : -(1000000000000000 * (k : Int)) ≤ sumTo l k ∧ sumTo l k ≤ 1000000000000000 * (k : Int) := by
  have := fitsAll_bd h k (by simp; omega)
  simpa [sumTo, List.take_take] using this

end Go.Proofs.Ytmgncoialppmpaa.Mo

/-
  Contracts of the statements' helpers over lists of ints: copies, lent lists, comparisons.
-/
namespace Go.Proofs.Ytmgncoialppmpaa
open Go.RowKit

end Go.Proofs.Ytmgncoialppmpaa

/-
  Contracts of SameInts, LentInts, StaysInts.
-/
namespace Go.Proofs.Ytmgncoialppmpaa
open Go.RowKit

theorem same_step {l m : List Int} {k : Nat} (h : l.length = m.length) (hk : k < l.length) (h1 : l.take k = m.take k) (h2 : l[k]?.getD 0 = m[k]?.getD 0) : l.take (k + 1) = m.take (k + 1) := by
  rw [List.take_succ_eq_append_getElem hk, List.take_succ_eq_append_getElem (by omega), h1]
  simp [hk, show k < m.length by omega] at h2
  rw [h2]

end Go.Proofs.Ytmgncoialppmpaa

/-
  Contracts of LentInts, StaysInts.
-/
namespace Go.Proofs.Ytmgncoialppmpaa
open Go.RowKit

/-- A list that was lent: its elements, the mark behind them. -/
def LentAt (w : World) (base g cap : Nat) (l : List Int) : Prop := w.ownsRow base 3 1 (.slice (some ⟨g, 0, none⟩) (l.length + 1) cap) (l.length + 1) (ints .i64 (l ++ [-77]))

theorem LentAt.cap_ge {w : World} {base g cap : Nat} {l : List Int} (h : LentAt w base g cap l) : l.length + 1 ≤ cap ∧ base ≤ g ∧ g < w.heap.size := by
  rcases h.2 with ⟨h1, _⟩ | ⟨g', cap', cur, h1, hB, hh, h2, _⟩
  · cases h1
  · injection h1 with h1 _ hc
    injection h1 with h1
    injection h1 with h1
    subst h1 hc
    exact ⟨h2, hB, lt_of_blk hh⟩
theorem LentAt.cells {w : World} {base g cap : Nat} {l : List Int} (h : LentAt w base g cap l) : ∀ j u, (ints .i64 (l ++ [-77]))[j]? = some u → w.cell? ⟨g, j, none⟩ = some u := by
  intro j u hu
  have h' : w.ownsRow base 3 1 (.slice (some ⟨g, 0, none⟩) (l.length + 1) cap) (l.length + 1) (ints .i64 (l ++ [-77])) := h
  have := (h'.cells (g := g) rfl) j u hu
  rwa [Addr.add_lit, Nat.zero_add] at this
theorem LentAt.rd {w : World} {base g cap : Nat} {l : List Int} (h : LentAt w base g cap l) : Rd w w.heap.size 1 (some ⟨g, 0, none⟩) l.length (ints .i64 l) := by
  refine ⟨by simp [ints], fun _ => ⟨_, rfl, h.cap_ge.2.2, fun j u hu => ?_⟩⟩
  rw [Addr.add_lit, Nat.zero_add]
  refine h.cells j u ?_
  have hj : j < l.length := by
    obtain ⟨h1, _⟩ := List.getElem?_eq_some_iff.1 hu
    simpa [ints] using h1
  simp only [ints, List.map_append]
  rw [List.getElem?_append_left (by simpa using hj)]
  exact hu
theorem LentAt.mark {w : World} {base g cap : Nat} {l : List Int} (h : LentAt w base g cap l) : w.cell? ⟨g, l.length, none⟩ = some (.int .i64 (-77)) := by
  refine h.cells _ _ ?_
  simp [ints]
theorem LentAt.below {w w' : World} {base g cap : Nat} {l : List Int} (h : LentAt w base g cap l) (hb : Below w.heap.size w w') : LentAt w' base g cap l :=
  own_kept h fun k hk _ => hb.block k hk

end Go.Proofs.Ytmgncoialppmpaa

/-
  The walk of the statement MoneyAdds.
-/
-- HOLE: obtain ⟨hr, hm, _⟩ := rd_of_isRow w0
-- exact moneyAdds_walk _ a0 len0 cap0 w hr hm
namespace Go.Proofs.Ytmgncoialppmpaa
open Mo
open Go.RowKit

theorem fitsAll_take_succ {l : List Int} {k : Nat} (hk : k < l.length) : fitsAll (l.take (k + 1)) = (fitsAll (l.take k) && fits1 (l[k]?.getD 0)) := by
  unfold fitsAll
  rw [List.take_succ_eq_append_getElem hk, List.all_append]
  simp [hk]

end Go.Proofs.Ytmgncoialppmpaa
