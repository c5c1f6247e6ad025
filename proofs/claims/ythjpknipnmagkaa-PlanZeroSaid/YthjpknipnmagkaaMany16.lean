/-
  Several texts, one behind the other: what each holds stands ahead of it.
-/
import Derived.Test.YthjpknipnmagkaaMoneyAdd
import Derived.Test.YthjpknipnmagkaaMany1
import Derived.Maps.AppendAt
import Derived.Test.YthjpknipnmagkaaMany5
import Derived.Test.YthjpknipnmagkaaMany4

/-
  Contracts of the document's own Fits and Add.
-/
namespace Go.Proofs.Ythjpknipnmagkaa.Mo
open Go.RowKit

set_option maxHeartbeats 400000 in
theorem refFits_any (a : Int) (w : World) : Calls Try.prog 27 #[.int .i64 a] w fun e w' => e = .returned (.bool (fits1 a)) ∧ w = w' := by
  by_cases h1 : -1000000000000000 ≤ a
  · go_enter Try.func27, Try.ntmps27
    go_wp2
    go_ret
    exact ⟨ret_bool (by unfold fits1; rw [Bool.eq_iff_iff]; simp; omega), rfl⟩
  · go_enter Try.func27, Try.ntmps27
    go_wp2
    go_ret
    exact ⟨ret_bool (by unfold fits1; rw [Bool.eq_iff_iff]; simp; omega), rfl⟩

theorem fitsTo_bd {l : List Int} {k : Nat} (h : fitsAll (l.take k) = true) (hk : k ≤ l.length) : -(1000000000000000 * (k : Int)) ≤ sumTo l k ∧ sumTo l k ≤ 1000000000000000 * (k : Int) := by
  have := fitsAll_bd h k (by simp; omega)
  simpa [sumTo, List.take_take] using this

end Go.Proofs.Ythjpknipnmagkaa.Mo

/-
  Contracts of the statements' helpers over lists of ints: copies, lent lists, comparisons.
-/
namespace Go.Proofs.Ythjpknipnmagkaa
open Go.RowKit

end Go.Proofs.Ythjpknipnmagkaa

/-
  Contracts of SameInts, LentInts, StaysInts.
-/
namespace Go.Proofs.Ythjpknipnmagkaa
open Go.RowKit

theorem same_step {l m : List Int} {k : Nat} (h : l.length = m.length) (hk : k < l.length) (h1 : l.take k = m.take k) (h2 : l[k]?.getD 0 = m[k]?.getD 0) : l.take (k + 1) = m.take (k + 1) := by
  rw [List.take_succ_eq_append_getElem hk, List.take_succ_eq_append_getElem (by omega), h1]
  simp [hk, show k < m.length by omega] at h2
  rw [h2]

end Go.Proofs.Ythjpknipnmagkaa

/-
  Contracts of LentInts, StaysInts.
-/
namespace Go.Proofs.Ythjpknipnmagkaa
open Go.RowKit

/-- A list that was lent: its elements, the mark behind them. -/
def LentAt (w : World) (base g cap : Nat) (l : List Int) : Prop := w.ownsRow base 3 1 (.slice (some ⟨g, 0, none⟩) (l.length + 1) cap) (l.length + 1) (ints .i64 (l ++ [-77]))

theorem LentAt.cap_ge {w : World} {base g cap : Nat} {l : List Int} (h : LentAt w base g cap l) : l.length + 1 ≤ cap ∧ base ≤ g ∧ g < w.heap.size := by
  rcases h.2 with ⟨h1, _⟩ | ⟨g', cap', cur, h1, hB, hh, h2, _⟩
  · cases h1
  · injection h1 with h1 _ hc
    injection h1 with h1
    injection h1 with h1
    subst h1 hc
    exact ⟨h2, hB, lt_of_blk hh⟩
theorem LentAt.cells {w : World} {base g cap : Nat} {l : List Int} (h : LentAt w base g cap l) : ∀ j u, (ints .i64 (l ++ [-77]))[j]? = some u → w.cell? ⟨g, j, none⟩ = some u := by
  intro j u hu
  have h' : w.ownsRow base 3 1 (.slice (some ⟨g, 0, none⟩) (l.length + 1) cap) (l.length + 1) (ints .i64 (l ++ [-77])) := h
  have := (h'.cells (g := g) rfl) j u hu
  rwa [Addr.add_lit, Nat.zero_add] at this
theorem LentAt.rd {w : World} {base g cap : Nat} {l : List Int} (h : LentAt w base g cap l) : Rd w w.heap.size 1 (some ⟨g, 0, none⟩) l.length (ints .i64 l) := by
  refine ⟨by simp [ints], fun _ => ⟨_, rfl, h.cap_ge.2.2, fun j u hu => ?_⟩⟩
  rw [Addr.add_lit, Nat.zero_add]
  refine h.cells j u ?_
  have hj : j < l.length := by
    obtain ⟨h1, _⟩ := List.getElem?_eq_some_iff.1 hu
    simpa [ints] using h1
  simp only [ints, List.map_append]
  rw [List.getElem?_append_left (by simpa using hj)]
  exact hu
theorem LentAt.mark {w : World} {base g cap : Nat} {l : List Int} (h : LentAt w base g cap l) : w.cell? ⟨g, l.length, none⟩ = some (.int .i64 (-77)) := by
  refine h.cells _ _ ?_
  simp [ints]
theorem LentAt.below {w w' : World} {base g cap : Nat} {l : List Int} (h : LentAt w base g cap l) (hb : Below w.heap.size w w') : LentAt w' base g cap l :=
  own_kept h fun k hk _ => hb.block k hk

end Go.Proofs.Ythjpknipnmagkaa

/-
  The walk of the statement MoneyAdds.
-/
-- HOLE: obtain ⟨hr, hm, _⟩ := rd_of_isRow w0
-- exact moneyAdds_walk _ a0 len0 cap0 w hr hm
namespace Go.Proofs.Ythjpknipnmagkaa
open Mo
open Go.RowKit

theorem fitsAll_take_succ {l : List Int} {k : Nat} (hk : k < l.length) : fitsAll (l.take (k + 1)) = (fitsAll (l.take k) && fits1 (l[k]?.getD 0)) := by
  unfold fitsAll
  rw [List.take_succ_eq_append_getElem hk, List.all_append]
  simp [hk]

end Go.Proofs.Ythjpknipnmagkaa

/-
  Plain mathematics of fair parts: they come to the amount, a greater weight has no less, one of 0 has nothing.
-/
namespace Go.Proofs.Ythjpknipnmagkaa.Mo

theorem sumN_le_each {f : Nat → Int} {n : Nat} (h : ∀ k, k < n → 0 ≤ f k) (i : Nat) (hi : i < n) : f i ≤ sumN f n := by
  have : sumN (fun k => if k = i then f i else 0) n ≤ sumN f n := sumN_le fun k hk => by
    by_cases e : k = i
    · subst e; simp
    · simp [e]; exact h k hk
  have h2 : sumN (fun k => if k = i then f i else 0) n = f i := by
    have e : sumN (fun k => if k = i then f i else 0) n = sumN (fun k => f i * if k = i then 1 else 0) n := sumN_congr fun k _ => by
      by_cases e : k = i <;> simp [e]
    rw [e, sumN_mul, sumN_one hi, Int.mul_one]
  omega

section
variable {W : Int} {l : List Int} {S : Nat → Bool}
theorem part_sum (hall : l.all wt1 = true) (hs : 0 < l.sum) (hW : 0 ≤ W) (hT : Taken (restOf W l) l.length (leftOf W l l.length).toNat S) : sumN (partOf W l S) l.length = W := by
  have h1 := taken_count hT
  have h2 := (left_bd hall hs hW).1
  have h3 : sumN (partOf W l S) l.length = sumN (shareOf W l) l.length + sumN (fun k => if S k then 1 else 0) l.length := by rw [← sumN_add]; rfl
  rw [h3, h1]
  unfold leftOf at *
  omega
theorem part_le (hall : l.all wt1 = true) (hs : 0 < l.sum) (hW : 0 ≤ W) (hT : Taken (restOf W l) l.length (leftOf W l l.length).toNat S) (k : Nat) (hk : k < l.length) : partOf W l S k ≤ W := by
  have h1 := part_sum hall hs hW hT
  have := sumN_le_each (f := partOf W l S) (n := l.length) (fun k _ => (part_bd hall hs hW S k).1) k hk
  omega
theorem part_zero (hall : l.all wt1 = true) (hs : 0 < l.sum) (hW : 0 ≤ W) (hT : Taken (restOf W l) l.length (leftOf W l l.length).toNat S) (k : Nat) (hk : k < l.length) (h0 : l[k]?.getD 0 = 0) : partOf W l S k = 0 := by
  have hsh : shareOf W l k = 0 := by unfold shareOf; rw [h0]; simp
  have hr : (restOf W l k).2 = 0 := by unfold restOf; rw [h0]; simp
  unfold partOf
  rw [hsh]
  cases hS : S k
  · simp
  · exfalso
    have hcnt := taken_count hT
    have hlb := left_bd hall hs hW
    have hlr := left_rests (W := W) (l := l)
    have h1 : sumN (fun j => (restOf W l j).2) l.length ≤ sumN (fun j => (l.sum - 1) * (if S j then 1 else 0) + (-(l.sum - 1)) * if j = k then 1 else 0) l.length := by
      refine sumN_le fun j hj => ?_
      have hb := rest_bd (W := W) hs j
      by_cases e : j = k
      · subst e; simp [hS, hr]; omega
      · cases hSj : S j
        · have := taken_ahead (fun i j h => restOf_inj W l h) hT k j hk hj hS hSj
          simp [restLt, hr] at this
          simp [e]
          omega
        · simp [e]; omega
    rw [sumN_add, sumN_mul, sumN_mul, sumN_one hk, hcnt, Int.toNat_of_nonneg hlb.1] at h1
    have hone : 1 ≤ leftOf W l l.length := by
      have := sumN_le_each (f := fun j => if S j then 1 else 0) (n := l.length) (fun j _ => by split <;> omega) k hk
      simp only [hS, if_true] at this
      omega
    rw [← hlr, Int.sub_mul] at h1
    omega
theorem part_mono (hall : l.all wt1 = true) (hs : 0 < l.sum) (hW : 0 ≤ W) (hT : Taken (restOf W l) l.length (leftOf W l l.length).toNat S) (i k : Nat) (hi : i < l.length) (hk : k < l.length) (h : l[k]?.getD 0 < l[i]?.getD 0) : partOf W l S k ≤ partOf W l S i := by
  have h1 := share_rest (W := W) (l := l) i
  have h2 := share_rest (W := W) (l := l) k
  have b1 := rest_bd (W := W) hs i
  have b2 := rest_bd (W := W) hs k
  have hm : W * l[k]?.getD 0 ≤ W * l[i]?.getD 0 := Int.mul_le_mul_of_nonneg_left (by omega) hW
  have hsh : shareOf W l k ≤ shareOf W l i := Int.ediv_le_ediv hs hm
  unfold partOf
  by_cases he : shareOf W l k = shareOf W l i
  · rw [he] at h2 ⊢
    cases hSk : S k
    · simp; split <;> omega
    · cases hSi : S i
      · exfalso
        have := taken_ahead (fun i j h => restOf_inj W l h) hT k i hk hi hSk hSi
        simp [restLt] at this
        have hr : (restOf W l k).2 ≤ (restOf W l i).2 := by omega
        have he2 : (restOf W l k).2 = (restOf W l i).2 := by omega
        have hW0 : W = 0 := by
          have hmm : W * l[k]?.getD 0 = W * l[i]?.getD 0 := by omega
          rcases Int.mul_eq_zero.1 (show W * (l[i]?.getD 0 - l[k]?.getD 0) = 0 by rw [Int.mul_sub]; omega) with h | h
          · exact h
          · omega
        have hps := part_sum hall hs hW hT
        have := sumN_le_each (f := partOf W l S) (n := l.length) (fun k _ => (part_bd hall hs hW S k).1) k hk
        rw [hps, hW0] at this
        have hs0 := share_nonneg hall hs hW k
        unfold partOf at this
        rw [hW0] at hs0
        simp [hSk] at this
        omega
      · simp
  · split <;> split <;> omega
theorem low_share (hs : 0 < l.sum) (x : Int) : W / l.sum * x + W % l.sum * x / l.sum = W * x / l.sum := by
  have e := Int.mul_ediv_add_emod W l.sum
  have : W * x = W % l.sum * x + (W / l.sum * x) * l.sum := by
    have h2 : W * x = (l.sum * (W / l.sum) + W % l.sum) * x := by rw [e]
    rw [h2, Int.add_mul, Int.mul_comm l.sum, Int.mul_right_comm]
    omega
  rw [this, Int.add_mul_ediv_right _ _ (by omega)]
  omega
end
theorem range_sum (f : Nat → Int) : ∀ n, ((List.range n).map f).sum = sumN f n
  | 0 => rfl
  | n + 1 => by rw [List.range_succ, List.map_append, List.sum_append, range_sum f n]; simp [sumN]
theorem sumN_signed (f : Nat → Int) (a : Int) (n : Nat) : sumN (fun k => signed (f k) a) n = signed (sumN f n) a := by
  unfold signed
  by_cases h : a < 0
  · simp only [h, if_true]
    have e : sumN (fun k => -f k) n = sumN (fun k => -1 * f k) n := sumN_congr fun k _ => by omega
    rw [e, sumN_mul]; omega
  · simp only [h, if_false]
theorem signed_abs (a : Int) : signed (absI a) a = a := by unfold signed absI; split <;> omega
theorem absI_signed {p a : Int} (h : 0 ≤ p) : max (signed p a) (-signed p a) = p := by unfold signed; split <;> omega
end Go.Proofs.Ythjpknipnmagkaa.Mo

/-
  The walk of the statement MoneyFair.
-/
-- HOLE: obtain ⟨hr, hm, _⟩ := rd_of_isRow w1
-- exact moneyFair_walk a0 _ a1 len1 cap1 w hr hm (bounds_i64 w0).1 (bounds_i64 w0).2
namespace Go.Proofs.Ythjpknipnmagkaa
open Mo
open Go.RowKit

/-- What the statement's last test asks of one part. -/
theorem low_facts {W x T sh : Int} (hW0 : 0 ≤ W) (hW : W ≤ 1000000000000000) (hx0 : 0 ≤ x) (hx : x ≤ 1000000) (hT : 0 < T) (hxT : x ≤ T) (hT2 : T ≤ 20000000) (hsh : W / T * x + W % T * x / T = sh) (hs1 : sh ≤ W) (hs0 : 0 ≤ sh) :
    ∃ q r m1 m2 d : Int, W.tdiv T = q ∧ IntKind.i64.wrap q = q ∧ W.tmod T = r ∧ IntKind.i64.wrap (q * x) = m1 ∧ IntKind.i64.wrap (r * x) = m2 ∧ m2.tdiv T = d ∧ IntKind.i64.wrap d = d ∧ IntKind.i64.wrap (m1 + d) = sh := by
  have q0 : 0 ≤ W / T := Int.ediv_nonneg hW0 (by omega)
  have q1 : W / T ≤ W := Int.ediv_le_self _ hW0
  have r0 : 0 ≤ W % T := Int.emod_nonneg _ (by omega)
  have r1 : W % T < T := Int.emod_lt_of_pos _ hT
  have m10 : 0 ≤ W / T * x := Int.mul_nonneg q0 hx0
  have m20 : 0 ≤ W % T * x := Int.mul_nonneg r0 hx0
  have m21 : W % T * x ≤ 20000000 * x := Int.mul_le_mul_of_nonneg_right (by omega) hx0
  have d0 : 0 ≤ W % T * x / T := Int.ediv_nonneg m20 (by omega)
  have d1 : W % T * x / T ≤ W % T * x := Int.ediv_le_self _ m20
  refine ⟨W / T, W % T, W / T * x, W % T * x, W % T * x / T, Int.tdiv_eq_ediv_of_nonneg hW0, ?_, Int.tmod_eq_emod_of_nonneg hW0, ?_, ?_, Int.tdiv_eq_ediv_of_nonneg m20, ?_, ?_⟩
  all_goals rw [IntKind.wrap_i64]; omega

end Go.Proofs.Ythjpknipnmagkaa
