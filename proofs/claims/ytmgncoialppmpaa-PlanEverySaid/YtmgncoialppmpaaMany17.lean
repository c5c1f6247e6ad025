/-
  Several texts, one behind the other: what each holds stands ahead of it.
-/
import Derived.Test.YtmgncoialppmpaaMany4
import Derived.Test.YtmgncoialppmpaaMany16

/-
  Plain mathematics of fair parts: they come to the amount, a greater weight has no less, one of 0 has nothing.
-/
namespace Go.Proofs.Ytmgncoialppmpaa.Mo

theorem sumN_le_each {f : Nat → Int} {n : Nat} (h : ∀ k, k < n → 0 ≤ f k) (i : Nat) (hi : i < n) : f i ≤ sumN f n := by
  have : sumN (fun k => if k = i then f i else 0) n ≤ sumN f n := sumN_le fun k hk => by
    by_cases e : k = i
    · subst e; simp
    · simp [e]; exact h k hk
  have h2 : sumN (fun k => if k = i then f i else 0) n = f i := by
    have e : sumN (fun k => if k = i then f i else 0) n = sumN (fun k => f i * if k = i then 1 else 0) n := sumN_congr fun k _ => by
      by_cases e : k = i <;> simp [e]
    rw [e, sumN_mul, sumN_one hi, Int.mul_one]
  omega

section
variable {W : Int} {l : List Int} {S : Nat → Bool}
theorem part_sum (hall : l.all wt1 = true) (hs : 0 < l.sum) (hW : 0 ≤ W) (hT : Taken (restOf W l) l.length (leftOf W l l.length).toNat S) : sumN (partOf W l S) l.length = W := by
  have h1 := taken_count hT
  have h2 := (left_bd hall hs hW).1
  have h3 : sumN (partOf W l S) l.length = sumN (shareOf W l) l.length + sumN (fun k => if S k then 1 else 0) l.length := by rw [← sumN_add]; rfl
  rw [h3, h1]
  unfold leftOf at *
  omega
theorem part_le (hall : l.all wt1 = true) (hs : 0 < l.sum) (hW : 0 ≤ W) (hT : Taken (restOf W l) l.length (leftOf W l l.length).toNat S) (k : Nat) (hk : k < l.length) : partOf W l S k ≤ W := by
  have h1 := part_sum hall hs hW hT
  have := sumN_le_each (f := partOf W l S) (n := l.length) (fun k _ => (part_bd hall hs hW S k).1) k hk
  omega
theorem part_zero (hall : l.all wt1 = true) (hs : 0 < l.sum) (hW : 0 ≤ W) (hT : Taken (restOf W l) l.length (leftOf W l l.length).toNat S) (k : Nat) (hk : k < l.length) (h0 : l[k]?.getD 0 = 0) : partOf W l S k = 0 := by
  have hsh : shareOf W l k = 0 := by unfold shareOf; rw [h0]; simp
  have hr : (restOf W l k).2 = 0 := by unfold restOf; rw [h0]; simp
  unfold partOf
  rw [hsh]
  cases hS : S k
  · simp
  · exfalso
    have hcnt := taken_count hT
    have hlb := left_bd hall hs hW
    have hlr := left_rests (W := W) (l := l)
    have h1 : sumN (fun j => (restOf W l j).2) l.length ≤ sumN (fun j => (l.sum - 1) * (if S j then 1 else 0) + (-(l.sum - 1)) * if j = k then 1 else 0) l.length := by
      refine sumN_le fun j hj => ?_
      have hb := rest_bd (W := W) hs j
      by_cases e : j = k
      · subst e; simp [hS, hr]; omega
      · cases hSj : S j
        · have := taken_ahead (fun i j h => restOf_inj W l h) hT k j hk hj hS hSj
          simp [restLt, hr] at this
          simp [e]
          omega
        · simp [e]; omega
    rw [sumN_add, sumN_mul, sumN_mul, sumN_one hk, hcnt, Int.toNat_of_nonneg hlb.1] at h1
    have hone : 1 ≤ leftOf W l l.length := by
      have := sumN_le_each (f := fun j => if S j then 1 else 0) (n := l.length) (fun j _ => by split <;> omega) k hk
      simp only [hS, if_true] at this
      omega
    rw [← hlr, Int.sub_mul] at h1
    omega
theorem part_mono (hall : l.all wt1 = true) (hs : 0 < l.sum) (hW : 0 ≤ W) (hT : Taken (restOf W l) l.length (leftOf W l l.length).toNat S) (i k : Nat) (hi : i < l.length) (hk : k < l.length) (h : l[k]?.getD 0 < l[i]?.getD 0) : partOf W l S k ≤ partOf W l S i := by
  have h1 := share_rest (W := W) (l := l) i
  have h2 := share_rest (W := W) (l := l) k
  have b1 := rest_bd (W := W) hs i
  have b2 := rest_bd (W := W) hs k
  have hm : W * l[k]?.getD 0 ≤ W * l[i]?.getD 0 := Int.mul_le_mul_of_nonneg_left (by omega) hW
  have hsh : shareOf W l k ≤ shareOf W l i := Int.ediv_le_ediv hs hm
  unfold partOf
  by_cases he : shareOf W l k = shareOf W l i
  · rw [he] at h2 ⊢
    cases hSk : S k
    · simp; split <;> omega
    · cases hSi : S i
      · exfalso
        have := taken_ahead (fun i j h => restOf_inj W l h) hT k i hk hi hSk hSi
        simp [restLt] at this
        have hr : (restOf W l k).2 ≤ (restOf W l i).2 := by omega
        have he2 : (restOf W l k).2 = (restOf W l i).2 := by omega
        have hW0 : W = 0 := by
          have hmm : W * l[k]?.getD 0 = W * l[i]?.getD 0 := by omega
          rcases Int.mul_eq_zero.1 (show W * (l[i]?.getD 0 - l[k]?.getD 0) = 0 by rw [Int.mul_sub]; omega) with h | h
          · exact h
          · omega
        have hps := part_sum hall hs hW hT
        have := sumN_le_each (f := partOf W l S) (n := l.length) (fun k _ => (part_bd hall hs hW S k).1) k hk
        rw [hps, hW0] at this
        have hs0 := share_nonneg hall hs hW k
        unfold partOf at this
        rw [hW0] at hs0
        simp [hSk] at this
        omega
      · simp
  · split <;> split <;> omega
theorem low_share (hs : 0 < l.sum) (x : Int) : W / l.sum * x + W % l.sum * x / l.sum = W * x / l.sum := by
  have e := Int.mul_ediv_add_emod W l.sum
  have : W * x = W % l.sum * x + (W / l.sum * x) * l.sum := by
    have h2 : W * x = (l.sum * (W / l.sum) + W % l.sum) * x := by rw [e]
    rw [h2, Int.add_mul, Int.mul_comm l.sum, Int.mul_right_comm]
    omega
  rw [this, Int.add_mul_ediv_right _ _ (by omega)]
  omega
end
theorem range_sum (f : Nat → Int) : ∀ n, ((List.range n).map f).sum = sumN f n
  | 0 => rfl
  | n + 1 => by rw [List.range_succ, List.map_append, List.sum_append, range_sum f n]; simp [sumN]
theorem sumN_signed (f : Nat → Int) (a : Int) (n : Nat) : sumN (fun k => signed (f k) a) n = signed (sumN f n) a := by
  unfold signed
  by_cases h : a < 0
  · simp only [h, if_true]
    have e : sumN (fun k => -f k) n = sumN (fun k => -1 * f k) n := sumN_congr fun k _ => by omega
    rw [e, sumN_mul]; omega
  · simp only [h, if_false]
theorem signed_abs (a : Int) : signed (absI a) a = a := by unfold signed absI; split <;> omega
theorem absI_signed {p a : Int} (h : 0 ≤ p) : max (signed p a) (-signed p a) = p := by unfold signed; split <;> omega
end Go.Proofs.Ytmgncoialppmpaa.Mo

/-
  The walk of the statement MoneyFair.
-/
-- HOLE: obtain ⟨hr, hm, _⟩ := rd_of_isRow w1
-- exact moneyFair_walk a0 _ a1 len1 cap1 w hr hm (bounds_i64 w0).1 (bounds_i64 w0).2
namespace Go.Proofs.Ytmgncoialppmpaa
open Mo
open Go.RowKit

/-- What the statement's last test asks of one part. -/
theorem low_facts {W x T sh : Int} (hW0 : 0 ≤ W) (hW : W ≤ 1000000000000000) (hx0 : 0 ≤ x) (hx : x ≤ 1000000) (hT : 0 < T) (hxT : x ≤ T) (hT2 : T ≤ 20000000) (hsh : W / T * x + W % T * x / T = sh) (hs1 : sh ≤ W) (hs0 : 0 ≤ sh) :
    ∃ q r m1 m2 d : Int, W.tdiv T = q ∧ IntKind.i64.wrap q = q ∧ W.tmod T = r ∧ IntKind.i64.wrap (q * x) = m1 ∧ IntKind.i64.wrap (r * x) = m2 ∧ m2.tdiv T = d ∧ IntKind.i64.wrap d = d ∧ IntKind.i64.wrap (m1 + d) = sh := by
  have q0 : 0 ≤ W / T := Int.ediv_nonneg hW0 (by omega)
  have q1 : W / T ≤ W := Int.ediv_le_self _ hW0
  have r0 : 0 ≤ W % T := Int.emod_nonneg _ (by omega)
  have r1 : W % T < T := Int.emod_lt_of_pos _ hT
  have m10 : 0 ≤ W / T * x := Int.mul_nonneg q0 hx0
  have m20 : 0 ≤ W % T * x := Int.mul_nonneg r0 hx0
  have m21 : W % T * x ≤ 20000000 * x := Int.mul_le_mul_of_nonneg_right (by omega) hx0
  have d0 : 0 ≤ W % T * x / T := Int.ediv_nonneg m20 (by omega)
  have d1 : W % T * x / T ≤ W % T * x := Int.ediv_le_self _ m20
  refine ⟨W / T, W % T, W / T * x, W % T * x, W % T * x / T, Int.tdiv_eq_ediv_of_nonneg hW0, ?_, Int.tmod_eq_emod_of_nonneg hW0, ?_, ?_, Int.tdiv_eq_ediv_of_nonneg m20, ?_, ?_⟩
  all_goals rw [IntKind.wrap_i64]; omega

end Go.Proofs.Ytmgncoialppmpaa
