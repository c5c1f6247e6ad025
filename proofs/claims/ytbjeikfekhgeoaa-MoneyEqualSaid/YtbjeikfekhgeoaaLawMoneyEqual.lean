/-
  The walk of the statement MoneyEqual.
-/
-- HOLE: exact moneyEqual_walk a0 a1 a2 w (bounds_i64 w0).1 (bounds_i64 w0).2 (bounds_i64 w1).1 (bounds_i64 w1).2 (bounds_i64 w2).1 (bounds_i64 w2).2
import Derived.Test.YtbjeikfekhgeoaaLawMoneyAdds
import Derived.Test.YtbjeikfekhgeoaaLawMoneyHalves
namespace Go.Proofs.Ytbjeikfekhgeoaa
open Go.RowKit

theorem taken_first {base : Nat → Int × Int} {n : Nat} {c : Int} (hb : ∀ k, base k = ((k : Int), c)) : ∀ {i : Nat} {S : Nat → Bool}, i ≤ n → Taken base n i S → S = fun k => decide (k < i)
  | 0, S, _, h => by rw [show S = _ from h]; funext k; simp
  | i + 1, S, hi, h => by
    obtain ⟨S0, b, h1, h2, rfl⟩ := h
    have e := taken_first hb (by omega) h1
    subst e
    obtain ⟨h3, h4, h5⟩ := h2
    have h6 := h5 i (by omega) (by simp)
    rw [hb, hb] at h6
    simp [restLt] at h4 h6
    have : b = i := by omega
    subst this
    funext k
    rw [Bool.eq_iff_iff]
    simp; omega

section
variable (W x : Int) (n : Nat)
theorem rep_at (k : Nat) (hk : k < n) : (List.replicate n x)[k]?.getD 0 = x := by simp [hk]
theorem rep_sum : ∀ n : Nat, (List.replicate n x).sum = n * x
  | 0 => by simp
  | n + 1 => by rw [List.replicate_succ, List.sum_cons, rep_sum n, Int.natCast_add, Int.add_mul]; omega
theorem rep_share (hx : 0 < x) (_hn : 0 < n) (k : Nat) (hk : k < n) : shareOf W (List.replicate n x) k = W / n := by
  unfold shareOf
  rw [rep_at x n k hk, rep_sum]
  exact Int.mul_ediv_mul_of_pos_left W n hx
theorem rep_rest (hx : 0 < x) (k : Nat) (hk : k < n) : restOf W (List.replicate n x) k = ((k : Int), W % n * x) := by
  unfold restOf
  rw [rep_at x n k hk, rep_sum, Int.mul_comm W x, Int.mul_comm (n : Int) x, Int.mul_emod_mul_of_pos _ _ hx, Int.mul_comm x]
theorem rep_left (hx : 0 < x) (hn : 0 < n) : leftOf W (List.replicate n x) n = W % n := by
  unfold leftOf
  rw [sumN_congr (g := fun _ => W / n) fun k hk => rep_share W x n hx hn k hk, sumN_const, Int.mul_comm]
  have := Int.mul_ediv_add_emod W n
  omega
theorem rep_all (hx : 0 < x) (hx2 : x ≤ 1000000) : (List.replicate n x).all wt1 = true := by
  rw [List.all_eq_true]
  intro y hy
  rw [List.eq_of_mem_replicate hy]
  unfold wt1; simp; omega
end

theorem isBest_congr {base base' : Nat → Int × Int} {n : Nat} {S : Nat → Bool} {b : Nat} (h : ∀ k, k < n → base k = base' k) (hb : IsBest base n S b) : IsBest base' n S b :=
  ⟨hb.1, hb.2.1, fun j hj hs => by rw [← h j hj, ← h b hb.1]; exact hb.2.2 j hj hs⟩
theorem taken_congr {base base' : Nat → Int × Int} {n : Nat} (h : ∀ k, k < n → base k = base' k) : ∀ {i : Nat} {S : Nat → Bool}, Taken base n i S → Taken base' n i S
  | 0, _, h1 => h1
  | i + 1, S, h1 => by
    obtain ⟨S0, b, h2, h3, rfl⟩ := h1
    exact ⟨S0, b, taken_congr h h2, isBest_congr h h3, rfl⟩

/-- The parts by equal weights. -/
theorem rep_part {W x : Int} {n : Nat} {S : Nat → Bool} (_hW : 0 ≤ W) (hx : 0 < x) (hn : 0 < n) (hT : Taken (restOf W (List.replicate n x)) n (leftOf W (List.replicate n x) n).toNat S) (k : Nat) (hk : k < n) :
    partOf W (List.replicate n x) S k = W / n + if (k : Int) < W % n then 1 else 0 := by
  rw [rep_left W x n hx hn] at hT
  have h0 := Int.emod_nonneg W (show (n : Int) ≠ 0 by omega)
  have h1 := Int.emod_lt_of_pos W (show (0 : Int) < n by omega)
  have hS := taken_first (base := fun k => ((k : Int), W % n * x)) (fun _ => rfl) (by omega) (taken_congr (fun k hk => rep_rest W x n hx k hk) hT)
  unfold partOf
  rw [rep_share W x n hx hn k hk, hS]
  have : (k < (W % (n : Int)).toNat) ↔ ((k : Int) < W % n) := by omega
  simp [this]

theorem tdiv_neg (a m : Int) (h : a < 0) : a.tdiv m = -((-a) / m) := by
  obtain ⟨b, rfl⟩ : ∃ b, a = -b := ⟨-a, by omega⟩
  rw [Int.neg_tdiv, Int.tdiv_eq_ediv_of_nonneg (by omega), Int.neg_neg]
/-- The quotient and the rest of an amount by a number of parts, as Go's int has them. -/
theorem equal_div (a : Int) (n : Nat) (hn : 0 < n) : ∃ q r : Int, a.tdiv n = q ∧ (0 ≤ a → a / n = q) ∧ q = signed (absI a / n) a ∧ a.tmod n = r ∧ (0 ≤ a → a % n = r) ∧ max r (-r) = absI a % n ∧ r = signed (absI a % n) a ∧ q = signed (absI a / n) a := by
  have h0 := Int.emod_nonneg (absI a) (show (n : Int) ≠ 0 by omega)
  by_cases h : a < 0
  · refine ⟨_, _, rfl, fun h2 => by omega, ?_, rfl, fun h2 => by omega, ?_, ?_, ?_⟩
    · rw [tdiv_neg a n h]; simp [signed, absI, h]
    · rw [tmod_neg a n h]; simp only [absI, h, if_true] at h0 ⊢; omega
    · rw [tmod_neg a n h]; simp [signed, absI, h]
    · rw [tdiv_neg a n h]; simp [signed, absI, h]
  · refine ⟨_, _, rfl, fun h2 => (Int.tdiv_eq_ediv_of_nonneg h2).symm, ?_, rfl, fun h2 => (Int.tmod_eq_emod_of_nonneg h2).symm, ?_, ?_, ?_⟩
    · rw [Int.tdiv_eq_ediv_of_nonneg (by omega)]; simp [signed, absI, h]
    · rw [Int.tmod_eq_emod_of_nonneg (by omega)]; simp only [absI, h, if_false] at h0 ⊢; omega
    · rw [Int.tmod_eq_emod_of_nonneg (by omega)]; simp [signed, absI, h]
    · rw [Int.tdiv_eq_ediv_of_nonneg (by omega)]; simp [signed, absI, h]

set_option maxRecDepth 100000 in
set_option maxHeartbeats 1000000 in
theorem moneyEqual_bad (a n x : Int) (w : World) (h : (fits1 a = true → n < 1 ∨ 20 < n ∨ x < 1 ∨ 1000000 < x)) :
    Calls Try.prog 8 #[.int .i64 a, .int .i64 n, .int .i64 x] w fun e w' => e = .returned (.bool true) ∧ Below w.heap.size w w' := by
  cases hf : fits1 a
  · have HF := Lib.hid hf
    clear hf h
    go_enter Try.func8, Try.ntmps8
    go_wp2_with fail
    refine (fits_one a w _ _).mono ?_
    rintro e w' ⟨rfl, rfl⟩
    rw [HF.out]
    go_wp2_with fail
    refine (alive_any _).mono ?_
    rintro e w1 ⟨rfl, hb⟩
    go_wp2
    go_ret
    exact ⟨rfl, ((Below.refl _ _).alloc (Nat.le_refl _) _).trans (hb.mono (by simp))⟩
  · have HF := Lib.hid hf
    have h' : n < 1 ∨ (1 ≤ n ∧ 20 < n) ∨ ((1 ≤ n ∧ n ≤ 20) ∧ x < 1) ∨ ((1 ≤ n ∧ n ≤ 20) ∧ 1 ≤ x ∧ 1000000 < x) := by
      have := h hf
      omega
    clear hf h
    rcases h' with h1 | ⟨h1, h2⟩ | ⟨⟨h1, h2⟩, h3⟩ | ⟨⟨h1, h2⟩, h3, h4⟩
    all_goals
      go_enter Try.func8, Try.ntmps8
      go_wp2_with fail
      refine (fits_one a w _ _).mono ?_
      rintro e w' ⟨rfl, rfl⟩
      rw [HF.out]
      go_wp2_with fail
      refine (alive_any _).mono ?_
      rintro e w1 ⟨rfl, hb⟩
      go_wp2
      go_ret
      exact ⟨rfl, ((Below.refl _ _).alloc (Nat.le_refl _) _).trans (hb.mono (by simp))⟩

set_option maxRecDepth 100000 in
set_option maxHeartbeats 1000000 in
theorem moneyEqual_walk (a n' x : Int) (w : World) (h1 : -9223372036854775808 ≤ a) (h2 : a ≤ 9223372036854775807) (h3 : -9223372036854775808 ≤ n') (h4 : n' ≤ 9223372036854775807) (h5 : -9223372036854775808 ≤ x) (h6 : x ≤ 9223372036854775807) :
    Calls Try.prog 8 #[.int .i64 a, .int .i64 n', .int .i64 x] w fun e w' => e = .returned (.bool true) ∧ Below w.heap.size w w' := by
  by_cases hok : fits1 a = true ∧ 1 ≤ n' ∧ n' ≤ 20 ∧ 1 ≤ x ∧ x ≤ 1000000
  case neg => exact moneyEqual_bad a n' x w (fun hf => by simp [hf] at hok; omega)
  obtain ⟨hf, n1, n2, x1, x2⟩ := hok
  obtain ⟨n, rfl⟩ := Int.eq_ofNat_of_zero_le (show 0 ≤ n' by omega)
  obtain ⟨i0, hi0, hz0, hz1, hz2⟩ := info_parts infoInt
  have hI := Lib.hid hi0; have hZ0 := Lib.hid hz0; have hZ1 := Lib.hid hz1; have hZ2 := Lib.hid hz2
  obtain ⟨g1, g2⟩ := fits1_of hf
  have HF := Lib.hid hf
  clear hf hi0 hz0 hz1 hz2
  go_enter Try.func8, Try.ntmps8
  go_wp2_with fail
  refine (fits_one a w _ _).mono ?_
  rintro e w' ⟨rfl, rfl⟩
  rw [HF.out]
  go_wp2_with fail
  refine (alive_any _).mono ?_
  rintro e w1 ⟨rfl, hb⟩
  have HB1 : Hid (Below w.heap.size w w1) := ((Below.refl _ _).alloc (Nat.le_refl _) _).trans (hb.mono (by simp))
  clear hb
  go_wp2_with fail
  go_loopw [7, 8] (fun lv iv wr => ∃ (k : Nat) (A : Option Addr) (c : Nat), k ≤ n ∧ iv = .int .i64 k ∧ lv = .slice A k c ∧ wr.ownsRow w1.heap.size 3 1 (.slice A k c) k (ints .i64 (List.replicate k x)) ∧ Below w1.heap.size w1 wr) (fun _ iv _ => n - (intOf iv).toNat)
  case atStart => exact ⟨0, none, 0, Nat.zero_le _, rfl, rfl, World.ownsRow_nil _ _ _ _, Below.refl _ _⟩
  case round =>
    obtain ⟨k, A, c, hk, rfl, rfl, hown, hbel⟩ := hrel
    have hsz := hbel.size
    by_cases hlt : k < n
    · go_wp2_with (at_builtin; refine wpList_append_lies _ rfl _ _ 22 rfl w1.heap.size 3 i0 (.int .i64 0) 1 8 Try.underlying22 hI.out hZ0.out hZ1.out hZ2.out rfl (by decide) _ k _ rfl (own_kept hown fun q hq _ => Below.heap_alloc _ _ _ hq) ⟨wr.heap.size, 0, none⟩ 1 1 [.int .i64 x] rfl rfl (cell_one_new _ _ _) (by simp [Value.oneCell']) (by omega) (by unfold maxLen; omega) (by omega) (by simp; omega) _ rfl ?_)
      intro g cap w2 hown2 hg2 hat2 hlt2
      have hB2 : Hid (Below w1.heap.size w1 w2) := (hbel.alloc hsz _).grown hg2 (by simp; omega) (own_ge hown)
      have HO2 := Lib.hid hown2
      clear hown2 hg2 hown hbel
      go_wp2
      refine ⟨⟨k + 1, some ⟨g, 0, none⟩, cap, by omega, by go_num, rfl, ?_, hB2.out⟩, by simp [intOf]; omega⟩
      have := HO2.out
      rw [List.replicate_succ']
      simpa [ints] using this
    · obtain rfl : k = n := by omega
      obtain ⟨w3, hw3⟩ : ∃ z, z = wr := ⟨_, rfl⟩
      subst hw3
      have hrd := rd_of_own hown
      have hW := absI_of HF.out
      have hsum : 0 < (List.replicate k x).sum := by
        rw [rep_sum]; exact Int.mul_pos (by omega) (by omega)
      have HS := Lib.hid hsum
      have HA := Lib.hid (rep_all x k (by omega) x2)
      clear hsum hown
      go_wp2_with fail
      refine (split_ok a (List.replicate k x) A k c _ w3 hrd (Nat.le_refl _) HF.out HA.out (by omega) HS.out).mono ?_
      rintro e w4 ⟨p, S, rfl, hp, hrow, hT, hb4⟩
      have HP := Lib.hid (fun j hj => rep_part (W := absI a) hW.1 (show 0 < x by omega) (by omega) hT j hj)
      have HB4 : Hid (Below w.heap.size w w4) := (HB1.out.trans (hbel.mono HB1.out.size)).trans (hb4.mono (Nat.le_trans HB1.out.size hsz))
      have hdiv := equal_div a k (by omega)
      obtain ⟨q, r, hq1, hq2, hq3, hr1, hr2, hr3, hr4, hs⟩ := hdiv
      have hbq : -1000000000000000 ≤ q ∧ q ≤ 1000000000000000 := by
        have := Int.ediv_le_self (a := absI a) (k : Int) hW.1
        have := Int.ediv_nonneg hW.1 (show (0 : Int) ≤ (k : Int) by omega)
        unfold signed at hs
        split at hs <;> omega
      have hrM : max r (-r) = absI a % k := hr3
      have hbr : -20 ≤ r ∧ r ≤ 20 := by
        have := Int.emod_lt_of_pos (absI a) (show (0 : Int) < k by omega)
        omega
      have HY : Hid (∀ j, j < k → signed (partOf (absI a) (List.replicate k x) S j) a = if (j : Int) < absI a % k then (if a < 0 then q - 1 else q + 1) else q) := by
        intro j hj
        rw [HP.out j hj, hs]
        unfold signed
        by_cases ha : a < 0
        · simp only [ha, if_true]; split <;> omega
        · simp only [ha, if_false]; split <;> omega
      have hk0 : ((k : Int) == 0) = false := by rw [beq_eq_false_iff_ne]; omega
      have hk1 : ¬ ((k : Int) = 0) := by omega
      clear hs HP hT hb4 hq3 hr4 hr3
      generalize absI a % (k : Int) = M at *
      go_wp2_with fail
      go_loopw [11] (fun iv wr => ∃ j : Nat, j ≤ k ∧ iv = .int .i64 j ∧ Drew w4 wr) (fun iv _ => k - (intOf iv).toNat)
      case atStart => exact ⟨0, Nat.zero_le _, rfl, Drew.refl _⟩
      case round =>
        obtain ⟨j, hj, rfl, t, rfl⟩ := hrel
        by_cases hjk : j < k
        · have hc := hrow.cell hjk
          rw [HY.out j hjk] at hc
          have hjI : (j : Int) < (k : Int) := by omega
          by_cases hjM : (j : Int) < M
          · by_cases ha : a < 0
            · rw [if_pos hjM, if_pos ha] at hc
              clear hq2 hr2
              have hneg : IntKind.i64.wrap (-r) = -r := by rw [IntKind.wrap_i64]; omega
              go_wp2_with fail
              go_quiet (fail)
              go_wp2
              exact ⟨⟨j + 1, by omega, by go_num, ⟨_, rfl⟩⟩, by simp [intOf]; omega⟩
            · have hq2' := hq2 (by omega)
              have hr2' := hr2 (by omega)
              rw [if_pos hjM, if_neg ha] at hc
              clear hq2 hr2
              have hneg : IntKind.i64.wrap (-r) = -r := by rw [IntKind.wrap_i64]; omega
              go_wp2_with fail
              go_quiet (fail)
              go_wp2
              exact ⟨⟨j + 1, by omega, by go_num, ⟨_, rfl⟩⟩, by simp [intOf]; omega⟩
          · rw [if_neg hjM] at hc
            have hq2' : 0 ≤ a → a / (k : Int) = q := hq2
            by_cases ha : a < 0
            · clear hq2 hr2 hq2'
              have hneg : IntKind.i64.wrap (-r) = -r := by rw [IntKind.wrap_i64]; omega
              go_wp2_with fail
              go_quiet (fail)
              go_wp2
              exact ⟨⟨j + 1, by omega, by go_num, ⟨_, rfl⟩⟩, by simp [intOf]; omega⟩
            · have hq3' := hq2 (by omega)
              have hr2' := hr2 (by omega)
              clear hq2 hr2 hq2'
              have hneg : IntKind.i64.wrap (-r) = -r := by rw [IntKind.wrap_i64]; omega
              go_wp2_with fail
              go_quiet (fail)
              go_wp2
              exact ⟨⟨j + 1, by omega, by go_num, ⟨_, rfl⟩⟩, by simp [intOf]; omega⟩
        · go_wp2
          go_ret
          exact ⟨rfl, HB4.out.trans (Drew.below ⟨_, rfl⟩)⟩
end Go.Proofs.Ytbjeikfekhgeoaa
