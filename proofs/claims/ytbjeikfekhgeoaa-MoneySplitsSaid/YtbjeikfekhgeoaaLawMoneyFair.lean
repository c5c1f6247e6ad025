/-
  The walk of the statement MoneyFair.
-/
-- HOLE: obtain ⟨hr, hm, _⟩ := rd_of_isRow w1
-- exact moneyFair_walk a0 _ a1 len1 cap1 w hr hm (bounds_i64 w0).1 (bounds_i64 w0).2
import Derived.Test.YtbjeikfekhgeoaaLawMoneyAdds
import Derived.Test.YtbjeikfekhgeoaaFairMath
namespace Go.Proofs.Ytbjeikfekhgeoaa
open Go.RowKit

set_option maxRecDepth 100000 in
set_option maxHeartbeats 1000000 in
theorem moneyFair_none (a : Int) (l : List Int) (A : Option Addr) (n c : Nat) (w : World) (h : Rd w w.heap.size 1 A n (ints .i64 l)) (hm : n ≤ maxLen) (hno : n ≤ 20 → splitOk a l = false) :
    Calls Try.prog 5 #[.int .i64 a, .slice A n c] w fun e w' => e = .returned (.bool true) ∧ Below w.heap.size w w' := by
  have HM := Lib.hid hm
  unfold maxLen at hm
  by_cases h20 : 20 < n
  · clear hno
    go_enter Try.func5, Try.ntmps5
    go_wp2_with fail
    refine (alive_any w).mono ?_
    rintro e w1 ⟨rfl, hb⟩
    go_wp2
    go_ret
    exact ⟨rfl, hb⟩
  · have HN := Lib.hid (hno (by omega))
    have h20' : n ≤ 20 := by omega
    clear hno h20
    go_enter Try.func5, Try.ntmps5
    go_wp2_with fail
    refine (alive_any w).mono ?_
    rintro e w1 ⟨rfl, hb1⟩
    go_wp2_with fail
    refine (split_bad a l A n c _ w1 (h.below hb1) HM.out HN.out).mono ?_
    rintro e w2 ⟨rfl, hb2⟩
    go_wp2
    go_ret
    exact ⟨rfl, hb1.trans (hb2.mono hb1.size)⟩

/-- What the statement's last test asks of one part. -/
theorem low_facts {W x T sh : Int} (hW0 : 0 ≤ W) (hW : W ≤ 1000000000000000) (hx0 : 0 ≤ x) (hx : x ≤ 1000000) (hT : 0 < T) (hxT : x ≤ T) (hT2 : T ≤ 20000000) (hsh : W / T * x + W % T * x / T = sh) (hs1 : sh ≤ W) (hs0 : 0 ≤ sh) :
    ∃ q r m1 m2 d : Int, W.tdiv T = q ∧ IntKind.i64.wrap q = q ∧ W.tmod T = r ∧ IntKind.i64.wrap (q * x) = m1 ∧ IntKind.i64.wrap (r * x) = m2 ∧ m2.tdiv T = d ∧ IntKind.i64.wrap d = d ∧ IntKind.i64.wrap (m1 + d) = sh := by
  have q0 : 0 ≤ W / T := Int.ediv_nonneg hW0 (by omega)
  have q1 : W / T ≤ W := Int.ediv_le_self _ hW0
  have r0 : 0 ≤ W % T := Int.emod_nonneg _ (by omega)
  have r1 : W % T < T := Int.emod_lt_of_pos _ hT
  have m10 : 0 ≤ W / T * x := Int.mul_nonneg q0 hx0
  have m20 : 0 ≤ W % T * x := Int.mul_nonneg r0 hx0
  have m21 : W % T * x ≤ 20000000 * x := Int.mul_le_mul_of_nonneg_right (by omega) hx0
  have d0 : 0 ≤ W % T * x / T := Int.ediv_nonneg m20 (by omega)
  have d1 : W % T * x / T ≤ W % T * x := Int.ediv_le_self _ m20
  refine ⟨W / T, W % T, W / T * x, W % T * x, W % T * x / T, Int.tdiv_eq_ediv_of_nonneg hW0, ?_, Int.tmod_eq_emod_of_nonneg hW0, ?_, ?_, Int.tdiv_eq_ediv_of_nonneg m20, ?_, ?_⟩
  all_goals rw [IntKind.wrap_i64]; omega

set_option maxRecDepth 100000 in
set_option maxHeartbeats 2000000 in
theorem moneyFair_walk (a : Int) (l : List Int) (A : Option Addr) (n c : Nat) (w : World) (h : Rd w w.heap.size 1 A n (ints .i64 l)) (hm : n ≤ maxLen) (ha1 : -9223372036854775808 ≤ a) (ha2 : a ≤ 9223372036854775807) :
    Calls Try.prog 5 #[.int .i64 a, .slice A n c] w fun e w' => e = .returned (.bool true) ∧ Below w.heap.size w w' := by
  by_cases hok : splitOk a l = true ∧ n ≤ 20
  case neg =>
    exact moneyFair_none a l A n c w h hm (fun h20 => by
      cases e : splitOk a l
      · rfl
      · exact absurd ⟨e, h20⟩ hok)
  obtain ⟨hok, h20⟩ := hok
  have HL := Lib.hid h.ints_len
  have hok' : fits1 a = true ∧ l.all wt1 = true ∧ 0 < l.sum := by
    simp only [splitOk, Bool.and_eq_true, decide_eq_true_eq] at hok
    exact ⟨hok.1.1.1, hok.1.2, hok.2⟩
  obtain ⟨hf, hall, hs⟩ := hok'
  obtain ⟨g1, g2⟩ := fits1_of hf
  obtain ⟨g3, g4⟩ := absI_of hf
  have HF := Lib.hid hf; have HA := Lib.hid hall; have HS := Lib.hid hs
  clear hf hall hs hok hm
  go_enter Try.func5, Try.ntmps5
  go_wp2_with fail
  refine (alive_any w).mono ?_
  rintro e w1 ⟨rfl, hb1⟩
  have hz1 := hb1.size
  have hr1 := h.below hb1
  go_wp2_with fail
  refine (split_ok a l A n c _ w1 hr1 hz1 HF.out HA.out h20 HS.out).mono ?_
  rintro e w2 ⟨p, S, rfl, hp, hrow, hT, hb2⟩
  have hz2 := hb2.size
  have hr2 := hr1.far hb2 hz1
  have HSUM : Hid (addV ((List.range n).map fun k => signed (partOf (absI a) l S k) a) = a ∧ addE ((List.range n).map fun k => signed (partOf (absI a) l S k) a) = 0) := by
    have hT' := hT
    rw [← HL.out] at hT'
    have hsum : ((List.range n).map fun k => signed (partOf (absI a) l S k) a).sum = a := by
      rw [range_sum, sumN_signed, ← HL.out, part_sum HA.out HS.out g3 hT', signed_abs]
    have hfit : fitsAll ((List.range n).map fun k => signed (partOf (absI a) l S k) a) = true := by
      unfold fitsAll
      rw [List.all_eq_true]
      intro x hx
      obtain ⟨k, hk, rfl⟩ := List.mem_map.1 hx
      have hk' : k < l.length := by have := HL.out; simpa [this] using hk
      have h1 := part_le HA.out HS.out g3 hT' k hk'
      have h2 := (part_bd HA.out HS.out g3 S k).1
      unfold fits1 signed; simp; split <;> omega
    unfold Hid addV addE
    rw [hsum, hfit, HF.out]; simp
  go_wp2_with fail
  refine (add_any _ _ n n _ w2 (hrow.rd (B := p + 1) (by omega)) (by omega)).mono ?_
  rintro e w3 ⟨rfl, hb3⟩
  rw [HSUM.out.1, HSUM.out.2]
  have hz3 := hb3.size
  have hpl := hrow.lt
  have hrow3 := hrow.below hb3 hpl
  have hr3 := hr2.far hb3 (by omega)
  have HB3 : Hid (Below w.heap.size w w3) := (hb1.trans (hb2.mono hz1)).trans (hb3.mono (by omega))
  have hmax : max a (-a) = absI a := by unfold absI; split <;> omega
  rw [← HL.out] at hT
  have HPM := Lib.hid (fun i k hi hk h => part_mono HA.out HS.out g3 hT i k hi hk h)
  have HPZ := Lib.hid (fun k hk h => part_zero HA.out HS.out g3 hT k hk h)
  have HPB := Lib.hid (fun k hk => part_le HA.out HS.out g3 hT k hk)
  have HP0 := Lib.hid (fun k => (part_bd HA.out HS.out g3 S k).1)
  have HPS : Hid (∀ k, shareOf (absI a) l k ≤ partOf (absI a) l S k ∧ partOf (absI a) l S k ≤ shareOf (absI a) l k + 1) := by
    intro k; unfold partOf; split <;> omega
  have HLS : Hid (∀ k, absI a / l.sum * l[k]?.getD 0 + absI a % l.sum * l[k]?.getD 0 / l.sum = shareOf (absI a) l k) := fun k => low_share HS.out _
  have HSB : Hid (∀ k, 0 ≤ shareOf (absI a) l k ∧ shareOf (absI a) l k ≤ absI a) := fun k => ⟨share_nonneg HA.out HS.out g3 k, share_le HA.out HS.out g3 k⟩
  clear HSUM hb1 hb2 hb3 hr1 hr2 hrow hT
  generalize absI a = W at *
  go_wp2_with fail
  go_loopw [10] (fun iv wr => ∃ j : Nat, j ≤ n ∧ iv = .int .i64 j ∧ Drew w3 wr) (fun iv _ => n - (intOf iv).toNat)
  case atStart => exact ⟨0, Nat.zero_le _, rfl, Drew.refl _⟩
  case round =>
    obtain ⟨j, hj, rfl, t, rfl⟩ := hrel
    by_cases hjn : j < n
    · obtain ⟨ad, rfl, hbk, hcx⟩ := hr3.int hjn
      have hcy := hrow3.cell hjn
      have hjl : j < l.length := by have := HL.out; omega
      have hxw := wt1_at HA.out j
      have hP0 := HP0.out j
      have hPW := HPB.out j hjl
      have hPS := HPS.out j
      have hSB := HSB.out j
      have hT2 : l.sum ≤ 20000000 := by
        have h1 := sumTo_bd HA.out l.length (Nat.le_refl _)
        rw [sumTo_all (Nat.le_refl _)] at h1
        have := HL.out; omega
      have hxT : l[j]?.getD 0 ≤ l.sum := by
        have := sumTo_mono HA.out j l.length hjl (Nat.le_refl _)
        rwa [sumTo_all (Nat.le_refl _)] at this
      obtain ⟨q, r, m1, m2, d, E1, E2, E3, E4, E5, E6, E7, E8⟩ := low_facts g3 g4 hxw.1 hxw.2 HS.out hxT hT2 (HLS.out j) hSB.2 hSB.1
      have HE1 := Lib.hid E1; have HE2 := Lib.hid E2; have HE3 := Lib.hid E3; have HE4 := Lib.hid E4
      have HE5 := Lib.hid E5; have HE6 := Lib.hid E6; have HE7 := Lib.hid E7; have HE8 := Lib.hid E8
      have HXY : Hid (l[j]?.getD 0 = 0 → signed (partOf W l S j) a = 0) := fun h => by
        rw [HPZ.out j hjl h]; unfold signed; split <;> rfl
      have HMX := Lib.hid (absI_signed (a := a) hP0)
      have hyb : -1000000000000000 ≤ signed (partOf W l S j) a ∧ signed (partOf W l S j) a ≤ 1000000000000000 := by unfold signed; split <;> omega
      have hsg : (signed (partOf W l S j) a < 0 → a < 0) ∧ (0 < signed (partOf W l S j) a → 0 ≤ a) := by unfold signed; split <;> omega
      have HMON : Hid (∀ k, k < n → l[k]?.getD 0 < l[j]?.getD 0 → partOf W l S k ≤ partOf W l S j) := fun k hk h => HPM.out j k hjl (by have := HL.out; omega) h
      have hjI : (j : Int) < (n : Int) := by omega
      clear E1 E2 E3 E4 E5 E6 E7 E8 hjl
      generalize signed (partOf W l S j) a = y at *
      generalize partOf W l S j = P at *
      generalize shareOf W l j = sh at *
      generalize l[j]?.getD 0 = x at *
      generalize eT : l.sum = T at *
      have HT := Lib.hid eT
      clear eT
      have hway : ((x == 0) = true ∧ (y != 0) = false ∧ decide (y < 0) = false ∧ decide (0 < y) = false ∧ 0 ≤ y ∧ y ≤ 0) ∨ ((x == 0) = false ∧ (y != 0) = false ∧ decide (y < 0) = false ∧ decide (0 < y) = false ∧ 0 ≤ y ∧ y ≤ 0) ∨
          ((x == 0) = false ∧ (y != 0) = true ∧ decide (y < 0) = true ∧ decide (0 < y) = false ∧ decide (0 < a) = false ∧ y < 0) ∨ ((x == 0) = false ∧ (y != 0) = true ∧ decide (y < 0) = false ∧ decide (0 < y) = true ∧ decide (a < 0) = false ∧ 0 < y) := by
        have hxy := HXY.out
        simp only [beq_iff_eq, beq_eq_false_iff_ne, bne_iff_ne, bne_eq_false_iff_eq, decide_eq_true_eq, decide_eq_false_iff_not]
        omega
      clear HXY HPZ HPB HP0 HPS HLS HSB HPM hsg
      rcases hway with ⟨b1, b2, b3, b4, b5, b6⟩ | ⟨b1, b2, b3, b4, b5, b6⟩ | ⟨b1, b2, b3, b4, b5, b6⟩ | ⟨b1, b2, b3, b4, b5, b6⟩
      all_goals
        go_wp2_with fail
        go_loopw [11] (fun iv wr => ∃ k : Nat, k ≤ n ∧ iv = .int .i64 k ∧ Drew w3 wr) (fun iv _ => n - (intOf iv).toNat)
        case atStart => exact ⟨0, Nat.zero_le _, rfl, ⟨_, rfl⟩⟩
        case round =>
          obtain ⟨k, hk, rfl, t2, rfl⟩ := hrel
          by_cases hkn : k < n
          · obtain ⟨ad2, ead, _, hcx2⟩ := hr3.int hkn
            obtain rfl : ad = ad2 := by injection ead
            have hcy2 := hrow3.cell hkn
            have hkI : (k : Int) < (n : Int) := by omega
            have hP02 := (part_bd HA.out (by rw [HT.out]; exact HS.out) g3 S k).1
            have hmk := HMON.out k hkn
            have hyb2 : Hid (-9000000000000000000 ≤ signed (partOf W l S k) a ∧ signed (partOf W l S k) a ≤ 9000000000000000000) := by
              have := (part_bd HA.out (by rw [HT.out]; exact HS.out) g3 S k).2
              unfold Hid signed; split <;> omega
            have HMX2 := Lib.hid (absI_signed (a := a) hP02)
            clear hP02
            generalize signed (partOf W l S k) a = z at *
            generalize partOf W l S k = P2 at *
            generalize l[k]?.getD 0 = x2 at *
            have hw1 : IntKind.i64.wrap (-y) = -y := by rw [IntKind.wrap_i64]; omega
            have hw2 : IntKind.i64.wrap (-z) = -z := by have := hyb2.out; rw [IntKind.wrap_i64]; omega
            have hM1 := HMX.out
            have hM2 := HMX2.out
            by_cases hxx : x2 < x
            · have hPP := hmk hxx
              clear hmk
              go_wp2_with fail
              go_quiet (fail)
              go_wp2
              exact ⟨⟨k + 1, by omega, by go_num, ⟨_, rfl⟩⟩, by simp [intOf]; omega⟩
            · have hd : decide (x2 < x) = false := by simpa using hxx
              clear hmk
              go_wp2_with fail
              go_quiet (fail)
              go_wp2
              exact ⟨⟨k + 1, by omega, by go_num, ⟨_, rfl⟩⟩, by simp [intOf]; omega⟩
          · go_wp2_with fail
            go_loop [13, 12] (fun iv tv => ∃ k : Nat, k ≤ n ∧ iv = .int .i64 k ∧ tv = .int .i64 (sumTo l k)) (fun iv _ => n - (intOf iv).toNat)
            case atStart => exact ⟨0, Nat.zero_le _, rfl, by rw [sumTo_zero]⟩
            case round =>
              obtain ⟨k3, hk3, rfl, rfl⟩ := hrel
              have hbd := sumTo_bd HA.out k3 (by have := HL.out; omega)
              by_cases hk3n : k3 < n
              · obtain ⟨ad2, ead, _, hcx3⟩ := hr3.int hk3n
                obtain rfl : ad = ad2 := by injection ead
                have HS3 := Lib.hid (sumTo_succ (l := l) (k := k3) (by have := HL.out; omega))
                have hx3 := wt1_at HA.out k3
                generalize l[k3]?.getD 0 = x3 at *
                have hkI : (k3 : Int) < (n : Int) := by omega
                go_wp2
                exact ⟨⟨k3 + 1, by omega, by go_num, by rw [HS3.out]⟩, by simp [intOf]; omega⟩
              · have e3 : sumTo l k3 = T := by rw [← HT.out]; exact sumTo_all (by have := HL.out; omega)
                rw [e3]
                clear e3 hbd
                have hw1 : IntKind.i64.wrap (-y) = -y := by rw [IntKind.wrap_i64]; omega
                have hM1 := HMX.out
                go_wp2_with fail
                go_quiet (fail)
                go_wp2_with fail
                have E1 := HE1.out; have E2 := HE2.out; have E3 := HE3.out; have E4 := HE4.out
                have E5 := HE5.out; have E6 := HE6.out; have E7 := HE7.out; have E8 := HE8.out
                have hT0 := HS.out
                have hT1 : (T == 0) = false := by rw [beq_eq_false_iff_ne]; omega
                have hT3 : ¬ T = 0 := by omega
                go_quiet (fail)
                go_wp2
                exact ⟨⟨j + 1, by omega, by go_num, ⟨_, rfl⟩⟩, by simp [intOf]; omega⟩
    · go_wp2
      go_ret
      exact ⟨rfl, HB3.out.trans (Drew.below ⟨_, rfl⟩)⟩
end Go.Proofs.Ytbjeikfekhgeoaa
