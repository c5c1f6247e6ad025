/-
  The statement TrialPicks.
-/
-- HOLE2: obtain ⟨fuel0, hf0⟩ := h0
-- obtain ⟨fuel1, hf1⟩ := h1
-- obtain ⟨fuel2, hf2⟩ := h2
-- obtain ⟨l0, q0⟩ := argAccs hf0
-- obtain ⟨l1, q1, b1, _, s1, _⟩ := argBals hf1
-- obtain ⟨l2, q2⟩ := argInts hf2
-- exact trialPicks_walk l0 l1 l2 a0 a1 a2 len0 len1 len2 cap0 cap1 cap2 W q0.rd q1 q2.ints q0.len b1 q2.len
import Derived.Test.YthjpknipnmagkaaGreatPickAny
import Derived.Test.YthjpknipnmagkaaGreatMany24
import Derived.Test.YthjpknipnmagkaaGreatTrialSet
import Derived.Test.YthjpknipnmagkaaGreatMany26
import Derived.Test.YthjpknipnmagkaaGreatMany27
import Derived.BigQuiet
namespace Go.Proofs.YthjpknipnmagkaaGreat
open Mo
open Go.RowKit

set_option maxRecDepth 100000 in
set_option maxHeartbeats 1000000 in
theorem refKind_any (l : List Acc) (x : Int) (A : Option Addr) (n c B : Nat) (w : World) (h : Rd w B 3 A n (accs l)) (hB : B ≤ w.heap.size) (hn : n ≤ 1000000) :
    Calls Tryz.prog 42 #[.slice A n c, .int .i64 x] w fun e w' => e = .returned (.int .i64 (kindA l x)) ∧ Below w.heap.size w w' := by
  have kg := refAccount_any l x A n c B w h hB hn
  unfold getV at kg
  unfold kindA
  clear h
  generalize (findA l x).getD acc0 = a at *
  generalize (findA l x).isSome = t at *
  obtain ⟨x1, x2, x3⟩ := a
  unfold Acc.val at kg
  go_enter Tryz.func42, Tryz.ntmps42
  go_wp2_with fail
  refine kg.mono ?_
  rintro e w2 ⟨rfl, hb⟩
  have hz := hb.size
  have HB := Lib.hid hb
  clear hb
  go_wp2
  go_ret
  refine ⟨rfl, ?_⟩
  first | exact HB.out.alloc (by omega) _ | exact (((HB.out.alloc (by omega) _).setCell (by simp; omega) _).setCell (by simp; omega) _).setCell (by simp; omega) _

/-- Is a kind one of those that are asked for? -/
def inK (k : Int) (K : List Int) : Bool := decide (0 < k) && K.contains k
theorem inK_step {k : Int} {K : List Int} {j : Nat} {y : Int} (h : K[j]? = some y) : inK k (K.take (j + 1)) = (inK k (K.take j) || (decide (0 < k) && (y == k))) := by
  obtain ⟨hj, rfl⟩ := List.getElem?_eq_some_iff.1 h
  unfold inK
  rw [List.take_succ_eq_append_getElem hj]
  by_cases h0 : 0 < k
  · rw [decide_eq_true h0]
    simp only [Bool.true_and]
    rw [Bool.eq_iff_iff]
    simp only [List.contains_iff_mem, Bool.or_eq_true, beq_iff_eq, List.mem_append, List.mem_singleton]
    exact ⟨fun h => h.elim .inl (fun e => .inr e.symm), fun h => h.elim .inl (fun e => .inr e.symm)⟩
  · rw [decide_eq_false h0]; rfl

set_option maxRecDepth 100000 in
set_option maxHeartbeats 16000000 in
theorem trialPicks_walk (rows : List Acc) (l : List Bal) (K : List Int) (A0 A1 A2 : Option Addr) (n0 n1 n2 c0 c1 c2 : Nat) (w : World) (h0 : Rd w w.heap.size 3 A0 n0 (accs rows)) (h1 : Rd w w.heap.size 2 A1 n1 (bals l)) (h2 : Rd w w.heap.size 1 A2 n2 (ints .i64 K)) (hm0 : n0 ≤ maxLen) (hm1 : n1 ≤ maxLen) (hm2 : n2 ≤ maxLen) :
    Calls Tryz.prog 6 #[.slice A0 n0 c0, .slice A1 n1 c1, .slice A2 n2 c2] w fun e w' => e = .returned (.bool true) ∧ Below w.heap.size w w' := by
  have KA : Hid (∀ w1, Calls Tryz.prog 30 #[] w1 fun e w' => e = .returned (.bool true) ∧ Below w1.heap.size w1 w') := alive10_any
  have HR0 : Hid (∀ w1, Below w.heap.size w w1 → Rd w1 w.heap.size 3 A0 n0 (accs rows)) := fun w1 hb => h0.far hb (Nat.le_refl _)
  have HR1 : Hid (∀ w1, Below w.heap.size w w1 → Rd w1 w.heap.size 2 A1 n1 (bals l)) := fun w1 hb => h1.far hb (Nat.le_refl _)
  have HR2 : Hid (∀ w1, Below w.heap.size w w1 → Rd w1 w.heap.size 1 A2 n2 (ints .i64 K)) := fun w1 hb => h2.far hb (Nat.le_refl _)
  have HL1 := Lib.hid h1.bals_len
  have HL2 := Lib.hid h2.ints_len
  have HM0 := Lib.hid hm0; have HM2 := Lib.hid hm2
  clear h0 h1 h2 hm0 hm2
  unfold maxLen at hm1
  by_cases hg1 : 40 < n1
  · have hgI : (40 : Int) < (n1 : Int) := by omega
    have ka := Lib.hid (KA.out w)
    go_enter Tryz.func6, Tryz.ntmps6
    go_wp2_with fail
    refine ka.out.mono ?_
    rintro e w2 ⟨rfl, hb2⟩
    have HB2 := Lib.hid hb2
    clear hb2
    go_wp2_with fail
    go_ret
    exact ⟨rfl, HB2.out⟩
  by_cases hg2 : 10 < n2
  · have hgI : ¬ (40 : Int) < (n1 : Int) := by omega
    have hgI2 : (10 : Int) < (n2 : Int) := by omega
    have ka := Lib.hid (KA.out w)
    go_enter Tryz.func6, Tryz.ntmps6
    go_wp2_with fail
    refine ka.out.mono ?_
    rintro e w2 ⟨rfl, hb2⟩
    have HB2 := Lib.hid hb2
    clear hb2
    go_wp2_with fail
    go_ret
    exact ⟨rfl, HB2.out⟩
  have hgI : ¬ (40 : Int) < (n1 : Int) := by omega
  have hgI2 : ¬ (10 : Int) < (n2 : Int) := by omega
  go_enter Tryz.func6, Tryz.ntmps6
  go_wp2_with fail
  refine (KA.out _).mono ?_
  rintro e w2 ⟨rfl, hb2⟩
  have HB2 := Lib.hid hb2
  have ks := trialSet_any rows [] A0 none n0 0 c0 0 w.heap.size w2 (HR0.out w2 hb2) ⟨Rd.nil_, fun a ha => (by cases ha), fun a ha => (by cases ha), fun a ha => (by cases ha)⟩ hb2.size HM0.out (by unfold maxLen; omega)
  have KS := Lib.hid ks
  clear hb2 ks KA
  go_wp2_with fail
  refine KS.out.mono ?_
  rintro e w3 ⟨cb, bb, Bc, Bb, vc, vb, C, lb, Ar, cr, Aj, cj, X, rfl, hC, _, _, _, _, hR, _, hG, hC30, hb3⟩
  have HC := Lib.hid hC; have HR := Lib.hid hR; have HG := Lib.hid hG
  have HB3 := Lib.hid (HB2.out.trans (hb3.mono HB2.out.size))
  obtain ⟨m, hm⟩ : ∃ m, C.length = m := ⟨_, rfl⟩
  rw [hm] at HR hC30 ⊢
  have HMC := Lib.hid hm
  have kl := Lib.hid (lentBalances_any l A1 n1 c1 w.heap.size w3 (HR1.out w3 HB3.out) (by omega))
  clear hC hR hG hb3 KS hm
  go_wp2_with fail
  refine kl.out.mono ?_
  rintro e w4 ⟨g, cap, rfl, hl4, hb4⟩
  have HL4 := Lib.hid hl4
  have HB4 := Lib.hid (HB3.out.trans (hb4.mono HB3.out.size))
  have HC4 := Lib.hid (HC.out.below hb4)
  have HR4 : Hid (Rd w4 w4.heap.size 3 Ar m (accs C)) := (HR.out.below hb4).wide hb4.size
  have hz4 := HB4.out.size
  clear hl4 hb4 kl HR HC
  go_wp2_with fail
  go_loopw [13, 14, 15] (fun sv av iv wr => ∃ k : Nat, k ≤ n1 ∧ iv = .int .i64 k ∧ (∃ B1 d1 B2 d2, sv = .slice B1 ((l.take k).filter fun x => inK (kindA C x.acct) K).length d1 ∧ av = .slice B2 ((l.take k).filter fun x => decide (0 < kindA C x.acct)).length d2 ∧
      wr.ownsRow w4.heap.size 99 2 (.slice B1 ((l.take k).filter fun x => inK (kindA C x.acct) K).length d1) ((l.take k).filter fun x => inK (kindA C x.acct) K).length (bals ((l.take k).filter fun x => inK (kindA C x.acct) K)) ∧
      wr.ownsRow w4.heap.size 99 2 (.slice B2 ((l.take k).filter fun x => decide (0 < kindA C x.acct)).length d2) ((l.take k).filter fun x => decide (0 < kindA C x.acct)).length (bals ((l.take k).filter fun x => decide (0 < kindA C x.acct))) ∧
      Hid (∀ q, (Value.slice B1 ((l.take k).filter fun x => inK (kindA C x.acct) K).length d1).ownBlock = some q → (Value.slice B2 ((l.take k).filter fun x => decide (0 < kindA C x.acct)).length d2).ownBlock ≠ some q)) ∧ Below w4.heap.size w4 wr) (fun _ _ iv _ => n1 - (intOf iv).toNat)
  case atStart => exact ⟨0, Nat.zero_le _, rfl, ⟨none, 0, none, 0, rfl, rfl, World.ownsRow_nil _ _ _ _, World.ownsRow_nil _ _ _ _, fun q hq => by cases hq⟩, Below.refl _ _⟩
  case round =>
    obtain ⟨k, hk, rfl, ⟨B1, d1, B2, d2, rfl, rfl, ho1, ho2, HNE⟩, hbel⟩ := hrel
    have hzr := hbel.size
    have HBE := Lib.hid hbel
    have hl1 := filter_len (p := fun x => inK (kindA C x.acct) K) l k
    have hl2 := filter_len (p := fun x => decide (0 < kindA C x.acct)) l k
    obtain ⟨M1, hM1⟩ : ∃ M, ((l.take k).filter fun x => inK (kindA C x.acct) K) = M := ⟨_, rfl⟩
    obtain ⟨M2, hM2⟩ : ∃ M, ((l.take k).filter fun x => decide (0 < kindA C x.acct)) = M := ⟨_, rfl⟩
    rw [hM1] at ho1 hl1 HNE ⊢
    rw [hM2] at ho2 hl2 HNE ⊢
    by_cases hlt : k < n1
    · obtain ⟨ad, x, rfl, hb0, hx, p0, p1⟩ := (HR1.out _ (HB4.out.trans (hbel.mono hz4))).bal hlt
      have p1' := cell_behind (j := 1) p1 (by omega)
      have hkI : (k : Int) < (n1 : Int) := by omega
      have HO1 := Lib.hid ho1; have HO2 := Lib.hid ho2
      have hY1 := filter_yes (p := fun x => inK (kindA C x.acct) K) hx
      have hN1 := filter_no (p := fun x => inK (kindA C x.acct) K) hx
      have hY2 := filter_yes (p := fun x => decide (0 < kindA C x.acct)) hx
      have hN2 := filter_no (p := fun x => decide (0 < kindA C x.acct)) hx
      rw [hM1] at hY1 hN1
      rw [hM2] at hY2 hN2
      have HY1 := Lib.hid hY1; have HN1 := Lib.hid hN1; have HY2 := Lib.hid hY2; have HN2 := Lib.hid hN2
      have KK := Lib.hid (refKind_any C x.acct Ar m cr w4.heap.size _ (HR4.out.below hbel) hzr (by omega))
      clear ho1 ho2 hx hbel p1 hY1 hN1 hY2 hN2 hM1 hM2
      obtain ⟨kk, hkk⟩ : ∃ kk, kindA C x.acct = kk := ⟨_, rfl⟩
      rw [hkk] at KK
      have HKK := Lib.hid hkk
      clear hkk
      obtain ⟨x1, x2⟩ := x
      dsimp only at *
      go_wp2_with fail
      refine KK.out.mono ?_
      rintro e w5 ⟨rfl, hb5⟩
      have HB5 := Lib.hid hb5
      have hz5 := hb5.size
      have P0 : Hid (w5.cell? (ad.add (k * 2)) = some (.int .i64 x1)) := by rw [Hid, hb5.cell (by rw [add_block]; omega)]; exact p0
      have P1 : Hid (w5.cell? ⟨(ad.add (k * 2)).block, (ad.add (k * 2)).off + 1, none⟩ = some (.int .i64 x2)) := by rw [Hid, hb5.cell (by show (ad.add (k * 2)).block < _; rw [add_block]; omega)]; exact p1'
      have HBW := Lib.hid (HB4.out.trans ((HBE.out.trans (hb5.mono hzr)).mono hz4))
      clear hb5 KK p0 p1'
      go_wp2_with fail
      go_loopw [17, 18] (fun zv jv wq => ∃ j : Nat, j ≤ n2 ∧ jv = .int .i64 j ∧ (∃ z, zv = .bool z ∧ Hid (inK kk (K.take j) = z)) ∧ wq = w5) (fun _ jv _ => n2 - (intOf jv).toNat)
      case atStart => exact ⟨0, Nat.zero_le _, rfl, ⟨false, rfl, by unfold inK; simp [Hid]⟩, rfl⟩
      case round =>
        obtain ⟨j, hj, rfl, ⟨z, rfl, HZ⟩, rfl⟩ := hrel
        by_cases hlt2 : j < n2
        · obtain ⟨ad2, y, rfl, hb20, hy, q0⟩ := (HR2.out _ HBW.out).intG hlt2
          have hjI : (j : Int) < (n2 : Int) := by omega
          have HST := Lib.hid (inK_step (k := kk) hy)
          clear hy
          cases z
          · by_cases h0 : 0 < kk
            · by_cases e1 : y = kk
              · have e1b : (y == kk) = true := by simpa using e1
                have HE : Hid (inK kk (K.take (j + 1)) = true) := by rw [Hid, HST.out, e1b, decide_eq_true h0]; simp
                have E1 := Lib.hid e1
                clear e1 HST
                go_wp2_with fail
                exact ⟨⟨j + 1, by omega, by go_num, ⟨_, rfl, HE⟩, by first | rfl | trivial⟩, by simp [intOf]; omega⟩
              · have e1b : (y == kk) = false := by simpa using e1
                have HE : Hid (inK kk (K.take (j + 1)) = false) := by rw [Hid, HST.out, e1b, decide_eq_true h0, HZ.out]; rfl
                have E1 := Lib.hid e1
                clear e1 HST
                go_wp2_with fail
                exact ⟨⟨j + 1, by omega, by go_num, ⟨_, rfl, HE⟩, by first | rfl | trivial⟩, by simp [intOf]; omega⟩
            · have HE : Hid (inK kk (K.take (j + 1)) = false) := by rw [Hid, HST.out, decide_eq_false h0, HZ.out]; rfl
              clear HST
              go_wp2_with fail
              exact ⟨⟨j + 1, by omega, by go_num, ⟨_, rfl, HE⟩, by first | rfl | trivial⟩, by simp [intOf]; omega⟩
          · have HE : Hid (inK kk (K.take (j + 1)) = true) := by rw [Hid, HST.out, HZ.out]; rfl
            clear HST
            go_wp2_with fail
            exact ⟨⟨j + 1, by omega, by go_num, ⟨_, rfl, HE⟩, by first | rfl | trivial⟩, by simp [intOf]; omega⟩
        · obtain rfl : j = n2 := by omega
          have HZ2 : Hid (inK kk K = z) := by
            have h := HZ.out
            rwa [List.take_of_length_le (by rw [HL2.out]; omega)] at h
          have hO1 := own_kept HO1.out fun q hq _ => HB5.out.block q hq
          have hO2 := own_kept HO2.out fun q hq _ => HB5.out.block q hq
          have hbase := Nat.le_trans hzr hz5
          have HBQ := Lib.hid (HBE.out.trans (HB5.out.mono hzr))
          clear HZ
          by_cases hk0 : 0 < kk
          · have F2 : Hid (((l.take (k + 1)).filter fun x => decide (0 < kindA C x.acct)) = M2 ++ [⟨x1, x2⟩]) := HY2.out (by show decide (0 < kindA C x1) = true; rw [HKK.out]; exact decide_eq_true hk0)
            have HLL2 : Hid ((M2 ++ [(⟨x1, x2⟩ : Bal)]).length = M2.length + 1) := by simp [Hid]
            cases z
            · have F1 : Hid (((l.take (k + 1)).filter fun x => inK (kindA C x.acct) K) = M1) := HN1.out (by show inK (kindA C x1) K = false; rw [HKK.out]; exact HZ2.out)
              obtain ⟨v8, w8, hrun8, hown8, hbut8, hb8, hp8⟩ := append_bal1 ⟨x1, x2⟩ hO2 hbase (by omega)
              have HNE8 : Hid (∀ q, (Value.slice B1 M1.length d1).ownBlock = some q → v8.ownBlock ≠ some q) := fun q hq e => by
                rcases hp8 with h | h
                · rw [h] at e; exact HNE.out q hq e
                · rw [h] at e
                  injection e with e
                  have := own_lt hO1 q hq
                  omega
              have HO18 := Lib.hid (own_kept hO1 fun q hq ho => hbut8.block q hq (HNE.out q ho))
              obtain ⟨A8, c8, rfl⟩ := own_form hown8
              have HO28 := Lib.hid hown8
              have HB8 : Hid (Below w4.heap.size w4 w8) := HBQ.out.trans hb8
              have p0 := P0.out; have p1' := P1.out
              dsimp only at hrun8
              clear hO1 hO2 hown8 hbut8 hb8 hp8
              go_wp2_with (at_builtin; refine Lib.wpList_append_run _ rfl _ _ _ _ rfl _ _ rfl rfl _ _ (hrun8 _) ?_)
              refine ⟨⟨k + 1, by omega, by go_num, ⟨B1, d1, A8, c8, ?_, ?_, ?_, ?_, ?_⟩, HB8.out⟩, by simp [intOf]; omega⟩
              · rw [F1.out]
              · rw [F2.out, HLL2.out]
              · rw [F1.out]; exact HO18.out
              · rw [F2.out, HLL2.out]; exact HO28.out
              · rw [F1.out, F2.out, HLL2.out]; exact HNE8
            · have F1 : Hid (((l.take (k + 1)).filter fun x => inK (kindA C x.acct) K) = M1 ++ [⟨x1, x2⟩]) := HY1.out (by show inK (kindA C x1) K = true; rw [HKK.out]; exact HZ2.out)
              have HLL1 : Hid ((M1 ++ [(⟨x1, x2⟩ : Bal)]).length = M1.length + 1) := by simp [Hid]
              obtain ⟨v7, w7, hrun7, hown7, hbut7, hb7, hp7⟩ := append_bal1 ⟨x1, x2⟩ hO1 hbase (by omega)
              have HNE7 : Hid (∀ q, v7.ownBlock = some q → (Value.slice B2 M2.length d2).ownBlock ≠ some q) := fun q hq e => by
                rcases hp7 with h | h
                · rw [h] at hq; exact HNE.out q hq e
                · rw [h] at hq
                  injection hq with hq
                  have := own_lt hO2 q e
                  omega
              have hO27 := own_kept hO2 fun q hq ho => hbut7.block q hq (fun e => HNE.out q e ho)
              obtain ⟨A7, c7, rfl⟩ := own_form hown7
              have hz7 := hb7.size
              have hbase7 : w4.heap.size ≤ w7.heap.size := by have := hbut7.size; omega
              have p07 : w7.cell? (ad.add (k * 2)) = some (.int .i64 x1) := by rw [hb7.cell (by rw [add_block]; omega)]; exact P0.out
              have p17 : w7.cell? ⟨(ad.add (k * 2)).block, (ad.add (k * 2)).off + 1, none⟩ = some (.int .i64 x2) := by rw [hb7.cell (by show (ad.add (k * 2)).block < _; rw [add_block]; omega)]; exact P1.out
              obtain ⟨v8, w8, hrun8, hown8, hbut8, hb8, hp8⟩ := append_bal1 ⟨x1, x2⟩ hO27 hbase7 (by omega)
              have HNE8 : Hid (∀ q, (Value.slice A7 (M1.length + 1) c7).ownBlock = some q → v8.ownBlock ≠ some q) := fun q hq e => by
                rcases hp8 with h | h
                · rw [h] at e; exact HNE7.out q hq e
                · rw [h] at e
                  injection e with e
                  have := own_lt hown7 q hq
                  omega
              have HO18 := Lib.hid (own_kept hown7 fun q hq ho => hbut8.block q hq (HNE7.out q ho))
              obtain ⟨A8, c8, rfl⟩ := own_form hown8
              have HO28 := Lib.hid hown8
              have HB8 : Hid (Below w4.heap.size w4 w8) := (HBQ.out.trans hb7).trans hb8
              have p0 := P0.out; have p1' := P1.out
              dsimp only at hrun7 hrun8
              clear hO1 hO2 hO27 hown7 hown8 hbut7 hbut8 hb7 hb8 hp7 hp8
              go_wp2_with (at_builtin; first | (refine Lib.wpList_append_run _ rfl _ _ _ _ rfl _ _ rfl rfl _ _ (hrun7 _) ?_; clear hrun7) | refine Lib.wpList_append_run _ rfl _ _ _ _ rfl _ _ rfl rfl _ _ (hrun8 _) ?_)
              refine ⟨⟨k + 1, by omega, by go_num, ⟨A7, c7, A8, c8, ?_, ?_, ?_, ?_, ?_⟩, HB8.out⟩, by simp [intOf]; omega⟩
              · rw [F1.out, HLL1.out]
              · rw [F2.out, HLL2.out]
              · rw [F1.out, HLL1.out]; exact HO18.out
              · rw [F2.out, HLL2.out]; exact HO28.out
              · rw [F1.out, F2.out, HLL1.out, HLL2.out]; exact HNE8
          · have hzf : z = false := by
              have h := HZ2.out
              unfold inK at h
              rw [decide_eq_false hk0] at h
              exact h.symm
            subst hzf
            have F2 : Hid (((l.take (k + 1)).filter fun x => decide (0 < kindA C x.acct)) = M2) := HN2.out (by show decide (0 < kindA C x1) = false; rw [HKK.out]; exact decide_eq_false hk0)
            have F1 : Hid (((l.take (k + 1)).filter fun x => inK (kindA C x.acct) K) = M1) := HN1.out (by show inK (kindA C x1) K = false; rw [HKK.out]; exact HZ2.out)
            have HO18 := Lib.hid hO1; have HO28 := Lib.hid hO2
            clear hO1 hO2
            go_wp2_with fail
            refine ⟨⟨k + 1, by omega, by go_num, ⟨B1, d1, B2, d2, ?_, ?_, ?_, ?_, ?_⟩, HBQ.out⟩, by simp [intOf]; omega⟩
            · rw [F1.out]
            · rw [F2.out]
            · rw [F1.out]; exact HO18.out
            · rw [F2.out]; exact HO28.out
            · rw [F1.out, F2.out]; exact HNE
    · have hkn : k = n1 := by omega
      have htk : l.take k = l := List.take_of_length_le (by rw [HL1.out]; omega)
      rw [htk] at hM1 hM2
      have e1 : M1 = pickB (kindL C K) l := by
        rw [← hM1]
        unfold pickB
        congr 1
        funext x
        rw [kindL_contains HG.out]
        rfl
      have e2 : M2 = pickB (kindL C [1, 2, 3, 4, 5]) l := by
        rw [← hM2]
        unfold pickB
        congr 1
        funext x
        rw [kindL_all5 HG.out]
      have hBW := HB4.out.trans (hbel.mono hz4)
      have HBW := Lib.hid hBW
      have HLn := HL4.out.below hbel
      have HRL := HLn.rd
      rw [HL1.out] at HRL
      have HRM := Lib.hid HRL
      have kk1 := (kind_any Bc cb vc C K A2 n2 c2 w.heap.size _ (HC4.out.below hbel) (HR2.out _ hBW) hBW.size (by omega)).mono fun e w' hh => (show ∃ A' c', e = .returned (.slice A' (kindL C K).length c') ∧ Rd w' w'.heap.size 1 A' (kindL C K).length (ints .i64 (kindL C K)) ∧ Below _ _ w' by
        obtain ⟨A', c', he, hown, hb⟩ := hh
        exact ⟨A', c', he, rd_of_own hown, hb⟩)
      have hkc : ∀ q, (kindL C q).length ≤ 10000 := fun q => Nat.le_trans (kindL_len C q) (by rw [HMC.out]; omega)
      have kp1 := Lib.hid (pick_any (.pointer (some ⟨cb, 0, none⟩)) (.inr ⟨_, rfl⟩) l (kindL C K) (some ⟨g, 0, none⟩) A2 n1 cap n2 c2 _ _ HRL (Nat.le_refl _) (by omega) kk1 (kindL_rise HG.out K) (hkc K))
      have HCW := Lib.hid (HC4.out.below hbel)
      have HLW := Lib.hid HLn
      have HKC := Lib.hid hkc
      have HW1 : Hid (Rd _ _ 2 B1 M1.length (bals M1)) := rd_of_own ho1
      have HW2 : Hid (Rd _ _ 2 B2 M2.length (bals M2)) := rd_of_own ho2
      have hql : M1.length ≤ 1000000 := by omega
      have hql2 : M2.length ≤ 1000000 := by omega
      rw [← e1] at kp1
      have HE2 := Lib.hid e2
      clear ho1 ho2 hM1 hM2 e1 e2 htk hbel hBW HLn HRL kk1 hkc HNE hl1 hl2
      go_wp2_with fail
      refine kp1.out.mono ?_
      rintro e w6 ⟨A6, d6, rfl, hown6, hb6⟩
      have HB6 := Lib.hid (HBW.out.trans (hb6.mono HBW.out.size))
      have HR6 : Hid (Rd w6 w6.heap.size 2 A6 M1.length (bals M1)) := rd_of_own hown6
      have HW16 := Lib.hid ((HW1.out.below hb6).wide hb6.size)
      have HW26 := Lib.hid ((HW2.out.below hb6).wide hb6.size)
      have HC6 := Lib.hid (HCW.out.below hb6)
      have HL6 := Lib.hid (HLW.out.below hb6)
      have ks1 := sameBalances_any M1 M1 A6 B1 M1.length M1.length d6 d1 w6.heap.size w6.heap.size w6 HR6.out HW16.out hql hql
      rw [show (M1 == M1) = true from beq_self_eq_true M1] at ks1
      have KS1 := Lib.hid ks1
      clear hown6 hb6 kp1 ks1 HCW HLW HW1 HW2
      go_wp2_with fail
      refine KS1.out.mono ?_
      rintro e w7 ⟨rfl, hd⟩
      have hb7 : Below w6.heap.size w6 w7 := hd.below
      obtain ⟨W8, hW8⟩ : ∃ W8, w7.alloc (.cells #[.int .i64 1, .int .i64 2, .int .i64 3, .int .i64 4, .int .i64 5] 3) = W8 := ⟨_, rfl⟩
      have hb78 : Below w7.heap.size w7 W8 := by rw [← hW8]; exact (Below.refl _ _).alloc (Nat.le_refl _) _
      have hb8 : Below w6.heap.size w6 W8 := hb7.trans (hb78.mono hb7.size)
      have hb8w := HB6.out.trans (hb8.mono HB6.out.size)
      have HB8 := Lib.hid hb8w
      have hr8 : Rd W8 W8.heap.size 1 (some ⟨w7.heap.size, 0, none⟩) 5 (ints .i64 [1, 2, 3, 4, 5]) := by
        rw [← hW8]
        exact Rd.wide (B := w7.heap.size + 1) ⟨rfl, fun _ => ⟨_, rfl, by simp, cells_new w7 (ints .i64 [1, 2, 3, 4, 5]) 3⟩⟩ (by simp)
      have HC8 := Lib.hid (HC6.out.below hb8)
      have HL8 := Lib.hid (HL6.out.below hb8)
      have HW28 := Lib.hid ((HW26.out.below hb8).wide hb8.size)
      have hrl8 := HL8.out.rd
      rw [HL1.out] at hrl8
      have kk2 := (kind_any Bc cb vc C [1, 2, 3, 4, 5] (some ⟨w7.heap.size, 0, none⟩) 5 5 W8.heap.size W8 HC8.out hr8 (Nat.le_refl _) (by omega)).mono fun e w' hh => (show ∃ A' c', e = .returned (.slice A' (kindL C [1, 2, 3, 4, 5]).length c') ∧ Rd w' w'.heap.size 1 A' (kindL C [1, 2, 3, 4, 5]).length (ints .i64 (kindL C [1, 2, 3, 4, 5])) ∧ Below _ _ w' by
        obtain ⟨A', c', he, hown, hb⟩ := hh
        exact ⟨A', c', he, rd_of_own hown, hb⟩)
      have kp2 := pick_any (.pointer (some ⟨cb, 0, none⟩)) (.inr ⟨_, rfl⟩) l (kindL C [1, 2, 3, 4, 5]) (some ⟨g, 0, none⟩) (some ⟨w7.heap.size, 0, none⟩) n1 cap 5 5 _ W8 hrl8 (Nat.le_refl _) (by omega) kk2 (kindL_rise HG.out _) (HKC.out _)
      rw [← HE2.out] at kp2
      have KP2 := Lib.hid kp2
      have HW8 := Lib.hid hW8
      clear hd hb7 hb78 hb8 hb8w hr8 hrl8 kk2 kp2 KS1 hW8 HC6 HL6 HW26 HW16 HR6
      go_wp2_with fail
      rw [HW8.out]
      refine KP2.out.mono ?_
      rintro e w9 ⟨A9, d9, rfl, hown9, hb9⟩
      have HB9 := Lib.hid (HB8.out.trans (hb9.mono HB8.out.size))
      have HR9 : Hid (Rd w9 w9.heap.size 2 A9 M2.length (bals M2)) := rd_of_own hown9
      have HW29 := Lib.hid ((HW28.out.below hb9).wide hb9.size)
      have HL9 := Lib.hid (HL8.out.below hb9)
      have ks2 := sameBalances_any M2 M2 A9 B2 M2.length M2.length d9 d2 w9.heap.size w9.heap.size w9 HR9.out HW29.out hql2 hql2
      rw [show (M2 == M2) = true from beq_self_eq_true M2] at ks2
      have KS2 := Lib.hid ks2
      clear hown9 hb9 ks2 KP2 HC8 HL8 HW28
      go_wp2_with fail
      refine KS2.out.mono ?_
      rintro e w10 ⟨rfl, hd⟩
      have hb10 : Below w9.heap.size w9 w10 := hd.below
      obtain ⟨W11, hW11⟩ : ∃ W11, w10.alloc (.cells #[.int .i64 1, .int .i64 2, .int .i64 3] 3) = W11 := ⟨_, rfl⟩
      have hb1011 : Below w10.heap.size w10 W11 := by rw [← hW11]; exact (Below.refl _ _).alloc (Nat.le_refl _) _
      have hb11 : Below w9.heap.size w9 W11 := hb10.trans (hb1011.mono hb10.size)
      have hb11w := HB9.out.trans (hb11.mono HB9.out.size)
      have HB11 := Lib.hid hb11w
      have HL11 := Lib.hid (HL9.out.below hb11)
      have hrl11 := HL11.out.rd
      rw [HL1.out] at hrl11
      have kk3 : KindTo (.pointer none) (some ⟨w10.heap.size, 0, none⟩) 3 3 [] W11 := (kind_nil (some ⟨w10.heap.size, 0, none⟩) 3 3 W11).mono (by
        rintro e w' ⟨rfl, rfl⟩
        exact ⟨none, 0, rfl, Rd.nil_, Below.refl _ _⟩)
      have kp3 := pick_any (.pointer none) (.inl rfl) l [] (some ⟨g, 0, none⟩) (some ⟨w10.heap.size, 0, none⟩) n1 cap 3 3 _ W11 hrl11 (Nat.le_refl _) (by omega) kk3 List.Pairwise.nil (by simp)
      rw [show pickB [] l = [] by unfold pickB; simp] at kp3
      have KP3 := Lib.hid kp3
      have HW11 := Lib.hid hW11
      clear hd hb10 hb1011 hb11 hb11w hrl11 kk3 kp3 KS2 hW11 HL9 HW29 HR9
      go_wp2_with fail
      rw [HW11.out]
      refine KP3.out.mono ?_
      rintro e w12 ⟨A12, d12, rfl, _, hb12⟩
      have HB12 := Lib.hid (HB11.out.trans (hb12.mono HB11.out.size))
      have kst := staysBalances_any l l A1 n1 n1 c1 _ w.heap.size g cap w12 (HL11.out.below hb12) HL1.out (HR1.out w12 HB12.out) (by omega) (by omega)
      rw [show (l == l) = true from beq_self_eq_true l] at kst
      have KST := Lib.hid kst
      clear hb12 KP3 HL11 kst
      go_wp2_with fail
      refine KST.out.mono ?_
      rintro e w13 ⟨rfl, hd⟩
      have HB13 : Hid (Below w.heap.size w w13) := HB12.out.trans (hd.below.mono HB12.out.size)
      clear hd
      go_wp2_with fail
      go_ret
      exact ⟨rfl, HB13.out⟩
end Go.Proofs.YthjpknipnmagkaaGreat

