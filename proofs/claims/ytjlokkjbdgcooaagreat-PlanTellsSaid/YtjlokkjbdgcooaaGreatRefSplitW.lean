/-
  Contract of the document's own Split: the walk.
-/
import Derived.Test.YtjlokkjbdgcooaaGreatMany21
import Derived.RegionTactic
namespace Go.Proofs.YtjlokkjbdgcooaaGreat.Mo
open Go.RowKit

theorem share_start (W : Int) (l : List Int) (n t : Nat) (w : World) : ShareRel W l n w.heap.size (w.heap.size + 1) w 0 (((w.alloc (.cells (madeCells #[.int .i64 0] n) 3)).alloc (.cells (madeCells #[.int .i64 0] n) 3)).drewN t) ∧
    ShareRel W l n (w.heap.size + 1) w.heap.size w 0 (((w.alloc (.cells (madeCells #[.int .i64 0] n) 3)).alloc (.cells (madeCells #[.int .i64 0] n) 3)).drewN t) := by
  have h1 : NRow 3 .i64 (((w.alloc (.cells (madeCells #[.int .i64 0] n) 3)).alloc (.cells (madeCells #[.int .i64 0] n) 3)).drewN t) w.heap.size n (fun _ => 0) :=
    (NRow.new w _ _ n).kept (Below.heap_alloc _ _ _ (by simp))
  have h2 : NRow 3 .i64 (((w.alloc (.cells (madeCells #[.int .i64 0] n) 3)).alloc (.cells (madeCells #[.int .i64 0] n) 3)).drewN t) (w.heap.size + 1) n (fun _ => 0) := by
    have := NRow.new (w.alloc (.cells (madeCells #[.int .i64 0] n) 3)) 3 .i64 n
    have h3 : NRow 3 .i64 ((w.alloc (.cells (madeCells #[.int .i64 0] n) 3)).alloc (.cells (madeCells #[.int .i64 0] n) 3)) (w.heap.size + 1) n (fun _ => 0) := by simpa using this
    exact h3
  have hb : Below w.heap.size w (((w.alloc (.cells (madeCells #[.int .i64 0] n) 3)).alloc (.cells (madeCells #[.int .i64 0] n) 3)).drewN t) := below_drewN (((Below.refl _ _).alloc (Nat.le_refl _) _).alloc (by simp) _) t
  exact ⟨⟨⟨h1.congr fun j _ => by simp, h2.congr fun j _ => by simp, by omega⟩, hb, Nat.le_refl _, by omega⟩, ⟨⟨h2.congr fun j _ => by simp, h1.congr fun j _ => by simp, by omega⟩, hb, by omega, Nat.le_refl _⟩⟩

/-- Behind r rounds of the last loop: the first r have the other sign. -/
def NegRel (n o : Nat) (f : Nat → Int) (w0 : World) (r : Nat) (wr : World) : Prop := NRow 3 .i64 wr o n (fun j => if j < r then -f j else f j) ∧ Below w0.heap.size w0 wr ∧ w0.heap.size ≤ o
theorem neg_step {n o r : Nat} {f : Nat → Int} {w0 wr : World} (h : NegRel n o f w0 r wr) : NegRel n o f w0 (r + 1) (wr.setCell ⟨o, r, none⟩ (.int .i64 (-f r))) := by
  obtain ⟨h1, h2, h3⟩ := h
  refine ⟨(h1.set r (-f r)).congr fun j _ => ?_, h2.setCell h3 _, h3⟩
  by_cases e : j = r
  · subst e; simp
  · rw [if_neg e]
    by_cases h6 : j < r
    · rw [if_pos h6, if_pos (by omega)]
    · rw [if_neg h6, if_neg (by omega)]

set_option maxRecDepth 100000 in
set_option maxHeartbeats 2000000 in
theorem refSplit_ok (a : Int) (l : List Int) (A : Option Addr) (n c B : Nat) (w : World) (h : Rd w B 1 A n (ints .i64 l)) (hB : B ≤ w.heap.size) (hf : fits1 a = true) (hall : l.all wt1 = true) (hn : n ≤ 20) (hs : 0 < l.sum) :
    Calls Tryz.prog 52 #[.int .i64 a, .slice A n c] w (SplitPost a l n w) := by
  have hl := Lib.hid h.ints_len
  have hn1 : 1 ≤ n := by
    have := hl.out
    rcases l with _ | ⟨x, r⟩
    · simp at hs
    · simp at this; omega
  obtain ⟨g1, g2⟩ := fits1_of hf
  obtain ⟨g3, g4⟩ := absI_of hf
  have HF := Lib.hid hf; have HA := Lib.hid hall; have HS := Lib.hid hs
  have hmax : max a (-a) = absI a := by unfold absI; split <;> omega
  have hmk := fun W => make_row (P := Tryz.prog) (q := .i64) (k := .i64) (n := n) infoInt Tryz.underlying22 (by omega) W
  clear hf hall hs
  go_enter Tryz.func52, Tryz.ntmps52
  go_wp2_with fail
  refine (refFits_any a w).mono ?_
  rintro e w' ⟨rfl, rfl⟩
  rw [HF.out]
  go_wp2_with fail
  go_loop [7, 6] (fun i t => ∃ k : Nat, k ≤ n ∧ i = .int .i64 k ∧ t = .int .i64 (sumTo l k)) (fun i _ => n - (intOf i).toNat)
  case atStart => exact ⟨0, Nat.zero_le _, rfl, by rw [sumTo_zero]⟩
  case round =>
    obtain ⟨k, hk, rfl, rfl⟩ := hrel
    have hbd := sumTo_bd HA.out k (by have := hl.out; omega)
    by_cases hlt : k < n
    · obtain ⟨ad, rfl, hb, hc⟩ := h.int hlt
      have HS := Lib.hid (sumTo_succ (l := l) (k := k) (by have := hl.out; omega))
      have hx := wt1_at HA.out k
      generalize l[k]?.getD 0 = x at *
      have hkI : (k : Int) < (n : Int) := by omega
      go_wp2
      exact ⟨⟨k + 1, by omega, by go_num, by rw [HS.out]⟩, by simp [intOf]; omega⟩
    · obtain rfl : k = n := by omega
      have hsum : sumTo l k = l.sum := sumTo_all (by have := hl.out; omega)
      rw [hsum] at hbd ⊢
      clear hsum
      have HSH := Lib.hid (fun q => shares_le HA.out HS.out g3 q)
      have HSN := Lib.hid (fun q => share_nonneg HA.out HS.out g3 q)
      have HSL := Lib.hid (fun q => share_le HA.out HS.out g3 q)
      have HLS : Hid (∀ q, absI a / l.sum * l[q]?.getD 0 + absI a % l.sum * l[q]?.getD 0 / l.sum = shareOf (absI a) l q) := fun q => low_share HS.out _
      have HLB : Hid (0 ≤ leftOf (absI a) l k ∧ leftOf (absI a) l k < (k : Int)) := by
        have := left_bd HA.out HS.out g3
        rw [hl.out] at this
        exact this
      have HPP : Hid (∀ S q, 0 ≤ partOf (absI a) l S q ∧ partOf (absI a) l S q ≤ absI a + 1) := fun S q => part_bd HA.out HS.out g3 S q
      have HBI : Hid (∀ S (i b : Nat), Taken (restOf (absI a) l) k i S → i < k → BestTo (cutOf (absI a) l S) k b → IsBest (restOf (absI a) l) k S b) := fun S i b h1 h2 h3 => bestTo_isBest HS.out h1 h2 h3
      have HCB : Hid (∀ S q, -1 ≤ cutOf (absI a) l S q ∧ cutOf (absI a) l S q ≤ 20000000) := by
        intro S q
        have := rest_bd (W := absI a) HS.out q
        unfold cutOf; split <;> omega
      have hT1 : (l.sum == 0) = false := by rw [beq_eq_false_iff_ne]; have := HS.out; omega
      have hT0 := HS.out
      generalize hWW : absI a = W at *
      have HW := Lib.hid hWW
      clear hWW
      have e1 : W.tdiv l.sum = W / l.sum := Int.tdiv_eq_ediv_of_nonneg g3
      have e2 : W.tmod l.sum = W % l.sum := Int.tmod_eq_emod_of_nonneg g3
      have e3 : IntKind.i64.wrap (W / l.sum) = W / l.sum := by
        have := Int.ediv_le_self l.sum g3
        have := Int.ediv_nonneg g3 (show 0 ≤ l.sum by omega)
        rw [IntKind.wrap_i64]; omega
      have hT3 : ¬ l.sum = 0 := by omega
      have HE : Hid (∀ q, q < k → ∃ m1 m2 d : Int, IntKind.i64.wrap (W / l.sum * l[q]?.getD 0) = m1 ∧ IntKind.i64.wrap (W % l.sum * l[q]?.getD 0) = m2 ∧ m2.tdiv l.sum = d ∧ IntKind.i64.wrap d = d ∧ IntKind.i64.wrap (m1 + d) = shareOf W l q ∧ m2.tmod l.sum = (restOf W l q).2 ∧ 0 ≤ m2 ∧ m2 % l.sum = (restOf W l q).2) := by
        intro q hq
        have hx := wt1_at HA.out q
        have hxT : l[q]?.getD 0 ≤ l.sum := by
          have := sumTo_mono HA.out q l.length (by have := hl.out; omega) (Nat.le_refl _)
          rwa [sumTo_all (Nat.le_refl _)] at this
        obtain ⟨q', r', m1, m2, d, E1, E2, E3, E4, E5, E6, E7, E8⟩ := low_facts g3 g4 hx.1 hx.2 HS.out hxT (by omega) (HLS.out q) (HSL.out q) (HSN.out q)
        rw [e1] at E1
        rw [e2] at E3
        subst E1 E3
        have hm0 : 0 ≤ W % l.sum * l[q]?.getD 0 := Int.mul_nonneg (Int.emod_nonneg _ (by omega)) hx.1
        have hm1 : W % l.sum * l[q]?.getD 0 ≤ 20000000 * l[q]?.getD 0 := Int.mul_le_mul_of_nonneg_right (by have := Int.emod_lt_of_pos W HS.out; omega) hx.1
        have em2 : m2 = W % l.sum * l[q]?.getD 0 := by rw [← E5, IntKind.wrap_i64]; omega
        have er : m2 % l.sum = (restOf W l q).2 := by rw [em2, restOf_mod]; rfl
        exact ⟨m1, m2, d, E4, E5, E6, E7, E8, by rw [Int.tmod_eq_emod_of_nonneg (by omega)]; exact er, by omega, er⟩
      generalize W / l.sum = q0 at *
      generalize W % l.sum = r0 at *
      have e3' : wrap64 q0 = q0 := by
        have := e3
        rw [IntKind.wrap_i64] at this
        unfold wrap64; omega
      clear HLS HSL
      go_wp2_with fail
      go_quiet (fail)
      go_wp2_with fail
      go_region
      · have HR := Lib.hid (share_start W l k (nq + 1) w).1
        clear e1 e2 hmk
        obtain ⟨o, ho⟩ : ∃ o, o = w.heap.size := ⟨_, rfl⟩
        obtain ⟨cc, hcc⟩ : ∃ cc, cc = w.heap.size + 1 := ⟨_, rfl⟩
        rw [← hcc] at HR ⊢
        clear ho hcc
        go_wp2_with fail
        go_loopw [14, 13] (fun iv lv wr => ∃ q : Nat, q ≤ k ∧ iv = .int .i64 q ∧ lv = .int .i64 (W - sumN (shareOf W l) q) ∧ ShareRel W l k w.heap.size cc w q wr) (fun iv _ _ => k - (intOf iv).toNat)
        case atStart => exact ⟨0, Nat.zero_le _, rfl, by simp [sumN], HR.out⟩
        case round =>
          obtain ⟨q, hq, rfl, rfl, hrel1⟩ := hrel
          have hb1 := HSH.out q (by have := hl.out; omega)
          have hb0 : 0 ≤ sumN (shareOf W l) q := sumN_nonneg fun j _ => HSN.out j
          by_cases hqk : q < k
          · have HRR := Lib.hid hrel1
            obtain ⟨⟨ho, hc, hne⟩, hbel, hgo, hgc⟩ := hrel1
            obtain ⟨ad, rfl, hbad, hcx⟩ := (h.far hbel hB).int hqk
            obtain ⟨m1, m2, d, E1, E2, E3, E4, E5, E6, E7, E8⟩ := HE.out q hqk
            have hb2 := HSH.out (q + 1) (by have := hl.out; omega)
            have hb3 := HSN.out q
            have HB4 : Hid (sumN (shareOf W l) (q + 1) = sumN (shareOf W l) q + shareOf W l q) := rfl
            rw [HB4.out] at hb2
            have hqI : (q : Int) < (k : Int) := by omega
            obtain ⟨y1, hy1⟩ : ∃ y, wr.cell? ⟨w.heap.size, q, none⟩ = some (.int .i64 y) := ⟨_, ho.cell hqk⟩
            obtain ⟨y2, hy2⟩ : ∃ y, wr.cell? ⟨cc, q, none⟩ = some (.int .i64 y) := ⟨_, hc.cell hqk⟩
            have hfo := ho.warm q
            have hfc := hc.warm q
            have hne' : ¬ cc = w.heap.size := fun e => hne e.symm
            have hao : ad.block < w.heap.size := by omega
            have hac : ad.block < cc := by omega
            have hcx2 : ∀ v, (wr.setCell ⟨w.heap.size, q, none⟩ v).cell? (ad.add q) = some (.int .i64 (l[q]?.getD 0)) := fun v => (World.cell?_of_block (Below.heap_setCell wr ⟨w.heap.size, q, none⟩ v _ (by rw [add_block]; show ad.block ≠ w.heap.size; omega))).trans hcx
            go_wp2_with fail
            go_still_tail 18, (by kernel_rfl)
            go_wp2
            exact ⟨⟨q + 1, by omega, by go_num, by rw [HB4.out]; go_num, (share_step (t := 0) HRR.out).drew⟩, by simp [intOf]; omega⟩
          · obtain rfl : q = k := by omega
            have HH := Lib.hid (hand_start hrel1)
            have hL : W - sumN (shareOf W l) q = leftOf W l q := rfl
            have hLb := HLB.out
            rw [hL]
            clear hL hb1 hb0 hrel1
            generalize hLL : leftOf W l q = L at *
            have HLL := Lib.hid hLL
            clear hLL
            go_wp2_with fail
            go_loopw [13] (fun lv wr => ∃ i : Nat, (i : Int) ≤ L ∧ lv = .int .i64 (L - i) ∧ HandRel W l q w.heap.size cc w i wr) (fun lv _ => (intOf lv).toNat)
            case atStart => exact ⟨0, by simp; omega, by simp, HH.out⟩
            case round =>
              obtain ⟨i, hi, rfl, hrel2⟩ := hrel
              by_cases hiL : (i : Int) < L
              · obtain ⟨S, hT, htwo, hbel, hgo, hgc⟩ := hrel2
                have hiq : i < q := by omega
                obtain ⟨wm, hwm⟩ : ∃ z, z = wr := ⟨_, rfl⟩
                subst hwm
                have hq1 : ((1 : Nat) : Int) = 1 := rfl
                go_wp2_with fail
                go_loopw [16, 15] (fun jv bv wr => ∃ j b : Nat, 1 ≤ j ∧ j ≤ q ∧ jv = .int .i64 j ∧ bv = .int .i64 b ∧ Hid (BestTo (cutOf W l S) j b) ∧ b < j ∧ Drew wm wr) (fun jv _ _ => q - (intOf jv).toNat)
                case atStart => exact ⟨1, 0, by omega, by omega, rfl, rfl, bestTo_one _, by omega, Drew.refl _⟩
                case round =>
                  obtain ⟨j, b, hj1, hjq, rfl, rfl, hbest, hbj, t, rfl⟩ := hrel
                  by_cases hjl : j < q
                  · have hc1 := htwo.2.1.cell hjl
                    have hc2 := htwo.2.1.cell (show b < q by omega)
                    have hjI : (j : Int) < (q : Int) := by omega
                    have hbI : (b : Int) < (q : Int) := by omega
                    have H1 := Lib.hid (fun h => bestTo_take (f := cutOf W l S) (j := j) hbest.out h)
                    have H2 := Lib.hid (fun h => bestTo_keep (f := cutOf W l S) (j := j) hbest.out h)
                    generalize cutOf W l S j = y1 at *
                    generalize cutOf W l S b = y2 at *
                    by_cases hlt2 : y2 < y1
                    · go_wp2_with fail
                      go_quiet (fail)
                      go_wp2
                      exact ⟨⟨j + 1, j, by omega, by omega, by go_num, rfl, H1.out hlt2, by omega, ⟨_, rfl⟩⟩, by simp [intOf]; omega⟩
                    · have hd : decide (y2 < y1) = false := by simpa using hlt2
                      go_wp2_with fail
                      go_quiet (fail)
                      go_wp2
                      exact ⟨⟨j + 1, b, by omega, by omega, by go_num, rfl, H2.out (by omega), by omega, ⟨_, rfl⟩⟩, by simp [intOf]; omega⟩
                  · obtain rfl : j = q := by omega
                    have hIB := HBI.out S i b hT hiq hbest.out
                    have HQ := Lib.hid (hand_step (t := t) hT hIB htwo hbel hgo hgc)
                    have hc1 := htwo.1.cell hbj
                    obtain ⟨y2, hc2⟩ : ∃ y, wm.cell? ⟨cc, b, none⟩ = some (.int .i64 y) := ⟨_, htwo.2.1.cell hbj⟩
                    have hf1 := htwo.1.warm b
                    have hf2 := htwo.2.1.warm b
                    have hne := htwo.2.2
                    have hne' : ¬ cc = w.heap.size := fun e => hne e.symm
                    have hpb := HPP.out S b
                    have hbI : (b : Int) < (j : Int) := by omega
                    generalize partOf W l S b = y at *
                    go_wp2
                    exact ⟨⟨i + 1, by omega, by go_num, HQ.out⟩, by simp [intOf]; omega⟩
              · obtain ⟨wm, hwm⟩ : ∃ z, z = wr := ⟨_, rfl⟩
                subst hwm
                obtain ⟨S, hT, htwo, hbel, hgo, hgc⟩ := hrel2
                have HTT : Hid (Taken (restOf (absI a) l) q (leftOf (absI a) l q).toNat S) := by
                  rw [HW.out, HLL.out, show L = (i : Int) by omega, Int.toNat_natCast]
                  exact hT
                by_cases han : a < 0
                · have HN : Hid (NegRel q w.heap.size (partOf W l S) w 0 wm) := ⟨htwo.1.congr fun j _ => by simp, hbel, hgo⟩
                  clear htwo hT hbel
                  go_wp2_with fail
                  go_loopw [17] (fun jv wr => ∃ j : Nat, j ≤ q ∧ jv = .int .i64 j ∧ NegRel q w.heap.size (partOf W l S) w j wr) (fun jv _ => q - (intOf jv).toNat)
                  case atStart => exact ⟨0, Nat.zero_le _, rfl, HN.out⟩
                  case round =>
                    obtain ⟨j, hj, rfl, hrel3⟩ := hrel
                    by_cases hjq : j < q
                    · have HST := Lib.hid (neg_step hrel3)
                      have hc1 := hrel3.1.cell hjq
                      rw [if_neg (by omega)] at hc1
                      have hf1 := hrel3.1.warm j
                      have hpb := HPP.out S j
                      have hjI : (j : Int) < (q : Int) := by omega
                      clear hrel3
                      generalize partOf W l S j = y at *
                      go_wp2
                      exact ⟨⟨j + 1, by omega, by go_num, HST.out⟩, by simp [intOf]; omega⟩
                    · obtain rfl : j = q := by omega
                      obtain ⟨hr3, hb3, hg3⟩ := hrel3
                      go_wp2
                      go_ret2
                      refine ⟨w.heap.size, S, rfl, hg3, ?_, HTT.out, hb3⟩
                      rw [HW.out]
                      exact hr3.congr fun r hr => by simp [hr, signed, han]
                · go_wp2
                  go_ret2
                  refine ⟨w.heap.size, S, rfl, hgo, ?_, HTT.out, hbel⟩
                  rw [HW.out]
                  exact htwo.1.congr fun r hr => by unfold signed; rw [if_neg (by omega)]
      · have HR := Lib.hid (share_start W l k (nq + 1) w).2
        clear e1 e2 hmk
        obtain ⟨o, ho⟩ : ∃ o, o = w.heap.size + 1 := ⟨_, rfl⟩
        obtain ⟨cc, hcc⟩ : ∃ cc, cc = w.heap.size := ⟨_, rfl⟩
        rw [← ho] at HR ⊢
        clear ho hcc
        go_wp2_with fail
        go_loopw [14, 13] (fun iv lv wr => ∃ q : Nat, q ≤ k ∧ iv = .int .i64 q ∧ lv = .int .i64 (W - sumN (shareOf W l) q) ∧ ShareRel W l k o w.heap.size w q wr) (fun iv _ _ => k - (intOf iv).toNat)
        case atStart => exact ⟨0, Nat.zero_le _, rfl, by simp [sumN], HR.out⟩
        case round =>
          obtain ⟨q, hq, rfl, rfl, hrel1⟩ := hrel
          have hb1 := HSH.out q (by have := hl.out; omega)
          have hb0 : 0 ≤ sumN (shareOf W l) q := sumN_nonneg fun j _ => HSN.out j
          by_cases hqk : q < k
          · have HRR := Lib.hid hrel1
            obtain ⟨⟨ho, hc, hne⟩, hbel, hgo, hgc⟩ := hrel1
            obtain ⟨ad, rfl, hbad, hcx⟩ := (h.far hbel hB).int hqk
            obtain ⟨m1, m2, d, E1, E2, E3, E4, E5, E6, E7, E8⟩ := HE.out q hqk
            have hb2 := HSH.out (q + 1) (by have := hl.out; omega)
            have hb3 := HSN.out q
            have HB4 : Hid (sumN (shareOf W l) (q + 1) = sumN (shareOf W l) q + shareOf W l q) := rfl
            rw [HB4.out] at hb2
            have hqI : (q : Int) < (k : Int) := by omega
            obtain ⟨y1, hy1⟩ : ∃ y, wr.cell? ⟨o, q, none⟩ = some (.int .i64 y) := ⟨_, ho.cell hqk⟩
            obtain ⟨y2, hy2⟩ : ∃ y, wr.cell? ⟨w.heap.size, q, none⟩ = some (.int .i64 y) := ⟨_, hc.cell hqk⟩
            have hfo := ho.warm q
            have hfc := hc.warm q
            have hne' : ¬ w.heap.size = o := fun e => hne e.symm
            have hao : ad.block < o := by omega
            have hac : ad.block < w.heap.size := by omega
            have hcx2 : ∀ v, (wr.setCell ⟨o, q, none⟩ v).cell? (ad.add q) = some (.int .i64 (l[q]?.getD 0)) := fun v => (World.cell?_of_block (Below.heap_setCell wr ⟨o, q, none⟩ v _ (by rw [add_block]; show ad.block ≠ o; omega))).trans hcx
            go_wp2_with fail
            go_still_tail 18, (by kernel_rfl)
            go_wp2
            exact ⟨⟨q + 1, by omega, by go_num, by rw [HB4.out]; go_num, (share_step (t := 0) HRR.out).drew⟩, by simp [intOf]; omega⟩
          · obtain rfl : q = k := by omega
            have HH := Lib.hid (hand_start hrel1)
            have hL : W - sumN (shareOf W l) q = leftOf W l q := rfl
            have hLb := HLB.out
            rw [hL]
            clear hL hb1 hb0 hrel1
            generalize hLL : leftOf W l q = L at *
            have HLL := Lib.hid hLL
            clear hLL
            go_wp2_with fail
            go_loopw [13] (fun lv wr => ∃ i : Nat, (i : Int) ≤ L ∧ lv = .int .i64 (L - i) ∧ HandRel W l q o w.heap.size w i wr) (fun lv _ => (intOf lv).toNat)
            case atStart => exact ⟨0, by simp; omega, by simp, HH.out⟩
            case round =>
              obtain ⟨i, hi, rfl, hrel2⟩ := hrel
              by_cases hiL : (i : Int) < L
              · obtain ⟨S, hT, htwo, hbel, hgo, hgc⟩ := hrel2
                have hiq : i < q := by omega
                obtain ⟨wm, hwm⟩ : ∃ z, z = wr := ⟨_, rfl⟩
                subst hwm
                have hq1 : ((1 : Nat) : Int) = 1 := rfl
                go_wp2_with fail
                go_loopw [16, 15] (fun jv bv wr => ∃ j b : Nat, 1 ≤ j ∧ j ≤ q ∧ jv = .int .i64 j ∧ bv = .int .i64 b ∧ Hid (BestTo (cutOf W l S) j b) ∧ b < j ∧ Drew wm wr) (fun jv _ _ => q - (intOf jv).toNat)
                case atStart => exact ⟨1, 0, by omega, by omega, rfl, rfl, bestTo_one _, by omega, Drew.refl _⟩
                case round =>
                  obtain ⟨j, b, hj1, hjq, rfl, rfl, hbest, hbj, t, rfl⟩ := hrel
                  by_cases hjl : j < q
                  · have hc1 := htwo.2.1.cell hjl
                    have hc2 := htwo.2.1.cell (show b < q by omega)
                    have hjI : (j : Int) < (q : Int) := by omega
                    have hbI : (b : Int) < (q : Int) := by omega
                    have H1 := Lib.hid (fun h => bestTo_take (f := cutOf W l S) (j := j) hbest.out h)
                    have H2 := Lib.hid (fun h => bestTo_keep (f := cutOf W l S) (j := j) hbest.out h)
                    generalize cutOf W l S j = y1 at *
                    generalize cutOf W l S b = y2 at *
                    by_cases hlt2 : y2 < y1
                    · go_wp2_with fail
                      go_quiet (fail)
                      go_wp2
                      exact ⟨⟨j + 1, j, by omega, by omega, by go_num, rfl, H1.out hlt2, by omega, ⟨_, rfl⟩⟩, by simp [intOf]; omega⟩
                    · have hd : decide (y2 < y1) = false := by simpa using hlt2
                      go_wp2_with fail
                      go_quiet (fail)
                      go_wp2
                      exact ⟨⟨j + 1, b, by omega, by omega, by go_num, rfl, H2.out (by omega), by omega, ⟨_, rfl⟩⟩, by simp [intOf]; omega⟩
                  · obtain rfl : j = q := by omega
                    have hIB := HBI.out S i b hT hiq hbest.out
                    have HQ := Lib.hid (hand_step (t := t) hT hIB htwo hbel hgo hgc)
                    have hc1 := htwo.1.cell hbj
                    obtain ⟨y2, hc2⟩ : ∃ y, wm.cell? ⟨w.heap.size, b, none⟩ = some (.int .i64 y) := ⟨_, htwo.2.1.cell hbj⟩
                    have hf1 := htwo.1.warm b
                    have hf2 := htwo.2.1.warm b
                    have hne := htwo.2.2
                    have hne' : ¬ w.heap.size = o := fun e => hne e.symm
                    have hpb := HPP.out S b
                    have hbI : (b : Int) < (j : Int) := by omega
                    generalize partOf W l S b = y at *
                    go_wp2
                    exact ⟨⟨i + 1, by omega, by go_num, HQ.out⟩, by simp [intOf]; omega⟩
              · obtain ⟨wm, hwm⟩ : ∃ z, z = wr := ⟨_, rfl⟩
                subst hwm
                obtain ⟨S, hT, htwo, hbel, hgo, hgc⟩ := hrel2
                have HTT : Hid (Taken (restOf (absI a) l) q (leftOf (absI a) l q).toNat S) := by
                  rw [HW.out, HLL.out, show L = (i : Int) by omega, Int.toNat_natCast]
                  exact hT
                by_cases han : a < 0
                · have HN : Hid (NegRel q o (partOf W l S) w 0 wm) := ⟨htwo.1.congr fun j _ => by simp, hbel, hgo⟩
                  clear htwo hT hbel
                  go_wp2_with fail
                  go_loopw [17] (fun jv wr => ∃ j : Nat, j ≤ q ∧ jv = .int .i64 j ∧ NegRel q o (partOf W l S) w j wr) (fun jv _ => q - (intOf jv).toNat)
                  case atStart => exact ⟨0, Nat.zero_le _, rfl, HN.out⟩
                  case round =>
                    obtain ⟨j, hj, rfl, hrel3⟩ := hrel
                    by_cases hjq : j < q
                    · have HST := Lib.hid (neg_step hrel3)
                      have hc1 := hrel3.1.cell hjq
                      rw [if_neg (by omega)] at hc1
                      have hf1 := hrel3.1.warm j
                      have hpb := HPP.out S j
                      have hjI : (j : Int) < (q : Int) := by omega
                      clear hrel3
                      generalize partOf W l S j = y at *
                      go_wp2
                      exact ⟨⟨j + 1, by omega, by go_num, HST.out⟩, by simp [intOf]; omega⟩
                    · obtain rfl : j = q := by omega
                      obtain ⟨hr3, hb3, hg3⟩ := hrel3
                      go_wp2
                      go_ret2
                      refine ⟨o, S, rfl, hg3, ?_, HTT.out, hb3⟩
                      rw [HW.out]
                      exact hr3.congr fun r hr => by simp [hr, signed, han]
                · go_wp2
                  go_ret2
                  refine ⟨o, S, rfl, hgo, ?_, HTT.out, hbel⟩
                  rw [HW.out]
                  exact htwo.1.congr fun r hr => by unfold signed; rw [if_neg (by omega)]
end Go.Proofs.YtjlokkjbdgcooaaGreat.Mo

