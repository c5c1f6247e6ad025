/-
  Several texts, one behind the other: what each holds stands ahead of it.
-/
import Derived.Test.YtbdhhfaelnnocaaGreatDoorMany8
import Derived.Test.YtbdhhfaelnnocaaGreatDoorBase
import Derived.Maps.AppendAt

/-
  One more list of lines in a book.
-/
namespace Go.Proofs.YtbdhhfaelnnocaaGreatDoor
open Go.RowKit

set_option maxRecDepth 100000 in
set_option maxHeartbeats 1000000 in
theorem bookLines_any (b B m n cl : Nat) (F V U : Nat → Value) (N : Nat → Nat) (L : Nat → List Value) (Al : Option Addr) (l : List Lin) (w : World) (h : kLines.Kept w B b F m V U N L) (hm : m < 250) (hlv : w.ownsRow B 34 3 (.slice Al n cl) n (lins l)) (hn : n ≤ 1000000)
    (hd : ∀ i, i < m → ∀ k, (Value.slice Al n cl).ownBlock = some k → (V i).ownBlock ≠ some k) :
    Calls Tryz.prog 12 #[.pointer (some ⟨b, 0, none⟩), .slice Al n cl] w fun e w' => e = .returned (.tuple #[]) ∧
      ∃ F' cv, kLines.Kept w' B b F' (m + 1) (upd V m (.slice Al n cl)) (upd U m cv) (fun k => if k = m then n else N k) (fun k => if k = m then lins l else L k) ∧ (∀ k, k ≠ 8 → k ≠ 9 → F' k = F k) ∧ Below B w w' ∧ (∀ k, cv.ownBlock = some k → w.heap.size ≤ k) ∧ Only [kLines.t, 47] w w' := by
  have HK := Lib.hid h
  obtain ⟨h1, h2, h3, h4, h5, h6, h7⟩ := h
  have hbl := h1.lt
  have hBs : B ≤ w.heap.size := by omega
  obtain ⟨A2, c2, e2⟩ := own_form h3
  obtain ⟨A3, c3, e3⟩ := own_form h4
  have hc2 : w.cell? ⟨b, 8, none⟩ = some (F 8) := h1.cell (i := 8) (by omega)
  obtain ⟨v1, w1, hrun1, ht1, hsz1, hk1, hv1, ho1, ho2, ho3⟩ := Kind.push (T := 40) h3 infoLines Tryz.underlying40 (.slice Al n cl) rfl (by omega) hBs
  obtain ⟨k1, k2, k3, k4, k5, k6, k7, k8, k9⟩ := Kind.first HK.out _ ht1 hk1 hv1
  obtain ⟨A1, c1, e1⟩ := own_form ht1
  have hc3 : (w1.setCell ⟨b, 8, none⟩ v1).cell? ⟨b, 9, none⟩ = some (F 9) := by
    have := k1.cell (i := 9) (by omega)
    rwa [upd_other _ _ (by decide)] at this
  have hne : ¬ kLines.e ∈ [kLines.t, 47] := by decide
  have hown2 := k9.own hlv hne
  have K9 := Lib.hid k9
  have hB1 : Below B w (w1.setCell ⟨b, 8, none⟩ v1) := by
    have hx : Below B w w1 := ⟨ho1, ho2, ho3, by omega, fun k hk => hk1 k (by omega) (fun e => by have := own_ge h3 k e; omega)⟩
    exact hx.setCell h2 _
  have hz1 : w.heap.size + 1 ≤ w1.heap.size := hsz1
  have k7' : w1.cell? ⟨b, 8, none⟩ = some (F 8) := k7
  have k8' : w1.frozen? ⟨b, 8, none⟩ = false := k8
  have e2' : F 8 = .slice A2 m c2 := e2
  have e3' : F 9 = .slice A3 m c3 := e3
  rw [e2'] at hc2 k7'
  rw [e2] at hrun1
  rw [e3'] at hc3
  subst e1
  have HR1 : Hid ((Builtin.append_ #[40, 40] 40 #[.slice A2 m c2, .slice (some ⟨w.heap.size, 0, none⟩) 1 1]).run Tryz.prog (w.alloc (.cells #[.slice Al n cl] 22)) = .ok (.slice A1 (m + 1) c1) w1) := hrun1
  have K1 : Hid (BookAt (w1.setCell ⟨b, 8, none⟩ (.slice A1 (m + 1) c1)) b (upd F 8 (.slice A1 (m + 1) c1))) := k1
  have K2 : Hid (kLines.Tab (w1.setCell ⟨b, 8, none⟩ (.slice A1 (m + 1) c1)) B (.slice A1 (m + 1) c1) (m + 1) (upd V m (.slice Al n cl))) := k2
  have K3 : Hid (kLines.Tab (w1.setCell ⟨b, 8, none⟩ (.slice A1 (m + 1) c1)) B (F 9) m U) := k3
  have K4 : Hid (∀ k, (Value.slice A1 (m + 1) c1).ownBlock = some k → (F 9).ownBlock ≠ some k) := k4
  have K5 : Hid (kLines.Rows (w1.setCell ⟨b, 8, none⟩ (.slice A1 (m + 1) c1)) B m V N L) := k5
  have K6 : Hid (kLines.Rows (w1.setCell ⟨b, 8, none⟩ (.slice A1 (m + 1) c1)) B m U N L) := k6
  have HE3 := Lib.hid e3'
  have HO2 : Hid ((w1.setCell ⟨b, 8, none⟩ (.slice A1 (m + 1) c1)).ownsRow B 34 3 (.slice Al n cl) n (lins l)) := hown2
  have K9' : Hid (Only [kLines.t, 47] w (w1.setCell ⟨b, 8, none⟩ (.slice A1 (m + 1) c1))) := k9
  have hB1' : Below B w (w1.setCell ⟨b, 8, none⟩ (.slice A1 (m + 1) c1)) := hB1
  clear hrun1 k1 k2 k3 k4 k5 k6 k7 k8 k9 e2 e3 e2' e3' h1 h3 h4 h5 h6 h7 ht1 hk1 hv1 ho1 ho2 ho3 hown2 hB1 K9 hne
  go_enter Tryz.func12, Tryz.ntmps12
  go_wp2_with (at_builtin; refine wpList_append_run rfl _ _ _ rfl _ _ _ _ rfl rfl HR1.out ?_)
  generalize w1.setCell ⟨b, 8, none⟩ (Value.slice A1 (m + 1) c1) = w2 at *
  have hbl2 : b < w2.heap.size := by have := hB1'.size; omega
  have HD := Lib.hid hd
  clear hd
  go_region_law (first
    | (obtain ⟨v4, w4, hrun4, ht4, hsz4, hk4, hv4, hp1, hp2, hp3⟩ := Kind.push (T := 40) (w := w3) (own_kept K3.out fun k hk _ => hb3.block k hk) infoLines Tryz.underlying40 (.slice A5 n c5) rfl (by omega) (Nat.le_trans (Nat.le_trans h2 (Nat.le_of_lt hbl2)) hb3.size)
       rw [HE3.out] at hrun4 hk4 hv4
       obtain ⟨A4, c4, rfl⟩ := own_form ht4
       refine step_append_run rfl (.tmp 24) (.tmp 27) 40 rfl (.slice A3 m c3) (.slice (some ⟨w3.heap.size, 0, none⟩) 1 1) (.slice A4 (m + 1) c4) w4 (by simp [Act.eval]) (by simp [Act.eval]) hrun4 ?_
       obtain ⟨hfin, hx1, hx2, hx3⟩ := Kind.second (K := kLines) (F := F) K1.out h2 K2.out K3.out K4.out K5.out K6.out HO2.out HD.out ⟨hb3.os, hb3.tape, hb3.output, hb3.size, hb3.block⟩ hcv ht4 (by show ∀ k, k < w3.heap.size → (F 9).ownBlock ≠ some k → _; rw [HE3.out]; exact hk4) (by show _ = (F 9).ownBlock ∨ _; rw [HE3.out]; exact hv4) (Nat.le_trans h2 (Nat.le_of_lt hbl2))
       have hy1 : w4.cell? ⟨b, 9, none⟩ = some (F 9) := hx1
       have hy2 : w4.frozen? ⟨b, 9, none⟩ = false := hx2
       rw [HE3.out] at hy1)
    | (go_simp; go_at_call 19; refine (copyLines_any l Al n cl _ w2.drew (rd_of_own HO2.out) (by omega)).mono ?_; rintro e w3 ⟨A5, c5, rfl, hcv, hb3⟩; have hc3b := (hb3.cell (p := ⟨b, 9, none⟩) hbl2).trans hc3; have hbl3 : b < w3.heap.size := Nat.lt_of_lt_of_le hbl2 hb3.size))
  all_goals
    go_end0
    refine ⟨rfl, _, _, hfin, fun k e2 e3 => ?_, ?_, fun k hk => Nat.le_trans hB1'.size (own_ge hcv k hk), K9'.out.trans hx3⟩
    · show upd (upd F 8 _) 9 _ k = F k
      rw [upd_other _ _ e3, upd_other _ _ e2]
    · have hx4 : Below B w3 w4 := ⟨hp1, hp2, hp3, by omega, fun k hk => hk4 k (Nat.lt_of_lt_of_le hk (Nat.le_trans (Nat.le_trans h2 (Nat.le_of_lt hbl2)) hb3.size)) (fun e => by have := own_ge K3.out k (by rw [HE3.out]; exact e); omega)⟩
      exact ((hB1'.drew.trans (hb3.mono (Nat.le_trans h2 (Nat.le_of_lt hbl2)))).trans hx4).setCell h2 _
end Go.Proofs.YtbdhhfaelnnocaaGreatDoor

/-
  Several texts, one behind the other: what each holds stands ahead of it.
-/
/-
  Contracts of the statements' helpers over lists of ints: copies, lent lists, comparisons.
-/
namespace Go.Proofs.YtbdhhfaelnnocaaGreatDoor
open Go.RowKit

end Go.Proofs.YtbdhhfaelnnocaaGreatDoor

/-
  Contracts of SameInts, LentInts, StaysInts.
-/
namespace Go.Proofs.YtbdhhfaelnnocaaGreatDoor
open Go.RowKit

theorem same_step {l m : List Int} {k : Nat} (h : l.length = m.length) (hk : k < l.length) (h1 : l.take k = m.take k) (h2 : l[k]?.getD 0 = m[k]?.getD 0) : l.take (k + 1) = m.take (k + 1) := by
  rw [List.take_succ_eq_append_getElem hk, List.take_succ_eq_append_getElem (by omega), h1]
  simp [hk, show k < m.length by omega] at h2
  rw [h2]

set_option maxRecDepth 100000 in
set_option maxHeartbeats 400000 in
theorem sameInts_any (l m : List Int) (A1 A2 : Option Addr) (n1 n2 c1 c2 B1 B2 : Nat) (w : World) (h1 : Rd w B1 1 A1 n1 (ints .i64 l)) (h2 : Rd w B2 1 A2 n2 (ints .i64 m)) (hn1 : n1 ≤ maxLen) (hn2 : n2 ≤ maxLen) :
    Calls Tryz.prog 95 #[.slice A1 n1 c1, .slice A2 n2 c2] w fun e w' => e = .returned (.bool (l == m)) ∧ Drew w w' := by
  unfold maxLen at hn1 hn2
  have L1 := Lib.hid h1.ints_len
  have L2 := Lib.hid h2.ints_len
  by_cases hne : n1 = n2
  · subst hne
    have t1 : ((n1 : Int) != (n1 : Int)) = false := by simp
    go_enter Tryz.func95, Tryz.ntmps95
    go_wp2_with fail
    go_loopw [5] (fun i wr => ∃ k : Nat, k ≤ n1 ∧ i = .int .i64 k ∧ Hid (l.take k = m.take k) ∧ Drew w wr) (fun i _ => n1 - (intOf i).toNat)
    case atStart => exact ⟨0, Nat.zero_le _, rfl, by simp [Hid], Drew.refl _⟩
    case round =>
      obtain ⟨k, hk, rfl, hs, q, rfl⟩ := hrel
      by_cases hlt : k < n1
      · obtain ⟨a1, rfl, hb1, hc1⟩ := h1.int hlt
        obtain ⟨a2, rfl, hb2, hc2⟩ := h2.int hlt
        have hkn : (k : Int) < (n1 : Int) := by omega
        have HX : Hid (l[k]?.getD 0 = m[k]?.getD 0 → l.take (k + 1) = m.take (k + 1)) := fun h => same_step (by have := L1.out; have := L2.out; omega) (by have := L1.out; omega) hs.out h
        have HY : Hid (l[k]?.getD 0 ≠ m[k]?.getD 0 → (l == m) = false) := by
          intro h
          rw [beq_eq_false_iff_ne]
          intro e
          exact h (by rw [e])
        generalize l[k]?.getD 0 = x at *
        generalize m[k]?.getD 0 = y at *
        by_cases hxy : x = y
        · have t2 : (x == y) = true := by rw [beq_iff_eq]; exact hxy
          have HXY := Lib.hid hxy
          clear hxy
          go_wp2_with fail
          go_quiet (fail)
          go_wp2
          exact ⟨⟨k + 1, by omega, by go_num, HX.out HXY.out, Drew.add _ _⟩, by simp [intOf]; omega⟩
        · have t2 : (x == y) = false := by rw [beq_eq_false_iff_ne]; exact hxy
          have HXY := Lib.hid hxy
          clear hxy
          go_wp2_with fail
          go_quiet (fail)
          go_wp2
          go_ret
          exact ⟨ret_bool (HY.out HXY.out).symm, ⟨_, World.drewN_drewN _ _ _⟩⟩
      · go_wp2
        go_ret
        refine ⟨ret_bool ?_, _, rfl⟩
        have := hs.out
        rw [List.take_of_length_le (by have := L1.out; omega), List.take_of_length_le (by have := L2.out; omega)] at this
        rw [this]; simp
  · have t1 : ((n1 : Int) != (n2 : Int)) = true := by rw [bne_iff_ne]; omega
    have HN := Lib.hid hne
    clear hne
    go_enter Tryz.func95, Tryz.ntmps95
    go_wp2
    go_ret
    refine ⟨ret_bool ?_, Drew.refl _⟩
    symm
    rw [beq_eq_false_iff_ne]
    intro e
    have := L1.out; have := L2.out
    rw [e] at *
    have := HN.out; omega

end Go.Proofs.YtbdhhfaelnnocaaGreatDoor
