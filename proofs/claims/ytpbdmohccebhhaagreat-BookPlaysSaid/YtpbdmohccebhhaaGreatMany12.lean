/-
  Several texts, one behind the other: what each holds stands ahead of it.
-/
import Derived.Test.YtpbdmohccebhhaaGreatJrnsBook
import Derived.Test.YtpbdmohccebhhaaGreatLentJrns
import Derived.Test.YtpbdmohccebhhaaGreatMany1
import Derived.Maps.AppendAt

/-
  One more list of journals in a book.
-/
namespace Go.Proofs.YtpbdmohccebhhaaGreat
open Go.RowKit

set_option maxRecDepth 100000 in
set_option maxHeartbeats 1000000 in
theorem bookJournals_any (b B m n cl : Nat) (F V U : Nat → Value) (N : Nat → Nat) (L LU : Nat → List Value) (Al : Option Addr) (l : List JR) (w : World) (h : kJournals.KeptD w B b F m V U N L LU) (hm : m < 250) (hlv : w.ownsRow B 43 6 (.slice Al n cl) n (jrs l)) (hj : JlRd w w.heap.size Al n l) (hlin : ∀ a ∈ l, w.ownsRow B 100 3 a.lv a.j.lines.length (lins a.j.lines)) (hs : ∀ a ∈ l, a.j.lines.length ≤ 100000) (hn : n ≤ 10000)
    (hd : ∀ i, i < m → ∀ k, (Value.slice Al n cl).ownBlock = some k → (V i).ownBlock ≠ some k) :
    Calls Tryz.prog 25 #[.pointer (some ⟨b, 0, none⟩), .slice Al n cl] w fun e w' => e = .returned (.tuple #[]) ∧
      ∃ F' cv l', l'.map JR.j = l.map JR.j ∧ (∀ a ∈ l', w'.ownsRow w.heap.size 100 3 a.lv a.j.lines.length (lins a.j.lines)) ∧ kJournals.KeptD w' B b F' (m + 1) (upd V m (.slice Al n cl)) (upd U m cv) (fun k => if k = m then n else N k) (fun k => if k = m then jrs l else L k) (fun k => if k = m then jrs l' else LU k) ∧ (∀ k, k ≠ 10 → k ≠ 11 → F' k = F k) ∧ Below B w w' ∧ (∀ k, cv.ownBlock = some k → w.heap.size ≤ k) ∧ Only [kJournals.t, 40] w w' := by
  have HK := Lib.hid h
  have HS := Lib.hid hs
  have HJJ : Hid (∀ w', w'.ownsRow B 43 6 (.slice Al n cl) n (jrs l) → Only [kJournals.t, 40] w w' → JlRd w' w'.heap.size Al n l) := fun w' ho hon => ⟨rd_of_own ho, fun a ha => rd_of_own (hon.own (hlin a ha) (by decide)), hj.nil, hj.size⟩
  obtain ⟨h1, h2, h3, h4, h5, h6, h7⟩ := h
  have hbl := h1.lt
  have hBs : B ≤ w.heap.size := by omega
  obtain ⟨A2, c2, e2⟩ := own_form h3
  obtain ⟨A3, c3, e3⟩ := own_form h4
  have hc2 : w.cell? ⟨b, 10, none⟩ = some (F 10) := h1.cell (i := 10) (by omega)
  obtain ⟨v1, w1, hrun1, ht1, hsz1, hk1, hv1, ho1, ho2, ho3⟩ := Kind.push (T := 34) h3 infoJournals Tryz.underlying34 (.slice Al n cl) rfl (by omega) hBs
  obtain ⟨k1, k2, k3, k4, k5, k6, k7, k8, k9⟩ := Kind.first HK.out _ ht1 hk1 hv1
  obtain ⟨A1, c1, e1⟩ := own_form ht1
  have hc3 : (w1.setCell ⟨b, 10, none⟩ v1).cell? ⟨b, 11, none⟩ = some (F 11) := by
    have := k1.cell (i := 11) (by omega)
    rwa [upd_other _ _ (by decide)] at this
  have hne : ¬ kJournals.e ∈ [kJournals.t, 40] := by decide
  have hown2 := k9.own hlv hne
  have K9 := Lib.hid k9
  have hB1 : Below B w (w1.setCell ⟨b, 10, none⟩ v1) := by
    have hx : Below B w w1 := ⟨ho1, ho2, ho3, by omega, fun k hk => hk1 k (by omega) (fun e => by have := own_ge h3 k e; omega)⟩
    exact hx.setCell h2 _
  have hz1 : w.heap.size + 1 ≤ w1.heap.size := hsz1
  have k7' : w1.cell? ⟨b, 10, none⟩ = some (F 10) := k7
  have k8' : w1.frozen? ⟨b, 10, none⟩ = false := k8
  have e2' : F 10 = .slice A2 m c2 := e2
  have e3' : F 11 = .slice A3 m c3 := e3
  rw [e2'] at hc2 k7'
  rw [e2] at hrun1
  rw [e3'] at hc3
  subst e1
  have HR1 : Hid ((Builtin.append_ #[34, 34] 34 #[.slice A2 m c2, .slice (some ⟨w.heap.size, 0, none⟩) 1 1]).run Tryz.prog (w.alloc (.cells #[.slice Al n cl] 25)) = .ok (.slice A1 (m + 1) c1) w1) := hrun1
  have K1 : Hid (BookAt (w1.setCell ⟨b, 10, none⟩ (.slice A1 (m + 1) c1)) b (upd F 10 (.slice A1 (m + 1) c1))) := k1
  have K2 : Hid (kJournals.Tab (w1.setCell ⟨b, 10, none⟩ (.slice A1 (m + 1) c1)) B (.slice A1 (m + 1) c1) (m + 1) (upd V m (.slice Al n cl))) := k2
  have K3 : Hid (kJournals.Tab (w1.setCell ⟨b, 10, none⟩ (.slice A1 (m + 1) c1)) B (F 11) m U) := k3
  have K4 : Hid (∀ k, (Value.slice A1 (m + 1) c1).ownBlock = some k → (F 11).ownBlock ≠ some k) := k4
  have K5 : Hid (kJournals.Rows (w1.setCell ⟨b, 10, none⟩ (.slice A1 (m + 1) c1)) B m V N L) := k5
  have K6 : Hid (kJournals.Rows (w1.setCell ⟨b, 10, none⟩ (.slice A1 (m + 1) c1)) B m U N LU) := k6
  have HE3 := Lib.hid e3'
  have HO2 : Hid ((w1.setCell ⟨b, 10, none⟩ (.slice A1 (m + 1) c1)).ownsRow B 43 6 (.slice Al n cl) n (jrs l)) := hown2
  have K9' : Hid (Only [kJournals.t, 40] w (w1.setCell ⟨b, 10, none⟩ (.slice A1 (m + 1) c1))) := k9
  have hB1' : Below B w (w1.setCell ⟨b, 10, none⟩ (.slice A1 (m + 1) c1)) := hB1
  clear hrun1 k1 k2 k3 k4 k5 k6 k7 k8 k9 e2 e3 e2' e3' h1 h3 h4 h5 h6 h7 ht1 hk1 hv1 ho1 ho2 ho3 hown2 hB1 K9 hne
  go_enter Tryz.func25, Tryz.ntmps25
  go_wp2_with (at_builtin; refine wpList_append_run rfl _ _ _ rfl _ _ _ _ rfl rfl HR1.out ?_)
  have HJ2 : Hid (JlRd (w1.setCell ⟨b, 10, none⟩ (Value.slice A1 (m + 1) c1)) (w1.setCell ⟨b, 10, none⟩ (Value.slice A1 (m + 1) c1)).heap.size Al n l) := HJJ.out _ HO2.out K9'.out
  generalize w1.setCell ⟨b, 10, none⟩ (Value.slice A1 (m + 1) c1) = w2 at *
  have hbl2 : b < w2.heap.size := by have := hB1'.size; omega
  have HD := Lib.hid hd
  clear hd
  go_region_law (first
    | (obtain ⟨v4, w4, hrun4, ht4, hsz4, hk4, hv4, hp1, hp2, hp3⟩ := Kind.push (T := 34) (w := w3) (own_kept K3.out fun k hk _ => hb3.block k hk) infoJournals Tryz.underlying34 (.slice A5 n c5) rfl (by omega) (Nat.le_trans (Nat.le_trans h2 (Nat.le_of_lt hbl2)) hb3.size)
       rw [HE3.out] at hrun4 hk4 hv4
       obtain ⟨A4, c4, rfl⟩ := own_form ht4
       refine step_append_run rfl (.tmp 24) (.tmp 27) 34 rfl (.slice A3 m c3) (.slice (some ⟨w3.heap.size, 0, none⟩) 1 1) (.slice A4 (m + 1) c4) w4 (by simp [Act.eval]) (by simp [Act.eval]) hrun4 ?_
       obtain ⟨hfin, hx1, hx2, hx3⟩ := Kind.second (K := kJournals) (F := F) K1.out h2 K2.out K3.out K4.out K5.out K6.out HO2.out HD.out ⟨hb3.os, hb3.tape, hb3.output, hb3.size, hb3.block⟩ hcv ht4 (by show ∀ k, k < w3.heap.size → (F 11).ownBlock ≠ some k → _; rw [HE3.out]; exact hk4) (by show _ = (F 11).ownBlock ∨ _; rw [HE3.out]; exact hv4) (Nat.le_trans h2 (Nat.le_of_lt hbl2))
       have hy1 : w4.cell? ⟨b, 11, none⟩ = some (F 11) := hx1
       have hy2 : w4.frozen? ⟨b, 11, none⟩ = false := hx2
       rw [HE3.out] at hy1
       have hox : Only [kJournals.t, 40] w3 (w4.setCell ⟨b, 11, none⟩ (.slice A4 (m + 1) c4)) := Kind.second_only (K := kJournals) (K1.out.kept (hb3.block b hbl2)) (by have := (own_kept K3.out fun k hk _ => hb3.block k hk : kJournals.Tab w3 B (F 11) m U); rw [HE3.out] at this; exact this) hk4)
    | (go_simp; go_at_call 66; refine (copyJournals_any l Al n cl _ w2.drew (HJ2.out.far (Below.refl _ w2).drew (Nat.le_refl _)) (Nat.le_refl _) (by omega) HS.out).mono ?_; rintro e w3 ⟨A5, c5, l5, rfl, hmp5, hown5, hb3⟩; have hcv := hown5.own; have hc3b := (hb3.cell (p := ⟨b, 11, none⟩) hbl2).trans hc3; have hbl3 : b < w3.heap.size := Nat.lt_of_lt_of_le hbl2 hb3.size))
  all_goals
    go_end0
    refine ⟨rfl, _, _, l5, hmp5, fun a ha => ?_, hfin, fun k e2 e3 => ?_, ?_, fun k hk => Nat.le_trans hB1'.size (own_ge hcv k hk), K9'.out.trans hx3⟩
    · exact own_base ((Only.own (S := [kJournals.t, 40]) hox (hown5.lines a ha) (by decide))) hB1'.size
    · show upd (upd F 10 _) 11 _ k = F k
      rw [upd_other _ _ e3, upd_other _ _ e2]
    · have hx4 : Below B w3 w4 := ⟨hp1, hp2, hp3, by omega, fun k hk => hk4 k (Nat.lt_of_lt_of_le hk (Nat.le_trans (Nat.le_trans h2 (Nat.le_of_lt hbl2)) hb3.size)) (fun e => by have := own_ge K3.out k (by rw [HE3.out]; exact e); omega)⟩
      exact ((hB1'.drew.trans (hb3.mono (Nat.le_trans h2 (Nat.le_of_lt hbl2)))).trans hx4).setCell h2 _
end Go.Proofs.YtpbdmohccebhhaaGreat

/-
  Contracts of the statements' helpers over lists of ints: copies, lent lists, comparisons.
-/
namespace Go.Proofs.YtpbdmohccebhhaaGreat
open Go.RowKit

end Go.Proofs.YtpbdmohccebhhaaGreat

/-
  Contracts of SameInts, LentInts, StaysInts.
-/
namespace Go.Proofs.YtpbdmohccebhhaaGreat
open Go.RowKit

theorem same_step {l m : List Int} {k : Nat} (h : l.length = m.length) (hk : k < l.length) (h1 : l.take k = m.take k) (h2 : l[k]?.getD 0 = m[k]?.getD 0) : l.take (k + 1) = m.take (k + 1) := by
  rw [List.take_succ_eq_append_getElem hk, List.take_succ_eq_append_getElem (by omega), h1]
  simp [hk, show k < m.length by omega] at h2
  rw [h2]

set_option maxRecDepth 100000 in
set_option maxHeartbeats 400000 in
theorem sameInts_any (l m : List Int) (A1 A2 : Option Addr) (n1 n2 c1 c2 B1 B2 : Nat) (w : World) (h1 : Rd w B1 1 A1 n1 (ints .i64 l)) (h2 : Rd w B2 1 A2 n2 (ints .i64 m)) (hn1 : n1 ≤ maxLen) (hn2 : n2 ≤ maxLen) :
    Calls Tryz.prog 160 #[.slice A1 n1 c1, .slice A2 n2 c2] w fun e w' => e = .returned (.bool (l == m)) ∧ Drew w w' := by
  unfold maxLen at hn1 hn2
  have L1 := Lib.hid h1.ints_len
  have L2 := Lib.hid h2.ints_len
  by_cases hne : n1 = n2
  · subst hne
    have t1 : ((n1 : Int) != (n1 : Int)) = false := by simp
    go_enter Tryz.func160, Tryz.ntmps160
    go_wp2_with fail
    go_loopw [5] (fun i wr => ∃ k : Nat, k ≤ n1 ∧ i = .int .i64 k ∧ Hid (l.take k = m.take k) ∧ Drew w wr) (fun i _ => n1 - (intOf i).toNat)
    case atStart => exact ⟨0, Nat.zero_le _, rfl, by simp [Hid], Drew.refl _⟩
    case round =>
      obtain ⟨k, hk, rfl, hs, q, rfl⟩ := hrel
      by_cases hlt : k < n1
      · obtain ⟨a1, rfl, hb1, hc1⟩ := h1.int hlt
        obtain ⟨a2, rfl, hb2, hc2⟩ := h2.int hlt
        have hkn : (k : Int) < (n1 : Int) := by omega
        have HX : Hid (l[k]?.getD 0 = m[k]?.getD 0 → l.take (k + 1) = m.take (k + 1)) := fun h => same_step (by have := L1.out; have := L2.out; omega) (by have := L1.out; omega) hs.out h
        have HY : Hid (l[k]?.getD 0 ≠ m[k]?.getD 0 → (l == m) = false) := by
          intro h
          rw [beq_eq_false_iff_ne]
          intro e
          exact h (by rw [e])
        generalize l[k]?.getD 0 = x at *
        generalize m[k]?.getD 0 = y at *
        by_cases hxy : x = y
        · have t2 : (x == y) = true := by rw [beq_iff_eq]; exact hxy
          have HXY := Lib.hid hxy
          clear hxy
          go_wp2_with fail
          go_quiet (fail)
          go_wp2
          exact ⟨⟨k + 1, by omega, by go_num, HX.out HXY.out, Drew.add _ _⟩, by simp [intOf]; omega⟩
        · have t2 : (x == y) = false := by rw [beq_eq_false_iff_ne]; exact hxy
          have HXY := Lib.hid hxy
          clear hxy
          go_wp2_with fail
          go_quiet (fail)
          go_wp2
          go_ret
          exact ⟨ret_bool (HY.out HXY.out).symm, ⟨_, World.drewN_drewN _ _ _⟩⟩
      · go_wp2
        go_ret
        refine ⟨ret_bool ?_, _, rfl⟩
        have := hs.out
        rw [List.take_of_length_le (by have := L1.out; omega), List.take_of_length_le (by have := L2.out; omega)] at this
        rw [this]; simp
  · have t1 : ((n1 : Int) != (n2 : Int)) = true := by rw [bne_iff_ne]; omega
    have HN := Lib.hid hne
    clear hne
    go_enter Tryz.func160, Tryz.ntmps160
    go_wp2
    go_ret
    refine ⟨ret_bool ?_, Drew.refl _⟩
    symm
    rw [beq_eq_false_iff_ne]
    intro e
    have := L1.out; have := L2.out
    rw [e] at *
    have := HN.out; omega

end Go.Proofs.YtpbdmohccebhhaaGreat
