/-
  Several texts, one behind the other: what each holds stands ahead of it.
-/
import Derived.Test.YtjlokkjbdgcooaaGreatMany6
import Derived.Deep.RegionLaw
import Derived.Test.YtjlokkjbdgcooaaGreatMany1
import Derived.Maps.AppendAt

/-
  Contracts of the statements' Room, Few.
-/
namespace Go.Proofs.YtjlokkjbdgcooaaGreat
open Go.RowKit

def roomV (left s1 s2 : Int) : Int := if left < s1 then -1 else if left - s1 < s2 then -1 else left - s1 - s2
set_option maxRecDepth 100000 in
set_option maxHeartbeats 1000000 in
theorem room_two (left s1 s2 : Int) (b c : Nat) (w : World) (h0 : 0 ≤ left) (h1 : left ≤ 2000) (h2 : 0 ≤ s1) (h3 : 0 ≤ s2) (k0 : w.cell? ⟨b, 0, none⟩ = some (.int .i64 s1)) (k1 : w.cell? ⟨b, 1, none⟩ = some (.int .i64 s2)) :
    Calls Tryz.prog 108 #[.int .i64 left, .slice (some ⟨b, 0, none⟩) 2 c] w fun e w' => e = .returned (.int .i64 (roomV left s1 s2)) ∧ w = w' := by
  unfold roomV
  have t0 : ¬ left < 0 := by omega
  by_cases t1 : left < s1
  · rw [if_pos t1]
    go_enter Tryz.func108, Tryz.ntmps108
    go_wp2_with fail
    refine wp_loop_rounds 2 ?_
    rw [rounds_succ]
    go_wp2_with fail
    go_ret
    exact ⟨rfl, rfl⟩
  · rw [if_neg t1]
    have w1 : IntKind.i64.wrap (left - s1) = left - s1 := by rw [IntKind.wrap_i64]; omega
    have t2 : ¬ left - s1 < 0 := by omega
    by_cases t3 : left - s1 < s2
    · rw [if_pos t3]
      go_enter Tryz.func108, Tryz.ntmps108
      go_wp2_with fail
      refine wp_loop_rounds 2 ?_
      rw [rounds_succ]
      go_wp2_with fail
      rw [rounds_succ]
      go_wp2_with fail
      go_ret
      exact ⟨rfl, rfl⟩
    · rw [if_neg t3]
      have w2 : IntKind.i64.wrap (left - s1 - s2) = left - s1 - s2 := by rw [IntKind.wrap_i64]; omega
      go_enter Tryz.func108, Tryz.ntmps108
      go_wp2_with fail
      refine wp_loop_rounds 3 ?_
      rw [rounds_succ]
      go_wp2_with fail
      rw [rounds_succ]
      go_wp2_with fail
      rw [rounds_succ]
      go_wp2_with fail
      go_ret
      exact ⟨rfl, rfl⟩
/-- Journals that are short enough. -/
def shortJ (l : List JR) : Prop := ∀ a ∈ l, a.j.ref.size ≤ 2000 ∧ a.j.lines.length ≤ 2000

def FewEnd (w : World) (l : List JR) (n : Nat) (e : Ending) (w' : World) : Prop := ∃ z : Bool, e = .returned (.bool z) ∧ (z = true → n ≤ 30 ∧ shortJ l) ∧ Below w.heap.size w w'
theorem FewEnd.mk {w : World} {l : List JR} {n : Nat} {e : Ending} {w' : World} (z : Bool) (h1 : e = .returned (.bool z)) (h2 : z = true → n ≤ 30 ∧ shortJ l) (h3 : Below w.heap.size w w') : FewEnd w l n e w' := ⟨z, h1, h2, h3⟩
set_option maxRecDepth 100000 in
set_option maxHeartbeats 4000000 in
theorem few_any (l : List JR) (A : Option Addr) (n c B : Nat) (w : World) (h : Rd w B 6 A n (jrs l)) (hB : B ≤ w.heap.size) (hn : n ≤ maxLen) (hsz : ∀ a ∈ l, a.j.ref.size ≤ maxLen ∧ a.j.lines.length ≤ maxLen) :
    Calls Tryz.prog 30 #[.int .i64 30, .slice A n c] w (FewEnd w l n) := by
  unfold maxLen at *
  have HL := Lib.hid h.jrs_len
  have HR := Lib.hid h
  have HSZ := Lib.hid hsz
  clear h hsz
  go_enter Tryz.func30, Tryz.ntmps30
  go_wp2_with fail
  go_loopw [5, 6] (fun rv iv wr => ∃ (k : Nat) (r : Int), k ≤ n ∧ k ≤ 31 ∧ iv = .int .i64 k ∧ rv = .int .i64 r ∧ r ≤ 2000 ∧ Hid (0 ≤ r → ∀ i a, i < k → l[i]? = some a → a.j.ref.size ≤ 2000 ∧ a.j.lines.length ≤ 2000) ∧ Below w.heap.size w wr) (fun _ iv _ => 31 - (intOf iv).toNat)
  case atStart => exact ⟨0, 2000, Nat.zero_le _, by omega, rfl, rfl, by omega, fun _ i a hi => by omega, Below.refl _ _⟩
  case round =>
    obtain ⟨k, r, hk, hk31, rfl, rfl, hr, hsh, hbel⟩ := hrel
    have hzr := hbel.size
    by_cases hgo : k < n ∧ k ≤ 30 ∧ 0 ≤ r
    · obtain ⟨hlt, hk30, hr0⟩ := hgo
      have hkn : (k : Int) < (n : Int) := by omega
      have hk30I : (k : Int) ≤ 30 := by omega
      obtain ⟨ad, b, rfl, hb1, hx, p1, p2, p3, p4, p5, p6⟩ := (HR.out.far hbel hB).jr hlt
      have hs1 := HSZ.out b (List.mem_of_getElem? hx)
      have KR : Hid (∀ w1, w1.cell? ⟨wr.heap.size, 0, none⟩ = some (.int .i64 (b.j.ref.size : Nat)) → w1.cell? ⟨wr.heap.size, 1, none⟩ = some (.int .i64 (b.j.lines.length : Nat)) → Calls Tryz.prog 108 #[.int .i64 r, .slice (some ⟨wr.heap.size, 0, none⟩) 2 2] w1 fun e w' => e = .returned (.int .i64 (roomV r (b.j.ref.size : Nat) (b.j.lines.length : Nat))) ∧ w1 = w') := fun w1 h1 h2 => room_two r _ _ wr.heap.size 2 w1 hr0 hr (by omega) (by omega) h1 h2
      have HV : Hid (roomV r (b.j.ref.size : Nat) (b.j.lines.length : Nat) ≤ 2000 ∧ (0 ≤ roomV r (b.j.ref.size : Nat) (b.j.lines.length : Nat) → ∀ i a, i < k + 1 → l[i]? = some a → a.j.ref.size ≤ 2000 ∧ a.j.lines.length ≤ 2000)) := by
        unfold Hid roomV
        split
        · exact ⟨by omega, fun h => by omega⟩
        · split
          · exact ⟨by omega, fun h => by omega⟩
          · refine ⟨by omega, fun _ i a hi ha => ?_⟩
            rcases Nat.lt_or_ge i k with h1 | h1
            · exact hsh.out hr0 i a h1 ha
            · obtain rfl : i = k := by omega
              rw [hx] at ha
              injection ha with ha
              subst ha
              omega
      have HB2 : Hid (∀ o, Below w.heap.size w (wr.drew.alloc o)) := fun o => hbel.drew.alloc hzr o
      have hblt : ad.block < wr.heap.size := by omega
      clear hx hsh hbel
      generalize roomV r (b.j.ref.size : Nat) (b.j.lines.length : Nat) = V at *
      go_wp2_with fail
      go_region_law (go_simp; go_at_call 108; refine (KR.out _ (by simp [go_sem]) (by simp [go_sem])).mono ?_; rintro e w' ⟨rfl, rfl⟩)
      all_goals
        go_wp2_with fail
        exact ⟨⟨k + 1, V, by omega, by omega, by go_num, rfl, HV.out.1, HV.out.2, HB2.out _⟩, by simp [intOf]; omega⟩
    · have HFIN : Hid ((decide ((n : Int) ≤ 30) && decide (0 ≤ r)) = true → n ≤ 30 ∧ shortJ l) := by
        intro hh
        simp only [Bool.and_eq_true, decide_eq_true_eq] at hh
        have hkn : k = n := by omega
        refine ⟨by omega, fun a ha => ?_⟩
        obtain ⟨i, hi⟩ := List.mem_iff_getElem?.1 ha
        exact hsh.out hh.2 i a (by have := (List.getElem?_eq_some_iff.1 hi).1; have := HL.out; omega) hi
      have HB := Lib.hid hbel
      clear hsh hbel
      by_cases g1 : k < n
      · have hkn : (k : Int) < (n : Int) := by omega
        by_cases g2 : (k : Int) ≤ 30
        · have g3 : ¬ 0 ≤ r := by omega
          by_cases g4 : (n : Int) ≤ 30
          all_goals
            go_wp2_with fail
            go_ret
            exact FewEnd.mk _ rfl (fun h => by simp_all) HB.out
        · have g4 : ¬ (n : Int) ≤ 30 := by omega
          go_wp2_with fail
          go_ret
          exact FewEnd.mk _ rfl (fun h => by simp_all) HB.out
      · have hkn : ¬ (k : Int) < (n : Int) := by omega
        by_cases g4 : (n : Int) ≤ 30
        · by_cases g5 : 0 ≤ r
          all_goals
            go_wp2_with fail
            go_ret
            exact FewEnd.mk _ rfl (fun h => HFIN.out (by simp_all)) HB.out
        · go_wp2_with fail
          go_ret
          exact FewEnd.mk _ rfl (fun h => by simp_all) HB.out
end Go.Proofs.YtjlokkjbdgcooaaGreat

/-
  Contract of the statements' Few, whatever the number.
-/
namespace Go.Proofs.YtjlokkjbdgcooaaGreat
open Go.RowKit

def FewEndM (m : Nat) (w : World) (l : List JR) (n : Nat) (e : Ending) (w' : World) : Prop := ∃ z : Bool, e = .returned (.bool z) ∧ (z = true → n ≤ m ∧ shortJ l) ∧ Below w.heap.size w w'
theorem FewEndM.mk {m : Nat} {w : World} {l : List JR} {n : Nat} {e : Ending} {w' : World} (z : Bool) (h1 : e = .returned (.bool z)) (h2 : z = true → n ≤ m ∧ shortJ l) (h3 : Below w.heap.size w w') : FewEndM m w l n e w' := ⟨z, h1, h2, h3⟩
set_option maxRecDepth 100000 in
set_option maxHeartbeats 4000000 in
theorem fewM_any (m : Nat) (hm : m ≤ 1000) (l : List JR) (A : Option Addr) (n c B : Nat) (w : World) (h : Rd w B 6 A n (jrs l)) (hB : B ≤ w.heap.size) (hn : n ≤ maxLen) (hsz : ∀ a ∈ l, a.j.ref.size ≤ maxLen ∧ a.j.lines.length ≤ maxLen) :
    Calls Tryz.prog 30 #[.int .i64 (m : Int), .slice A n c] w (FewEndM m w l n) := by
  unfold maxLen at *
  have HL := Lib.hid h.jrs_len
  have HR := Lib.hid h
  have HSZ := Lib.hid hsz
  clear h hsz
  go_enter Tryz.func30, Tryz.ntmps30
  go_wp2_with fail
  go_loopw [5, 6] (fun rv iv wr => ∃ (k : Nat) (r : Int), k ≤ n ∧ k ≤ m + 1 ∧ iv = .int .i64 k ∧ rv = .int .i64 r ∧ r ≤ 2000 ∧ Hid (0 ≤ r → ∀ i a, i < k → l[i]? = some a → a.j.ref.size ≤ 2000 ∧ a.j.lines.length ≤ 2000) ∧ Below w.heap.size w wr) (fun _ iv _ => m + 1 - (intOf iv).toNat)
  case atStart => exact ⟨0, 2000, Nat.zero_le _, by omega, rfl, rfl, by omega, fun _ i a hi => by omega, Below.refl _ _⟩
  case round =>
    obtain ⟨k, r, hk, hk31, rfl, rfl, hr, hsh, hbel⟩ := hrel
    have hzr := hbel.size
    by_cases hgo : k < n ∧ k ≤ m ∧ 0 ≤ r
    · obtain ⟨hlt, hk30, hr0⟩ := hgo
      have hkn : (k : Int) < (n : Int) := by omega
      have hk30I : (k : Int) ≤ (m : Int) := by omega
      obtain ⟨ad, b, rfl, hb1, hx, p1, p2, p3, p4, p5, p6⟩ := (HR.out.far hbel hB).jr hlt
      have hs1 := HSZ.out b (List.mem_of_getElem? hx)
      have KR : Hid (∀ w1, w1.cell? ⟨wr.heap.size, 0, none⟩ = some (.int .i64 (b.j.ref.size : Nat)) → w1.cell? ⟨wr.heap.size, 1, none⟩ = some (.int .i64 (b.j.lines.length : Nat)) → Calls Tryz.prog 108 #[.int .i64 r, .slice (some ⟨wr.heap.size, 0, none⟩) 2 2] w1 fun e w' => e = .returned (.int .i64 (roomV r (b.j.ref.size : Nat) (b.j.lines.length : Nat))) ∧ w1 = w') := fun w1 h1 h2 => room_two r _ _ wr.heap.size 2 w1 hr0 hr (by omega) (by omega) h1 h2
      have HV : Hid (roomV r (b.j.ref.size : Nat) (b.j.lines.length : Nat) ≤ 2000 ∧ (0 ≤ roomV r (b.j.ref.size : Nat) (b.j.lines.length : Nat) → ∀ i a, i < k + 1 → l[i]? = some a → a.j.ref.size ≤ 2000 ∧ a.j.lines.length ≤ 2000)) := by
        unfold Hid roomV
        split
        · exact ⟨by omega, fun h => by omega⟩
        · split
          · exact ⟨by omega, fun h => by omega⟩
          · refine ⟨by omega, fun _ i a hi ha => ?_⟩
            rcases Nat.lt_or_ge i k with h1 | h1
            · exact hsh.out hr0 i a h1 ha
            · obtain rfl : i = k := by omega
              rw [hx] at ha
              injection ha with ha
              subst ha
              omega
      have HB2 : Hid (∀ o, Below w.heap.size w (wr.drew.alloc o)) := fun o => hbel.drew.alloc hzr o
      have hblt : ad.block < wr.heap.size := by omega
      clear hx hsh hbel
      generalize roomV r (b.j.ref.size : Nat) (b.j.lines.length : Nat) = V at *
      go_wp2_with fail
      go_region_law (go_simp; go_at_call 108; refine (KR.out _ (by simp [go_sem]) (by simp [go_sem])).mono ?_; rintro e w' ⟨rfl, rfl⟩)
      all_goals
        go_wp2_with fail
        exact ⟨⟨k + 1, V, by omega, by omega, by go_num, rfl, HV.out.1, HV.out.2, HB2.out _⟩, by simp [intOf]; omega⟩
    · have HFIN : Hid ((decide ((n : Int) ≤ (m : Int)) && decide (0 ≤ r)) = true → n ≤ m ∧ shortJ l) := by
        intro hh
        simp only [Bool.and_eq_true, decide_eq_true_eq] at hh
        have hkn : k = n := by omega
        refine ⟨by omega, fun a ha => ?_⟩
        obtain ⟨i, hi⟩ := List.mem_iff_getElem?.1 ha
        exact hsh.out hh.2 i a (by have := (List.getElem?_eq_some_iff.1 hi).1; have := HL.out; omega) hi
      have HB := Lib.hid hbel
      clear hsh hbel
      by_cases g1 : k < n
      · have hkn : (k : Int) < (n : Int) := by omega
        by_cases g2 : (k : Int) ≤ (m : Int)
        · have g3 : ¬ 0 ≤ r := by omega
          by_cases g4 : (n : Int) ≤ (m : Int)
          all_goals
            go_wp2_with fail
            go_ret
            exact FewEndM.mk _ rfl (fun h => by simp_all) HB.out
        · have g4 : ¬ (n : Int) ≤ (m : Int) := by omega
          go_wp2_with fail
          go_ret
          exact FewEndM.mk _ rfl (fun h => by simp_all) HB.out
      · have hkn : ¬ (k : Int) < (n : Int) := by omega
        by_cases g4 : (n : Int) ≤ (m : Int)
        · by_cases g5 : 0 ≤ r
          all_goals
            go_wp2_with fail
            go_ret
            exact FewEndM.mk _ rfl (fun h => HFIN.out (by simp_all)) HB.out
        · go_wp2_with fail
          go_ret
          exact FewEndM.mk _ rfl (fun h => by simp_all) HB.out
end Go.Proofs.YtjlokkjbdgcooaaGreat

/-
  Contracts of the statements' helpers over lists of ints: copies, lent lists, comparisons.
-/
namespace Go.Proofs.YtjlokkjbdgcooaaGreat
open Go.RowKit

set_option maxRecDepth 100000 in
set_option maxHeartbeats 400000 in
theorem copyInts_any (l : List Int) (A : Option Addr) (n c B : Nat) (w : World) (h : Rd w B 1 A n (ints .i64 l)) (hn : n ≤ 17592186044000) :
    Calls Tryz.prog 49 #[.slice A n c] w fun e w' => ∃ A' c', e = .returned (.slice A' n c') ∧ w'.ownsRow w.heap.size 3 1 (.slice A' n c') n (ints .i64 l) ∧ Below w.heap.size w w' := by
  obtain ⟨v', w', hrun, hown, hg, _⟩ := append_fresh (P := Tryz.prog) (w := w) (ty := 22) (c := c) infoInt Tryz.underlying22 rfl (by omega) w.heap.size (.slice none 0 0) 0 [] (World.ownsRow_nil w _ _ _) h (ints_one _ _) (by unfold maxLen; omega) (by omega) (Nat.le_refl _)
  rw [Nat.zero_add, List.nil_append] at hown
  obtain ⟨A', c', rfl⟩ := own_form hown
  have HO := Lib.hid hown
  have HG := Lib.hid hg
  have HR := Lib.hid hrun
  clear hown hg h hn hrun
  go_enter Tryz.func49, Tryz.ntmps49
  go_wp2_with (at_builtin; refine wpList_append_run rfl _ _ _ rfl _ _ _ _ rfl rfl HR.out ?_)
  go_ret
  exact ⟨A', c', rfl, HO.out, (Below.refl _ _).grown HG.out (Nat.le_refl _) (fun k h => by cases h)⟩
end Go.Proofs.YtjlokkjbdgcooaaGreat

/-
  Contracts of SameInts, LentInts, StaysInts.
-/
namespace Go.Proofs.YtjlokkjbdgcooaaGreat
open Go.RowKit

theorem same_step {l m : List Int} {k : Nat} (h : l.length = m.length) (hk : k < l.length) (h1 : l.take k = m.take k) (h2 : l[k]?.getD 0 = m[k]?.getD 0) : l.take (k + 1) = m.take (k + 1) := by
  rw [List.take_succ_eq_append_getElem hk, List.take_succ_eq_append_getElem (by omega), h1]
  simp [hk, show k < m.length by omega] at h2
  rw [h2]

set_option maxRecDepth 100000 in
set_option maxHeartbeats 400000 in
theorem sameInts_any (l m : List Int) (A1 A2 : Option Addr) (n1 n2 c1 c2 B1 B2 : Nat) (w : World) (h1 : Rd w B1 1 A1 n1 (ints .i64 l)) (h2 : Rd w B2 1 A2 n2 (ints .i64 m)) (hn1 : n1 ≤ maxLen) (hn2 : n2 ≤ maxLen) :
    Calls Tryz.prog 20 #[.slice A1 n1 c1, .slice A2 n2 c2] w fun e w' => e = .returned (.bool (l == m)) ∧ Drew w w' := by
  unfold maxLen at hn1 hn2
  have L1 := Lib.hid h1.ints_len
  have L2 := Lib.hid h2.ints_len
  by_cases hne : n1 = n2
  · subst hne
    have t1 : ((n1 : Int) != (n1 : Int)) = false := by simp
    go_enter Tryz.func20, Tryz.ntmps20
    go_wp2_with fail
    go_loopw [5] (fun i wr => ∃ k : Nat, k ≤ n1 ∧ i = .int .i64 k ∧ Hid (l.take k = m.take k) ∧ Drew w wr) (fun i _ => n1 - (intOf i).toNat)
    case atStart => exact ⟨0, Nat.zero_le _, rfl, by simp [Hid], Drew.refl _⟩
    case round =>
      obtain ⟨k, hk, rfl, hs, q, rfl⟩ := hrel
      by_cases hlt : k < n1
      · obtain ⟨a1, rfl, hb1, hc1⟩ := h1.int hlt
        obtain ⟨a2, rfl, hb2, hc2⟩ := h2.int hlt
        have hkn : (k : Int) < (n1 : Int) := by omega
        have HX : Hid (l[k]?.getD 0 = m[k]?.getD 0 → l.take (k + 1) = m.take (k + 1)) := fun h => same_step (by have := L1.out; have := L2.out; omega) (by have := L1.out; omega) hs.out h
        have HY : Hid (l[k]?.getD 0 ≠ m[k]?.getD 0 → (l == m) = false) := by
          intro h
          rw [beq_eq_false_iff_ne]
          intro e
          exact h (by rw [e])
        generalize l[k]?.getD 0 = x at *
        generalize m[k]?.getD 0 = y at *
        by_cases hxy : x = y
        · have t2 : (x == y) = true := by rw [beq_iff_eq]; exact hxy
          have HXY := Lib.hid hxy
          clear hxy
          go_wp2_with fail
          go_quiet (fail)
          go_wp2
          exact ⟨⟨k + 1, by omega, by go_num, HX.out HXY.out, Drew.add _ _⟩, by simp [intOf]; omega⟩
        · have t2 : (x == y) = false := by rw [beq_eq_false_iff_ne]; exact hxy
          have HXY := Lib.hid hxy
          clear hxy
          go_wp2_with fail
          go_quiet (fail)
          go_wp2
          go_ret
          exact ⟨ret_bool (HY.out HXY.out).symm, ⟨_, World.drewN_drewN _ _ _⟩⟩
      · go_wp2
        go_ret
        refine ⟨ret_bool ?_, _, rfl⟩
        have := hs.out
        rw [List.take_of_length_le (by have := L1.out; omega), List.take_of_length_le (by have := L2.out; omega)] at this
        rw [this]; simp
  · have t1 : ((n1 : Int) != (n2 : Int)) = true := by rw [bne_iff_ne]; omega
    have HN := Lib.hid hne
    clear hne
    go_enter Tryz.func20, Tryz.ntmps20
    go_wp2
    go_ret
    refine ⟨ret_bool ?_, Drew.refl _⟩
    symm
    rw [beq_eq_false_iff_ne]
    intro e
    have := L1.out; have := L2.out
    rw [e] at *
    have := HN.out; omega

end Go.Proofs.YtjlokkjbdgcooaaGreat
