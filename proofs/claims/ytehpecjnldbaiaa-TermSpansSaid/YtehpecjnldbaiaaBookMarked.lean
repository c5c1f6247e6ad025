/-
  The statements' book: markedInts: tables whose lists are their marks.
-/
import Derived.Test.YtehpecjnldbaiaaBookGrowW
namespace Go.Proofs.Ytehpecjnldbaiaa
open Go.RowKit

theorem mark_same (i n : Nat) : (markL i 0 n == markL i 0 n) = true := by simp

set_option maxRecDepth 100000 in
set_option maxHeartbeats 1000000 in
theorem markedInts_any (A : Option Addr) (c B m : Nat) (G : Nat → Value) (M : Nat → Nat) (w : World) (ht : Table w B (.slice A m c) m G) (hr : ∀ j, j < m → w.ownsRow B 3 1 (G j) (M j) (ints .i64 (markL j 0 (M j)))) (hm : m ≤ 250) (hM : ∀ i, i < m → M i ≤ 1000100) :
    Calls Try.prog 60 #[.slice A m c] w fun e w' => e = .returned (.bool true) ∧ Below w.heap.size w w' := by
  have HT := Lib.hid ht
  have HR := Lib.hid hr
  have HM := Lib.hid hM
  clear ht hr hM
  go_enter Try.func60, Try.ntmps60
  go_wp2_with fail
  go_loopw [3] (fun iv wr => ∃ i : Nat, i ≤ m ∧ iv = .int .i64 i ∧ Below w.heap.size w wr) (fun iv _ => m - (intOf iv).toNat)
  case atStart => exact ⟨0, Nat.zero_le _, rfl, Below.refl _ _⟩
  case round =>
    obtain ⟨i, hi, rfl, hb⟩ := hrel
    by_cases hlt : i < m
    · obtain ⟨g, cap, f1, g1, hg, _⟩ := table_at HT.out hlt
      injection f1 with f1 _ f2
      subst f1
      subst f2
      have hc1 := (hb.cell (p := ⟨g, i, none⟩) hg).trans g1
      have hV := own_kept (HR.out i hlt) fun k hk _ => hb.block k hk
      have hn := HM.out i hlt
      obtain ⟨Av, cv, ev⟩ := own_form hV
      rw [ev] at hc1 hV
      have HV := Lib.hid hV
      have hiI : (i : Int) < (m : Int) := by omega
      have hgz : g < wr.heap.size := Nat.lt_of_lt_of_le hg hb.size
      generalize hnn : M i = n at *
      clear g1 hV ev
      go_wp2_with fail
      go_region_law (first
        | (go_simp; go_at_call 82; refine (markInts_any i 0 n _ (by omega) (by omega) (by omega)).mono ?_; rintro e w1 ⟨A5, c5, rfl, hmk, hb1⟩; have hc2 := (hb1.cell (p := ⟨g, i, none⟩) hgz).trans hc1)
        | (go_simp; go_at_call 70; refine (sameInts_any (markL i 0 n) (markL i 0 n) Av A5 n n cv c5 _ _ _ (rd_of_own (own_kept HV.out fun k hk _ => hb1.block k hk)) (rd_of_own hmk) (by unfold maxLen; omega) (by unfold maxLen; omega)).mono ?_; rintro e w2 ⟨rfl, q, rfl⟩; rw [mark_same]))
      all_goals
        go_wp2
        exact ⟨⟨i + 1, by omega, by go_num, (hb.trans ((Drew.below ⟨1, rfl⟩).trans ((hb1.mono (Nat.le_refl _)).trans (Drew.below ⟨q, rfl⟩)) |>.mono hb.size))⟩, by simp [intOf]; omega⟩
    · go_wp2
      go_ret
      exact ⟨rfl, hb⟩
end Go.Proofs.Ytehpecjnldbaiaa
