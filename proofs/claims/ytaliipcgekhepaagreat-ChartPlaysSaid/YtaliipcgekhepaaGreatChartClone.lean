/-
  Contract of slices.Clone over accounts.
-/
import Derived.Test.YtaliipcgekhepaaGreatInsertAcc
import Derived.Lib.SliceRun
namespace Go.Proofs.YtaliipcgekhepaaGreat
open Go.RowKit

theorem own_empty (w : World) (T : TypeId) (size : Nat) : (w.alloc (.cells #[] T)).ownsRow w.heap.size T size (.slice (some ⟨w.heap.size, 0, none⟩) 0 0) 0 [] :=
  ⟨by simp, .inr ⟨w.heap.size, 0, #[], rfl, Nat.le_refl _, heap_new _ _, Nat.le_refl _, Nat.zero_le _, by simp, by simp⟩⟩

set_option maxRecDepth 100000 in
set_option maxHeartbeats 400000 in
theorem clone_any (B n c : Nat) (A : Option Addr) (l : List Acc) (w : World) (h : w.ownsRow B 34 3 (.slice A n c) n (accs l)) (hn : n ≤ 1000000) :
    Calls Tryz.prog 28 #[.slice A n c] w fun e w' => ∃ A' c', e = .returned (.slice A' n c') ∧ w'.ownsRow w.heap.size 34 3 (.slice A' n c') n (accs l) ∧ Below w.heap.size w w' := by
  have h0 := h
  rcases h0.2 with ⟨hv, rfl⟩ | ⟨g, cap, cur, hv, hB, hh, r⟩
  · injection hv with h1 _ h3
    subst h1 h3
    have hl : accs l = [] := List.eq_nil_of_length_eq_zero (by simpa using h.1)
    rw [hl]
    clear h h0 hl
    have hq : ∀ w : World, (binOp .eql 22 (.slice none 0 0) (.slice none 0 0)).run Tryz.prog w = .ok (.bool true) w := fun w => Lib.run_eql_slice_nil w 22 34 none 0 0 0 0 Tryz.underlying22
    go_enter Tryz.func28, Tryz.ntmps28
    go_wp2
    go_ret
    exact ⟨none, 0, rfl, World.ownsRow_nil _ _ _ _, Below.refl _ _⟩
  · injection hv with h1 _ h3
    subst h1 h3
    have hR : Rd (w.alloc (.cells #[] 34)) (w.heap.size) 3 (some ⟨g, 0, none⟩) n (accs l) := (rd_of_own h).below ((Below.refl _ _).alloc (Nat.le_refl _) _)
    obtain ⟨v', w', hrun, hown, hg, hp⟩ := append_fresh (P := Tryz.prog) (ty := 22) (c := c) infoAcc Tryz.underlying22 rfl (by omega) w.heap.size _ 0 [] (own_empty w 34 3) hR (accs_one l) (by unfold maxLen; omega) (by omega) (by simp)
    rw [Nat.zero_add, List.nil_append] at hown
    obtain ⟨A', c', rfl⟩ := own_form hown
    have HR := Lib.hid hrun
    have HO := Lib.hid hown
    have HB : Hid (Below w.heap.size w w') := ((Below.refl _ _).alloc (Nat.le_refl _) _).grown hg (by simp) (fun k hk => by simp [Value.ownBlock] at hk; omega)
    clear h h0 hR hrun hown hg hp hh r
    have hq : ∀ w : World, (binOp .eql 22 (.slice (some ⟨g, 0, none⟩) n c) (.slice none 0 0)).run Tryz.prog w = .ok (.bool false) w := fun w => Lib.run_eql_slice_nil w 22 34 (some ⟨g, 0, none⟩) n c 0 0 Tryz.underlying22
    go_enter Tryz.func28, Tryz.ntmps28
    go_wp2_with (at_builtin; refine wpList_append_run rfl _ _ _ rfl _ _ _ _ rfl rfl HR.out ?_)
    go_ret
    exact ⟨A', c', rfl, HO.out, HB.out⟩

end Go.Proofs.YtaliipcgekhepaaGreat
