/-
  Contract of slices.Clone over agenda's queue.
-/
import Derived.Test.YtafloaabjinkfaaAgNext
import Derived.Lib.SliceRun
namespace Go.Proofs.Ytafloaabjinkfaa
open Go.RowKit

theorem own_emptyAg (w : World) (T : TypeId) (size : Nat) : (w.alloc (.cells #[] T)).ownsRow w.heap.size T size (.slice (some ⟨w.heap.size, 0, none⟩) 0 0) 0 [] :=
  ⟨by simp, .inr ⟨w.heap.size, 0, #[], rfl, Nat.le_refl _, heap_new _ _, Nat.le_refl _, Nat.zero_le _, by simp, by simp⟩⟩

theorem itms_one (l : List Itm) : ∀ u ∈ itms l, u.oneCell' = true := by
  intro u hu
  unfold itms at hu
  obtain ⟨a, _, ha⟩ := List.mem_flatMap.1 hu
  simp [Itm.cells] at ha
  rcases ha with rfl | rfl | rfl <;> rfl
set_option maxRecDepth 100000 in
set_option maxHeartbeats 400000 in
theorem clone_anyAg (B n c : Nat) (A : Option Addr) (l : List Itm) (w : World) (h : w.ownsRow B 33 3 (.slice A n c) n (itms l)) (hn : n ≤ 1000000) :
    Calls Try.prog 21 #[.slice A n c] w fun e w' => ∃ A' c', e = .returned (.slice A' n c') ∧ w'.ownsRow w.heap.size 33 3 (.slice A' n c') n (itms l) ∧ Below w.heap.size w w' := by
  have h0 := h
  rcases h0.2 with ⟨hv, rfl⟩ | ⟨g, cap, cur, hv, hB, hh, r⟩
  · injection hv with h1 _ h3
    subst h1 h3
    have hl : itms l = [] := List.eq_nil_of_length_eq_zero (by simpa using h.1)
    rw [hl]
    clear h h0 hl
    have hq : ∀ w : World, (binOp .eql 26 (.slice none 0 0) (.slice none 0 0)).run Try.prog w = .ok (.bool true) w := fun w => Lib.run_eql_slice_nil w 26 33 none 0 0 0 0 Try.underlying26
    go_enter Try.func21, Try.ntmps21
    go_wp2
    go_ret
    exact ⟨none, 0, rfl, World.ownsRow_nil _ _ _ _, Below.refl _ _⟩
  · injection hv with h1 _ h3
    subst h1 h3
    have hR : Rd (w.alloc (.cells #[] 33)) (w.heap.size) 3 (some ⟨g, 0, none⟩) n (itms l) := (rd_of_own h).below ((Below.refl _ _).alloc (Nat.le_refl _) _)
    obtain ⟨v', w', hrun, hown, hg, hp⟩ := append_fresh (P := Try.prog) (ty := 26) (c := c) infoItm Try.underlying26 rfl (by omega) w.heap.size _ 0 [] (own_emptyAg w 33 3) hR (itms_one l) (by unfold maxLen; omega) (by omega) (by simp)
    rw [Nat.zero_add, List.nil_append] at hown
    obtain ⟨A', c', rfl⟩ := own_form hown
    have HR := Lib.hid hrun
    have HO := Lib.hid hown
    have HB : Hid (Below w.heap.size w w') := ((Below.refl _ _).alloc (Nat.le_refl _) _).grown hg (by simp) (fun k hk => by simp [Value.ownBlock] at hk; omega)
    clear h h0 hR hrun hown hg hp hh r
    have hq : ∀ w : World, (binOp .eql 26 (.slice (some ⟨g, 0, none⟩) n c) (.slice none 0 0)).run Try.prog w = .ok (.bool false) w := fun w => Lib.run_eql_slice_nil w 26 33 (some ⟨g, 0, none⟩) n c 0 0 Try.underlying26
    go_enter Try.func21, Try.ntmps21
    go_wp2_with (at_builtin; refine wpList_append_run rfl _ _ _ rfl _ _ _ _ rfl rfl HR.out ?_)
    go_ret
    exact ⟨A', c', rfl, HO.out, HB.out⟩

end Go.Proofs.Ytafloaabjinkfaa
