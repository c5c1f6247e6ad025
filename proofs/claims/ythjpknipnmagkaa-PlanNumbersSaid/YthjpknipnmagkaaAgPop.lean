/-
  Contract of container/heap's Pop over agenda's queue.
-/
import Derived.Test.YthjpknipnmagkaaMany11
namespace Go.Proofs.Ythjpknipnmagkaa
open Go.RowKit Go.Sort

theorem heapAt_row {w : World} {B b n : Nat} {v : Value} {f : Nat → Itm} (h : HeapAt w B b v (n + 1) f) : ∃ g c, v = .slice (some ⟨g, 0, none⟩) (n + 1) c ∧ Box w b g (n + 1) c ∧ RRow w g c (n + 1) f ∧ B ≤ g ∧ B ≤ b := by
  obtain ⟨hb, hown, hB⟩ := h
  rcases hown.2 with ⟨_, h1⟩ | ⟨g, cap, cur, rfl, hg, hh, _⟩
  · omega
  · have hne : b ≠ g := by
      rintro rfl
      exact own_ne hown hb (by decide) rfl
    obtain ⟨h1, h2⟩ := row_of_own hown
    exact ⟨g, cap, rfl, ⟨hb, hne⟩, h1, h2, hB⟩

set_option maxRecDepth 100000 in
set_option maxHeartbeats 1000000 in
theorem heapPop_any (b B n : Nat) (v : Value) (f : Nat → Itm) (w : World) (hh : HeapAt w B b v (n + 1) f) (hp : Hp.Heap itmLt (n + 1) f) (hsm : n < 100000) :
    Calls Try.prog 67 #[.iface 120 (.pointer (some ⟨b, 0, none⟩))] w fun e w' => e = .returned (.iface 86 (.agg #[.int .i64 (f 0).per, .int .i64 (f 0).rk, .int .i64 (f 0).id])) ∧
      ∃ f', HeapStay w B b v n f' w' ∧ Hp.Heap itmLt n f' ∧ Hp.Perm (n + 1) f f' ∧ f' n = f 0 := by
  obtain ⟨g, c, rfl, hbx, hrow, hBg, hBb⟩ := heapAt_row hh
  have hbl := hbx.lt
  have hm1 := method_len b w _ hbx.cell
  have hm2 := method_swap b w _ hbx.cell
  clear hh
  go_enter Try.func67, Try.ntmps67
  go_wp2_with fail
  refine (lenI_any _ (n + 1) c w (by unfold maxLen; omega)).mono ?_
  rintro e w' ⟨rfl, rfl⟩
  rw [Int.natCast_add, Int.natCast_one]
  go_wp2_with fail
  refine (swap_row g c (n + 1) 0 n f w hrow (by omega) (by omega)).mono ?_
  rintro e w1 ⟨rfl, hr1, hg1⟩
  go_wp2_with fail
  refine (down_any b g (n + 1) c n 0 0 (Hp.swap f 0 n) w1 (hbx.grown hg1) hr1 (Hp.Down.start hp).s (Nat.le_refl _) (by omega) (by omega) (by omega)).mono ?_
  rintro e w2 ⟨⟨x, rfl⟩, f', hr2, hh2, hp2, hg2⟩
  have hm3 := method_pop b w2
  have hbx2 := (hbx.grown hg1).grown hg2
  go_wp2_with fail
  refine (popm_any b B n g c f' w2 hbx2 hr2 (by omega) hBg hBb).mono ?_
  rintro e w3 ⟨rfl, hh3⟩
  have HH3 := Lib.hid hh3
  clear hh3
  go_wp2_with fail
  go_ret
  have e0 : f' n = f 0 := by
    obtain ⟨s, t, _, _, h3⟩ := hp2
    rw [h3 n (Nat.le_refl _), Hp.swap_r]
  obtain ⟨v', h1, h2, h3⟩ := HH3.out
  have hsz := Nat.le_trans hg1.size hg2.size
  refine ⟨by rw [← e0]; rfl, f', ⟨v', h1, (((But.of_grown hg1).trans (But.of_grown hg2)).wide fun k _ hk => ?_).trans h2, h3⟩, hh2.all, (Hp.Perm.swap_ f (by omega) (by omega)).trans (hp2.more (by omega)), e0⟩
  exact .inr (by injection hk with hk; subst hk; rfl)
end Go.Proofs.Ythjpknipnmagkaa

