/-
  Contract of container/heap's Pop over money's heap of rests.
-/
import Derived.Test.YtbjeikfekhgeoaaMoneyPush
namespace Go.Proofs.Ytbjeikfekhgeoaa
open Go.RowKit

theorem heapAt_row {w : World} {B b n : Nat} {f : Nat → Int × Int} (h : HeapAt w B b (n + 1) f) : ∃ g c, Box w b g (n + 1) c ∧ RRow w g c (n + 1) f ∧ B ≤ g ∧ B ≤ b := by
  obtain ⟨A, c, hb, hown, hB⟩ := h
  rcases hown.2 with ⟨_, h1⟩ | ⟨g, cap, cur, h1, hg, hh, _⟩
  · omega
  · injection h1 with h1 _ hc
    subst h1 hc
    have hne : b ≠ g := by
      rintro rfl
      exact own_ne hown hb (by decide) rfl
    obtain ⟨h1, h2⟩ := row_of_own hown
    exact ⟨g, c, ⟨hb, hne⟩, h1, h2, hB⟩

set_option maxRecDepth 100000 in
set_option maxHeartbeats 1000000 in
theorem heapPop_any (b B n : Nat) (f : Nat → Int × Int) (w : World) (hh : HeapAt w B b (n + 1) f) (hp : Hp.Heap restLt (n + 1) f) (hsm : n < 100000) :
    Calls Try.prog 29 #[.iface 68 (.pointer (some ⟨b, 0, none⟩))] w fun e w' => e = .returned (.iface 66 (.agg #[.int .i64 (f 0).1, .int .u64 (f 0).2])) ∧
      ∃ f', HeapAt w' B b n f' ∧ Hp.Heap restLt n f' ∧ Hp.Perm (n + 1) f f' ∧ f' n = f 0 ∧ Below B w w' := by
  obtain ⟨g, c, hbx, hrow, hBg, hBb⟩ := heapAt_row hh
  have hbl := hbx.lt
  have hm1 := method_len b w _ hbx.cell
  have hm2 := method_swap b w _ hbx.cell
  go_enter Try.func29, Try.ntmps29
  go_wp2_with fail
  refine (len_any _ (n + 1) c w (by unfold maxLen; omega)).mono ?_
  rintro e w' ⟨rfl, rfl⟩
  rw [Int.natCast_add, Int.natCast_one]
  go_wp2_with fail
  refine (swap_row g c (n + 1) 0 n f w hrow (by omega) (by omega)).mono ?_
  rintro e w1 ⟨rfl, hr1, hg1⟩
  go_wp2_with fail
  refine (down_any b g (n + 1) c n 0 (Hp.swap f 0 n) w1 (hbx.grown hg1) hr1 (Hp.Down.start hp) (by omega) (by omega) (by omega)).mono ?_
  rintro e w2 ⟨⟨x, rfl⟩, f', hr2, hh2, hp2, hg2⟩
  have hm3 := method_pop b w2
  have hbx2 := (hbx.grown hg1).grown hg2
  go_wp2_with fail
  refine (popm_any b B n g c f' w2 hbx2 hr2 (by omega) hBg hBb).mono ?_
  rintro e w3 ⟨rfl, hh3, hb3⟩
  go_wp2_with fail
  go_ret
  have e0 : f' n = f 0 := by
    obtain ⟨s, t, _, _, h3⟩ := hp2
    rw [h3 n (Nat.le_refl _), Hp.swap_r]
  refine ⟨by rw [← e0]; rfl, f', hh3, hh2, (Hp.Perm.swap_ f (by omega) (by omega)).trans (hp2.more (by omega)), e0, ?_⟩
  exact ((below_of_grown hg1 hBg (by omega)).trans (below_of_grown hg2 hBg (Nat.le_trans (by omega) hg1.size))).trans hb3
end Go.Proofs.Ytbjeikfekhgeoaa
