/-
  Contracts of slices.Grow of a nil slice, and of slices.Concat of two slices, of balances.
-/
import Derived.Test.YthjpknipnmagkaaMany9
import Derived.Test.YthjpknipnmagkaaMany2
import Derived.Lib.AppendZeros
namespace Go.Proofs.Ythjpknipnmagkaa
open Go.RowKit

theorem infoBal_rest : (Try.prog.info? 68).map (fun i => i.size) = some 2 := by kernel_rfl
theorem balsOne (l : List Bal) : ∀ u ∈ bals l, u.oneCell' = true := by
  intro u hu
  obtain ⟨a, _, hu⟩ := List.mem_flatMap.1 hu
  simp [Bal.cells] at hu
  rcases hu with rfl | rfl <;> rfl
/-- One's own, of length 0. -/
theorem own_zero {w : World} {B g c : Nat} {e : TypeId} {size : Nat} {cur : Array Value} (hB : B ≤ g) (hh : w.heap[g]? = some (.cells cur e (0, 0))) (hc : c ≤ maxLen) (hs : cur.size = c * size) : w.ownsRow B e size (.slice (some ⟨g, 0, none⟩) 0 c) 0 [] :=
  ⟨by simp, .inr ⟨g, c, cur, rfl, hB, hh, Nat.zero_le _, hc, hs, by simp⟩⟩
set_option maxRecDepth 100000 in
set_option maxHeartbeats 1000000 in
theorem growNil_any (n : Nat) (w : World) (hn : n ≤ 1000000) :
    Calls Try.prog 74 #[.slice none 0 0, .int .i64 n] w fun e w' => ∃ A c, e = .returned (.slice A 0 c) ∧ w'.ownsRow w.heap.size 68 2 (.slice A 0 c) 0 [] ∧ Below w.heap.size w w' := by
  obtain ⟨i0, hi0, hz0, hz1, hz2⟩ := info_parts infoBal
  by_cases h0 : n = 0
  · subst h0
    go_enter Try.func74, Try.ntmps74
    go_wp2_with fail
    go_ret
    exact ⟨none, 0, rfl, World.ownsRow_nil _ _ _ _, Below.refl _ _⟩
  · have hrun := fun ty => Lib.run_append_nil_zeros (P := Try.prog) w 51 3 ty 68 i0 _ .i64 .i64 Try.underlying51 Try.underlying3 hi0 hz0 n (by omega) (by rw [hz1]; omega) (by omega) (by rw [hz2]; omega)
    have hcap : grownCap w n 0 68 ≤ maxLen := grownCap_le_maxLen w n 0 _ (by unfold maxLen; omega)
    have hge : n ≤ grownCap w n 0 68 := grownCap_ge w n 0 _
    obtain ⟨cs, hcs⟩ : ∃ cs, Builtin.zeroCells (Value.agg #[.int .i64 0, .int .i64 0]).cells n ++ Builtin.zeroCells (Value.agg #[.int .i64 0, .int .i64 0]).cells (grownCap w n 0 68 - n) = cs := ⟨_, rfl⟩
    have hsz : cs.size = grownCap w n 0 68 * 2 := by
      rw [← hcs, Array.size_append, size_zeroCells, size_zeroCells]
      show n * 2 + (grownCap w n 0 68 - n) * 2 = _
      omega
    rw [hcs] at hrun
    have HSZ := Lib.hid hsz; have HCAP := Lib.hid hcap
    have hnI : (0 : Int) < (n : Int) := by omega
    generalize grownCap w n 0 68 = cap at *
    clear hcs hi0 hz0 hz1 hz2 hsz hcap
    have HGE := Lib.hid hge
    have hge0 : (0 : Int) ≤ (cap : Int) := by omega
    go_enter Try.func74, Try.ntmps74
    go_wp2_with (at_builtin; refine Lib.wpList_append_run _ rfl _ _ _ _ rfl _ _ rfl rfl _ _ (hrun _) ?_)
    go_ret
    refine ⟨_, cap, rfl, own_zero (Nat.le_refl _) (heap_new w.drew (.cells cs 68)) (by exact HCAP.out) (by exact HSZ.out), ?_⟩
    exact (below_drewN (Below.refl _ _) 1).alloc (by show w.heap.size ≤ w.heap.size; omega) _

/-- Balances appended to balances of one's own. -/
theorem append_bals {w : World} {base m n c B : Nat} {v : Value} {A : Option Addr} {L l : List Bal} (h : w.ownsRow base 68 2 v m (bals L)) (h2 : Rd w B 2 A n (bals l)) (hb : base ≤ w.heap.size) (hm : m + n ≤ 2000000) :
    ∃ v' w', (∀ ty, (Builtin.append_ #[51, 51] ty #[v, .slice A n c]).run Try.prog w = .ok v' w') ∧ w'.ownsRow base 68 2 v' (m + n) (bals (L ++ l)) ∧ Below base w w' := by
  obtain ⟨v', w', hrun, hown, hg, hp⟩ := append_fresh (P := Try.prog) (ty := 0) (c := c) infoBal Try.underlying51 rfl (by omega) base v m (bals L) h h2 (balsOne _) (by unfold maxLen; omega) (by omega) hb
  exact ⟨v', w', fun ty => hrun, by rw [bals_append]; exact hown, (Below.refl _ _).grown hg hb (own_ge h)⟩
set_option maxRecDepth 100000 in
set_option maxHeartbeats 2000000 in
theorem concat_any (l1 l2 : List Bal) (A1 A2 : Option Addr) (n1 n2 c1 c2 B g : Nat) (w : World) (h1 : Rd w B 2 A1 n1 (bals l1)) (h2 : Rd w B 2 A2 n2 (bals l2)) (hB : B ≤ w.heap.size) (hn1 : n1 ≤ 400000) (hn2 : n2 ≤ 400000)
    (hg0 : w.cell? ⟨g, 0, none⟩ = some (.slice A1 n1 c1)) (hg1 : w.cell? ⟨g, 1, none⟩ = some (.slice A2 n2 c2)) (hg : g < w.heap.size) :
    Calls Try.prog 48 #[.slice (some ⟨g, 0, none⟩) 2 2] w fun e w' => ∃ A c, e = .returned (.slice A (n1 + n2) c) ∧ w'.ownsRow w.heap.size 68 2 (.slice A (n1 + n2) c) (n1 + n2) (bals (l1 ++ l2)) ∧ Below w.heap.size w w' := by
  have kg := growNil_any (n1 + n2) w (by omega)
  rw [show ((n1 + n2 : Nat) : Int) = (n1 : Int) + (n2 : Int) by omega] at kg
  have KG := Lib.hid kg
  have HR1 := Lib.hid (fun w1 (hb : Below w.heap.size w w1) => h1.far hb hB)
  have HR2 := Lib.hid (fun w1 (hb : Below w.heap.size w w1) => h2.far hb hB)
  have HC0 := Lib.hid (fun w1 (hb : Below w.heap.size w w1) => (hb.cell (p := ⟨g, 0, none⟩) hg).trans hg0)
  have HC1 := Lib.hid (fun w1 (hb : Below w.heap.size w w1) => (hb.cell (p := ⟨g, 1, none⟩) hg).trans hg1)
  have hnn1 : ¬ ((n1 : Int) < 0) := by omega
  clear h1 h2 kg
  go_enter Try.func48, Try.ntmps48
  go_wp2_with fail
  go_loopw [3, 11] (fun sv iv wr => ((iv = .int .i64 0 ∧ sv = .int .i64 0) ∨ (iv = .int .i64 1 ∧ sv = .int .i64 n1) ∨ (iv = .int .i64 2 ∧ sv = .int .i64 ((n1 : Int) + (n2 : Int)))) ∧ wr = w) (fun _ iv _ => 2 - (intOf iv).toNat)
  case atStart => exact ⟨.inl ⟨rfl, rfl⟩, rfl⟩
  case round =>
    obtain ⟨hcase, hw0⟩ := hrel
    have hw1 := hw0.symm
    subst hw1
    clear hw0
    rcases hcase with ⟨rfl, rfl⟩ | ⟨rfl, rfl⟩ | ⟨rfl, rfl⟩
    · go_wp2_with fail
      exact ⟨⟨.inr (.inl ⟨rfl, rfl⟩), trivial⟩, by simp [intOf]⟩
    · go_wp2_with fail
      exact ⟨⟨.inr (.inr ⟨rfl, rfl⟩), trivial⟩, by simp [intOf]⟩
    · go_wp2_with fail
      refine KG.out.mono ?_
      rintro e w1 ⟨A, c, rfl, hown, hb1⟩
      have HO := Lib.hid hown
      have HB1 := Lib.hid hb1
      clear hown hb1 KG
      go_wp2_with fail
      go_loopw [6, 27] (fun lv iv wq => ∃ A c n l, lv = .slice A n c ∧ wq.ownsRow w.heap.size 68 2 (.slice A n c) n (bals l) ∧ Below w.heap.size w wq ∧ ((iv = .int .i64 0 ∧ n = 0 ∧ l = []) ∨ (iv = .int .i64 1 ∧ n = n1 ∧ l = l1) ∨ (iv = .int .i64 2 ∧ n = n1 + n2 ∧ l = l1 ++ l2))) (fun _ iv _ => 2 - (intOf iv).toNat)
      case atStart => exact ⟨A, c, 0, [], rfl, HO.out, HB1.out, .inl ⟨rfl, rfl, rfl⟩⟩
      case round =>
        obtain ⟨A, c, n, l, rfl, hown, hbel, hcase⟩ := hrel
        have hc0 := HC0.out wr hbel
        have hc1 := HC1.out wr hbel
        have hr1 := HR1.out wr hbel
        have hr2 := HR2.out wr hbel
        have HBEL := Lib.hid hbel
        have hsz := hbel.size
        rcases hcase with ⟨rfl, rfl, rfl⟩ | ⟨rfl, rfl, rfl⟩ | ⟨rfl, rfl, rfl⟩
        · obtain ⟨v', w2, hrun, hown2, hb2⟩ := append_bals (c := c1) hown hr1 hsz (by omega)
          rw [Nat.zero_add, List.nil_append] at hown2
          obtain ⟨A2', c2', rfl⟩ := own_form hown2
          have HO2 := Lib.hid hown2
          have HB2 := Lib.hid (HBEL.out.trans hb2)
          clear hown hown2 hb2 hr1 hr2 hbel
          go_wp2_with (at_builtin; refine Lib.wpList_append_run _ rfl _ _ _ _ rfl _ _ rfl rfl _ _ (hrun _) ?_)
          exact ⟨⟨_, _, _, _, rfl, HO2.out, HB2.out, .inr (.inl ⟨rfl, rfl, rfl⟩)⟩, by simp [intOf]⟩
        · obtain ⟨v', w2, hrun, hown2, hb2⟩ := append_bals (c := c2) hown hr2 hsz (by omega)
          obtain ⟨A2', c2', rfl⟩ := own_form hown2
          have HO2 := Lib.hid hown2
          have HB2 := Lib.hid (HBEL.out.trans hb2)
          clear hown hown2 hb2 hr1 hr2 hbel
          go_wp2_with (at_builtin; refine Lib.wpList_append_run _ rfl _ _ _ _ rfl _ _ rfl rfl _ _ (hrun _) ?_)
          exact ⟨⟨_, _, _, _, rfl, HO2.out, HB2.out, .inr (.inr ⟨rfl, rfl, rfl⟩)⟩, by simp [intOf]⟩
        · have HO := Lib.hid hown
          clear hown hr1 hr2 hbel
          go_wp2_with fail
          go_ret
          exact ⟨_, _, rfl, HO.out, HBEL.out⟩
end Go.Proofs.Ythjpknipnmagkaa

