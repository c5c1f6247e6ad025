/-
  Contracts of container/heap's up and down over money's heap of rests.
-/
import Derived.Test.YthjpknipnmagkaaGreatMoneyHeap
namespace Go.Proofs.YthjpknipnmagkaaGreat.Mo
open Go.RowKit

/-- The variable in block b holds the slice over the row in block g. -/
def Box (w : World) (b g n cap : Nat) : Prop := w.heap[b]? = some (.cells #[.slice (some ⟨g, 0, none⟩) n cap] 281 (0, 0)) ∧ b ≠ g
theorem Box.cell {w : World} {b g n cap : Nat} (h : Box w b g n cap) : w.cell? ⟨b, 0, none⟩ = some (.slice (some ⟨g, 0, none⟩) n cap) := by simp [World.cell?, h.1]
theorem Box.lt {w : World} {b g n cap : Nat} (h : Box w b g n cap) : b < w.heap.size := by
  rcases Nat.lt_or_ge b w.heap.size with hlt | hge
  · exact hlt
  · have := h.1; rw [Array.getElem?_eq_none hge] at this; cases this
theorem Box.grown {w w' : World} {b g n cap : Nat} (h : Box w b g n cap) (hg : w.grownBy w' (some g)) : Box w' b g n cap :=
  ⟨(hg.block b h.lt (fun e => h.2 (by injection e))).trans h.1, h.2⟩

theorem method_less (b : Nat) (w : World) (v : Value) (hc : w.cell? ⟨b, 0, none⟩ = some v) :
    (method 442 286 (.pointer (some ⟨b, 0, none⟩)) "Less").run Tryz.prog w = .ok (285, v) w := method_through (by kernel_rfl) Tryz.underlying286 (by simp [go_sem, hc])
theorem method_swap (b : Nat) (w : World) (v : Value) (hc : w.cell? ⟨b, 0, none⟩ = some v) :
    (method 442 286 (.pointer (some ⟨b, 0, none⟩)) "Swap").run Tryz.prog w = .ok (286, v) w := method_through (by kernel_rfl) Tryz.underlying286 (by simp [go_sem, hc])
theorem method_len (b : Nat) (w : World) (v : Value) (hc : w.cell? ⟨b, 0, none⟩ = some v) :
    (method 442 286 (.pointer (some ⟨b, 0, none⟩)) "Len").run Tryz.prog w = .ok (284, v) w := method_through (by kernel_rfl) Tryz.underlying286 (by simp [go_sem, hc])
theorem method_push (b : Nat) (w : World) :
    (method 442 286 (.pointer (some ⟨b, 0, none⟩)) "Push").run Tryz.prog w = .ok (288, .pointer (some ⟨b, 0, none⟩)) w := by kernel_rfl
theorem method_pop (b : Nat) (w : World) :
    (method 442 286 (.pointer (some ⟨b, 0, none⟩)) "Pop").run Tryz.prog w = .ok (287, .pointer (some ⟨b, 0, none⟩)) w := by kernel_rfl

theorem RRow.drewN {w : World} {g cap n : Nat} {f : Nat → Int × Int} (h : RRow w g cap n f) (k : Nat) : RRow (w.drewN k) g cap n f := h
theorem Box.drewN {w : World} {b g n cap : Nat} (h : Box w b g n cap) (k : Nat) : Box (w.drewN k) b g n cap := h
theorem grown_drewN {a w : World} {row : Option Nat} (h : a.grownBy w row) (n : Nat) : a.grownBy (w.drewN n) row := ⟨h.os, h.tape, h.output, h.size, h.block⟩

set_option maxRecDepth 100000 in
set_option maxHeartbeats 400000 in
theorem up_any (b g n cap j : Nat) (f : Nat → Int × Int) (w : World) (hb : Box w b g n cap) (hr : RRow w g cap n f) (hu : Hp.Up restLt n j f) (hj : j < n) :
    Calls Tryz.prog 185 #[.iface 286 (.pointer (some ⟨b, 0, none⟩)), .int .i64 j] w fun e w' => e = .returned (.tuple #[]) ∧
      ∃ f', RRow w' g cap n f' ∧ Hp.Heap restLt n f' ∧ Hp.Perm n f f' ∧ w.grownBy w' (some g) := by
  have hn : n ≤ maxLen := by obtain ⟨_, _, a, b, _⟩ := hr; omega
  unfold maxLen at hn
  go_enter Tryz.func185, Tryz.ntmps185
  go_wp2_with fail
  go_loopw [1] (fun x wr => ∃ k f', k < n ∧ x = .int .i64 (k : Nat) ∧ RRow wr g cap n f' ∧ Hp.Up restLt n k f' ∧ Hp.Perm n f f' ∧ w.grownBy wr (some g)) (fun x _ => (intOf x).toNat)
  case atStart => exact ⟨j, f, hj, rfl, hr, hu, Hp.Perm.refl _ _, World.grownBy.refl _ _⟩
  case round =>
    obtain ⟨k, f1, hk, rfl, hr1, hu1, hp1, hg1⟩ := hrel
    by_cases h0 : k = 0
    · subst h0
      go_wp2_with fail
      go_end0
      exact ⟨rfl, f1, hr1, hu1.done (.inl rfl), hp1, hg1⟩
    · have he : ((k : Int) - 1) / 2 = (((k - 1) / 2 : Nat) : Int) := by omega
      have hlt : (k - 1) / 2 < k := by omega
      have H1 := Lib.hid (hu1.done (lt := restLt))
      have H2 := Lib.hid (hu1.step restOrd (by omega) hk)
      generalize (k - 1) / 2 = i at *
      have hne : ((i : Int) == (k : Int)) = false := by simp; omega
      have hbx := (hb.grown hg1).cell
      have hml := method_less b wr _ hbx
      go_wp2_with fail
      refine (less_row g cap n k i f1 wr hr1 hk (by omega)).mono ?_
      rintro e w' ⟨rfl, m, rfl⟩
      cases hl : restLt (f1 k) (f1 i)
      · go_wp2_with fail
        go_end0
        exact ⟨rfl, f1, hr1, H1.out (.inr hl), hp1, grown_drewN hg1 m⟩
      · have hms := method_swap b (wr.drewN m) _ hbx
        have Hl := Lib.hid hl
        clear hl hml
        go_wp2_with fail
        refine (swap_row g cap n i k f1 _ (hr1.drewN m) (by omega) hk).mono ?_
        rintro e w' ⟨rfl, hr2, hg2⟩
        go_wp2_with fail
        exact ⟨⟨i, Hp.swap f1 i k, by omega, rfl, hr2, H2.out Hl.out, hp1.trans (Hp.Perm.swap_ f1 (by omega) hk), (grown_drewN hg1 m).trans hg2⟩, by simp [intOf]; omega⟩

def SomeBool (e : Ending) : Prop := ∃ x, e = .returned (.bool x)

set_option maxRecDepth 100000 in
set_option maxHeartbeats 1000000 in
/-- 'down' from i0 on, in the first N places of the row. -/
theorem down_any (b g n cap N i0 : Nat) (f : Nat → Int × Int) (w : World) (hb : Box w b g n cap) (hr : RRow w g cap n f) (hu : Hp.Down restLt N i0 f) (hN : N ≤ n) (hi0 : i0 < n) (hsm : n < 1000000) :
    Calls Tryz.prog 184 #[.iface 286 (.pointer (some ⟨b, 0, none⟩)), .int .i64 i0, .int .i64 N] w fun e w' => SomeBool e ∧
      ∃ f', RRow w' g cap n f' ∧ Hp.Heap restLt N f' ∧ Hp.Perm N f f' ∧ w.grownBy w' (some g) := by
  go_enter Tryz.func184, Tryz.ntmps184
  go_wp2_with fail
  go_loopw [7] (fun x wr => ∃ k f', k < n ∧ x = .int .i64 (k : Nat) ∧ RRow wr g cap n f' ∧ Hp.Down restLt N k f' ∧ Hp.Perm N f f' ∧ w.grownBy wr (some g)) (fun x _ => n - (intOf x).toNat)
  case atStart => exact ⟨i0, f, hi0, rfl, hr, hu, Hp.Perm.refl _ _, World.grownBy.refl _ _⟩
  case round =>
    obtain ⟨k, f1, hk, rfl, hr1, hu1, hp1, hg1⟩ := hrel
    have hbx := (hb.grown hg1).cell
    obtain ⟨j1, hj1⟩ : ∃ j1, j1 = 2 * k + 1 := ⟨_, rfl⟩
    obtain ⟨j2, hj2⟩ : ∃ j2, j2 = j1 + 1 := ⟨_, rfl⟩
    have e1 : 2 * (k : Int) + 1 = (j1 : Int) := by omega
    have e2 : (j1 : Int) + 1 = (j2 : Int) := by omega
    have J1 := Lib.hid hj1
    have J2 := Lib.hid hj2
    clear hj1 hj2
    have hk1 : k < j1 := by have := J1.out; omega
    have hsm1 : j1 < 2000001 := by have := J1.out; omega
    have hsm2 : j2 < 2000002 := by have := J2.out; omega
    by_cases h1 : N ≤ j1
    · go_wp2_with fail
      go_ret
      refine ⟨⟨_, rfl⟩, f1, hr1, hu1.done ?_, hp1, hg1⟩
      intro q h0 hq hp
      have := J1.out; omega
    · have hml := method_less b wr _ hbx
      by_cases h2 : j2 < N
      · go_wp2_with fail
        refine (less_row g cap n j2 j1 f1 wr hr1 (by omega) (by omega)).mono ?_
        rintro e w' ⟨rfl, m, rfl⟩
        have hml2 := method_less b (wr.drewN m) _ hbx
        cases hl : restLt (f1 j2) (f1 j1)
        · have Hl := Lib.hid hl
          clear hl
          go_wp2_with fail
          have hm : ∀ q, 0 < q → q < N → (q - 1) / 2 = k → restLt (f1 q) (f1 j1) = false := by
            have a1 := J1.out
            have a2 := J2.out
            intro q h0 hq hp
            rcases (show q = j1 ∨ q = j2 by omega) with rfl | rfl
            · exact restOrd.irr _
            · exact Hl.out
          have HM := Lib.hid hm
          clear hm
          refine (less_row g cap n j1 k f1 _ (hr1.drewN m) (by omega) hk).mono ?_
          rintro e w' ⟨rfl, m2, rfl⟩
          cases hl2 : restLt (f1 j1) (f1 k)
          · have Hl2 := Lib.hid hl2
            clear hl2
            go_wp2_with fail
            go_ret
            exact ⟨⟨_, rfl⟩, f1, hr1, hu1.done (fun q h0 hq hp => restOrd.neg _ _ _ (HM.out q h0 hq hp) Hl2.out), hp1, grown_drewN hg1 _⟩
          · have Hl2 := Lib.hid hl2
            clear hl2
            have hms := method_swap b ((wr.drewN m).drewN m2) _ hbx
            rw [World.drewN_drewN] at hms
            go_wp2_with fail
            refine (swap_row g cap n k j1 f1 _ (hr1.drewN _) hk (by omega)).mono ?_
            rintro e w' ⟨rfl, hr2, hg2⟩
            go_wp2_with fail
            exact ⟨⟨j1, Hp.swap f1 k j1, by omega, rfl, hr2, hu1.step restOrd (by omega) (by omega) (by have := J1.out; have := J2.out; omega) Hl2.out HM.out, hp1.trans (Hp.Perm.swap_ f1 (by omega) (by omega)), (grown_drewN hg1 _).trans hg2⟩, by simp [intOf]; omega⟩
        · have Hl := Lib.hid hl
          clear hl
          go_wp2_with fail
          have hm : ∀ q, 0 < q → q < N → (q - 1) / 2 = k → restLt (f1 q) (f1 j2) = false := by
            have a1 := J1.out
            have a2 := J2.out
            intro q h0 hq hp
            rcases (show q = j1 ∨ q = j2 by omega) with rfl | rfl
            · exact restOrd.asym _ _ Hl.out
            · exact restOrd.irr _
          have HM := Lib.hid hm
          clear hm
          refine (less_row g cap n j2 k f1 _ (hr1.drewN m) (by omega) hk).mono ?_
          rintro e w' ⟨rfl, m2, rfl⟩
          cases hl2 : restLt (f1 j2) (f1 k)
          · have Hl2 := Lib.hid hl2
            clear hl2
            go_wp2_with fail
            go_ret
            exact ⟨⟨_, rfl⟩, f1, hr1, hu1.done (fun q h0 hq hp => restOrd.neg _ _ _ (HM.out q h0 hq hp) Hl2.out), hp1, grown_drewN hg1 _⟩
          · have Hl2 := Lib.hid hl2
            clear hl2
            have hms := method_swap b ((wr.drewN m).drewN m2) _ hbx
            rw [World.drewN_drewN] at hms
            go_wp2_with fail
            refine (swap_row g cap n k j2 f1 _ (hr1.drewN _) hk (by omega)).mono ?_
            rintro e w' ⟨rfl, hr2, hg2⟩
            go_wp2_with fail
            exact ⟨⟨j2, Hp.swap f1 k j2, by omega, rfl, hr2, hu1.step restOrd (by omega) (by omega) (by have := J1.out; have := J2.out; omega) Hl2.out HM.out, hp1.trans (Hp.Perm.swap_ f1 (by omega) (by omega)), (grown_drewN hg1 _).trans hg2⟩, by simp [intOf]; omega⟩
      · go_wp2_with fail
        have hm : ∀ q, 0 < q → q < N → (q - 1) / 2 = k → restLt (f1 q) (f1 j1) = false := by
          have a1 := J1.out
          have a2 := J2.out
          intro q h0 hq hp
          rcases (show q = j1 ∨ q = j2 by omega) with rfl | rfl
          · exact restOrd.irr _
          · omega
        have HM := Lib.hid hm
        clear hm
        refine (less_row g cap n j1 k f1 _ hr1 (by omega) hk).mono ?_
        rintro e w' ⟨rfl, m2, rfl⟩
        cases hl2 : restLt (f1 j1) (f1 k)
        · have Hl2 := Lib.hid hl2
          clear hl2
          go_wp2_with fail
          go_ret
          exact ⟨⟨_, rfl⟩, f1, hr1, hu1.done (fun q h0 hq hp => restOrd.neg _ _ _ (HM.out q h0 hq hp) Hl2.out), hp1, grown_drewN hg1 _⟩
        · have Hl2 := Lib.hid hl2
          clear hl2
          have hms := method_swap b (wr.drewN m2) _ hbx
          go_wp2_with fail
          refine (swap_row g cap n k j1 f1 _ (hr1.drewN _) hk (by omega)).mono ?_
          rintro e w' ⟨rfl, hr2, hg2⟩
          go_wp2_with fail
          exact ⟨⟨j1, Hp.swap f1 k j1, by omega, rfl, hr2, hu1.step restOrd (by omega) (by omega) (by have := J1.out; have := J2.out; omega) Hl2.out HM.out, hp1.trans (Hp.Perm.swap_ f1 (by omega) (by omega)), (grown_drewN hg1 _).trans hg2⟩, by simp [intOf]; omega⟩
end Go.Proofs.YthjpknipnmagkaaGreat.Mo

