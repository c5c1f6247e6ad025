/-
  Contract of (*Gates).Set.
-/
import Derived.Test.YtgoekobolomppaaGatesSteps
import Derived.Laws.EntriesVeiled
namespace Go.Proofs.Ytgoekobolomppaa
open Go.RowKit

theorem GatesTo.on {w w1 w' : World} {B c : Nat} {v : Value} {l : List Trio} (hb : Below w.heap.size w w1) (h : GatesTo w1 B c v l w') : GatesTo w B c v l w' := by
  obtain ⟨v', h1, h2, h3⟩ := h
  refine ⟨v', h1, (But.of_below hb).trans h2, fun k hk => ?_⟩
  rcases h3 k hk with h | h
  · exact .inl h
  · exact .inr (Nat.le_trans hb.size h)
theorem setE_bad {l : List Trio} {en pe s : Int} (h : okT en pe = false ∨ s < 0 ∨ 2 < s) : setE l en pe s = 1 ∧ setT l en pe s = l := by
  have : setE l en pe s = 1 := by
    unfold setE
    rw [if_neg]
    rintro ⟨h1, h2, h3⟩
    rcases h with h | h | h
    · rw [h1] at h; cases h
    · omega
    · omega
  exact ⟨this, by simp [setT, this]⟩
theorem setE_locked {l : List Trio} {en pe s : Int} (ho : okT en pe = true) (h0 : ¬ s < 0) (h2 : ¬ 2 < s) (h : stT l en pe = 2 ∨ (s = 2 ∧ stT l en pe ≠ 1)) : setE l en pe s = 11 ∧ setT l en pe s = l := by
  have : setE l en pe s = 11 := by
    unfold setE
    rw [if_pos ⟨ho, by omega, by omega⟩, if_pos h]
  exact ⟨this, by simp [setT, this]⟩
theorem setE_goes {l : List Trio} {en pe s : Int} (ho : okT en pe = true) (h0 : ¬ s < 0) (h2 : ¬ 2 < s) (h : ¬ (stT l en pe = 2 ∨ (s = 2 ∧ stT l en pe ≠ 1))) : setE l en pe s = 0 ∧ setT l en pe s = newT l en pe s := by
  have : setE l en pe s = 0 := by
    unfold setE
    rw [if_pos ⟨ho, by omega, by omega⟩, if_neg h]
  exact ⟨this, by simp [setT, this]⟩

set_option maxRecDepth 100000 in
set_option maxHeartbeats 400000 in
theorem set_nil (en pe s : Int) (w : World) : Calls Try.prog 8 #[.pointer none, .int .i64 en, .int .i64 pe, .int .i64 s] w fun e w' => e = .returned (.int .i64 1) ∧ w = w' := by
  go_enter Try.func8, Try.ntmps8
  go_wp2_with fail
  go_ret
  exact ⟨rfl, rfl⟩

set_option maxRecDepth 100000 in
set_option maxHeartbeats 400000 in
theorem set_bad (B c : Nat) (v : Value) (l : List Trio) (en pe s : Int) (w : World) (h : GatesAt w B c v l) (hx : okT en pe = false ∨ s < 0 ∨ 2 < s) :
    Calls Try.prog 8 #[.pointer (some ⟨c, 0, none⟩), .int .i64 en, .int .i64 pe, .int .i64 s] w fun e w' => e = .returned (.int .i64 1) ∧ GatesTo w B c v l w' := by
  have HC := Lib.hid h
  have hclt := h.lt
  have kk := known_any en pe w
  clear h
  cases ho : okT en pe
  · rw [ho] at kk
    clear ho hx
    go_enter Try.func8, Try.ntmps8
    go_wp2_with fail
    refine kk.mono ?_
    rintro e w1 ⟨rfl, hb⟩
    go_wp2_with fail
    go_ret
    exact ⟨rfl, GatesTo.same HC.out hb⟩
  · rw [ho] at kk hx
    replace hx : s < 0 ∨ 2 < s := by simpa using hx
    clear ho
    by_cases h1 : s < 0
    · go_enter Try.func8, Try.ntmps8
      go_wp2_with fail
      refine kk.mono ?_
      rintro e w1 ⟨rfl, hb⟩
      go_wp2_with fail
      go_ret
      exact ⟨rfl, GatesTo.same HC.out hb⟩
    · have h2 : 2 < s := by omega
      clear hx
      go_enter Try.func8, Try.ntmps8
      go_wp2_with fail
      refine kk.mono ?_
      rintro e w1 ⟨rfl, hb⟩
      go_wp2_with fail
      go_ret
      exact ⟨rfl, GatesTo.same HC.out hb⟩

set_option maxRecDepth 100000 in
set_option maxHeartbeats 400000 in
theorem set_locked (B c : Nat) (v : Value) (l : List Trio) (en pe s : Int) (w : World) (h : GatesAt w B c v l) (ho : okT en pe = true) (h0 : ¬ s < 0) (h2 : ¬ 2 < s) (hs : stT l en pe = 2) :
    Calls Try.prog 8 #[.pointer (some ⟨c, 0, none⟩), .int .i64 en, .int .i64 pe, .int .i64 s] w fun e w' => e = .returned (.int .i64 11) ∧ GatesTo w B c v l w' := by
  have HC := Lib.hid h
  have hclt := h.lt
  have kk := known_any en pe w
  have ks := Lib.hid (fun w1 (hb : Below w.heap.size w w1) => state_any B c v l en pe w1 (HC.out.below hb))
  rw [ho] at kk
  rw [hs] at ks
  clear h ho hs
  go_enter Try.func8, Try.ntmps8
  go_wp2_with fail
  refine kk.mono ?_
  rintro e w1 ⟨rfl, hb⟩
  go_wp2_with fail
  refine (ks.out w1 hb).mono ?_
  rintro e w2 ⟨rfl, hb2⟩
  go_wp2_with fail
  go_ret
  exact ⟨rfl, GatesTo.same HC.out (hb.trans (hb2.mono hb.size))⟩

set_option maxRecDepth 100000 in
set_option maxHeartbeats 400000 in
theorem set_goes (B c : Nat) (v : Value) (l : List Trio) (en pe s : Int) (F : FuncId) (E : Int) (m : List Trio) (w : World) (h : GatesAt w B c v l) (ho : okT en pe = true) (h0 : ¬ s < 0) (h2 : ¬ 2 < s) (hs : ¬ stT l en pe = 2) (hF : (s = 0 ∧ F = 20) ∨ (s = 1 ∧ F = 21) ∨ (s = 2 ∧ F = 22))
    (k : ∀ w1, GatesAt w1 B c v l → Calls Try.prog F #[.pointer (some ⟨c, 0, none⟩), .int .i64 en, .int .i64 pe] w1 fun e w' => e = .returned (.int .i64 E) ∧ GatesTo w1 B c v m w') :
    Calls Try.prog 8 #[.pointer (some ⟨c, 0, none⟩), .int .i64 en, .int .i64 pe, .int .i64 s] w fun e w' => e = .returned (.int .i64 E) ∧ GatesTo w B c v m w' := by
  have HC := Lib.hid h
  have hclt := h.lt
  have kk := known_any en pe w
  have ks := Lib.hid (fun w1 (hb : Below w.heap.size w w1) => state_any B c v l en pe w1 (HC.out.below hb))
  have KF := Lib.hid k
  rw [ho] at kk
  generalize stT l en pe = st at *
  clear h ho k
  have ht : (st == 2) = false := by simp [hs]
  clear hs
  rcases hF with ⟨rfl, rfl⟩ | ⟨rfl, rfl⟩ | ⟨rfl, rfl⟩
  all_goals
    clear h0 h2
    go_enter Try.func8, Try.ntmps8
    go_wp2_with fail
    refine kk.mono ?_
    rintro e w1 ⟨rfl, hb⟩
    go_wp2_with fail
    refine (ks.out w1 hb).mono ?_
    rintro e w2 ⟨rfl, hb2⟩
    have HB : Hid (Below w.heap.size w w2) := hb.trans (hb2.mono hb.size)
    have hz := HB.out.size
    clear hb hb2
    go_wp2_with fail
    refine (KF.out _ (HC.out.below (HB.out.alloc hz _))).mono ?_
    rintro e w3 ⟨rfl, hto⟩
    have HT := Lib.hid (GatesTo.on (HB.out.alloc hz _) hto)
    clear hto
    go_wp2_with fail
    go_ret
    exact ⟨rfl, HT.out⟩

theorem set_any (B c : Nat) (v : Value) (l : List Trio) (en pe s : Int) (w : World) (h : GatesAt w B c v l) :
    Calls Try.prog 8 #[.pointer (some ⟨c, 0, none⟩), .int .i64 en, .int .i64 pe, .int .i64 s] w fun e w' => e = .returned (.int .i64 (setE l en pe s)) ∧ GatesTo w B c v (setT l en pe s) w' := by
  by_cases hx : okT en pe = false ∨ s < 0 ∨ 2 < s
  · rw [(setE_bad (l := l) hx).1, (setE_bad (l := l) hx).2]
    exact set_bad B c v l en pe s w h hx
  have ho : okT en pe = true := by
    cases h1 : okT en pe
    · exact absurd (.inl h1) hx
    · rfl
  have h0 : ¬ s < 0 := fun h1 => hx (.inr (.inl h1))
  have h2 : ¬ 2 < s := fun h1 => hx (.inr (.inr h1))
  by_cases hl : stT l en pe = 2
  · rw [(setE_locked ho h0 h2 (.inl hl)).1, (setE_locked ho h0 h2 (.inl hl)).2]
    exact set_locked B c v l en pe s w h ho h0 h2 hl
  have hst : stT l en pe = zOf (findT l (en * 2000 + pe)) := by simp [stT, ho]
  obtain rfl | rfl | rfl : s = 0 ∨ s = 1 ∨ s = 2 := by omega
  · have hg : ¬ (stT l en pe = 2 ∨ ((0 : Int) = 2 ∧ stT l en pe ≠ 1)) := by omega
    rw [(setE_goes ho h0 h2 hg).1, (setE_goes ho h0 h2 hg).2]
    exact set_goes B c v l en pe 0 _ _ _ w h ho h0 h2 hl (.inl ⟨rfl, rfl⟩) fun w1 h1 => open_any B c v l en pe w1 h1 ho
  · have hg : ¬ (stT l en pe = 2 ∨ ((1 : Int) = 2 ∧ stT l en pe ≠ 1)) := by omega
    rw [(setE_goes ho h0 h2 hg).1, (setE_goes ho h0 h2 hg).2]
    exact set_goes B c v l en pe 1 _ _ _ w h ho h0 h2 hl (.inr (.inl ⟨rfl, rfl⟩)) fun w1 h1 => shut_any B c v l en pe w1 h1 ho
  · by_cases h1 : stT l en pe = 1
    · have hg : ¬ (stT l en pe = 2 ∨ ((2 : Int) = 2 ∧ stT l en pe ≠ 1)) := by omega
      rw [(setE_goes ho h0 h2 hg).1, (setE_goes ho h0 h2 hg).2]
      exact set_goes B c v l en pe 2 _ _ _ w h ho h0 h2 hl (.inr (.inr ⟨rfl, rfl⟩)) fun w1 hw => (lock_any B c v l en pe w1 hw ho).mono fun e w' hh => hh.2 (by omega)
    · have hg : stT l en pe = 2 ∨ ((2 : Int) = 2 ∧ stT l en pe ≠ 1) := .inr ⟨rfl, h1⟩
      rw [(setE_locked ho h0 h2 hg).1, (setE_locked ho h0 h2 hg).2]
      exact set_goes B c v l en pe 2 _ _ _ w h ho h0 h2 hl (.inr (.inr ⟨rfl, rfl⟩)) fun w1 hw => (lock_any B c v l en pe w1 hw ho).mono fun e w' hh => hh.1 (by omega)
end Go.Proofs.Ytgoekobolomppaa
