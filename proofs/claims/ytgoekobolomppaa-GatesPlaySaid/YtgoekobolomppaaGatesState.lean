/-
  Contracts of gates' known, (*Gates).State, May.
-/
import Derived.Test.YtgoekobolomppaaGatesAt
import Derived.Test.YtgoekobolomppaaTermValid
namespace Go.Proofs.Ytgoekobolomppaa
open Go.RowKit

theorem okT_lo {e p : Int} (h : e < 1) : okT e p = false := by simp [okT]; omega
theorem okT_hi {e p : Int} (h : 9 < e) : okT e p = false := by simp [okT]; omega
theorem okT_p {e p : Int} (h1 : ¬ e < 1) (h2 : ¬ 9 < e) : okT e p = okP p := by
  unfold okT okP
  rw [Bool.eq_iff_iff]
  simp
  omega

set_option maxRecDepth 100000 in
set_option maxHeartbeats 400000 in
theorem known_any (en pe : Int) (w : World) : Calls Try.prog 19 #[.int .i64 en, .int .i64 pe] w fun e w' => e = .returned (.bool (okT en pe)) ∧ Below w.heap.size w w' := by
  by_cases h1 : en < 1
  · rw [okT_lo h1]
    go_enter Try.func19, Try.ntmps19
    go_wp2_with fail
    go_ret
    exact ⟨rfl, Below.refl _ _⟩
  by_cases h2 : 9 < en
  · rw [okT_hi h2]
    go_enter Try.func19, Try.ntmps19
    go_wp2_with fail
    go_ret
    exact ⟨rfl, Below.refl _ _⟩
  rw [okT_p h1 h2]
  have kv := Lib.hid (valid_one pe w (T := 3))
  generalize okP pe = b at *
  go_enter Try.func19, Try.ntmps19
  go_wp2_with fail
  refine kv.out.mono ?_
  rintro e w' ⟨rfl, rfl⟩
  go_wp2_with fail
  go_ret
  exact ⟨rfl, (Below.refl _ _).alloc (Nat.le_refl _) _⟩

/-- A row at a place, as a walk reads it. -/
theorem GatesAt.at {w : World} {B c p : Nat} {v : Value} {l : List Trio} {a : Trio} (h : GatesAt w B c v l) (hp : l[p]? = some a) : ∃ g cap, v = .slice (some ⟨g, 0, none⟩) l.length cap ∧ p < l.length ∧ g < w.heap.size ∧ B ≤ g ∧
    w.cell? ⟨g, p * 3, none⟩ = some (.int .i64 a.x) ∧ w.cell? ⟨g, p * 3 + 1, none⟩ = some (.int .i64 a.y) ∧ w.cell? ⟨g, p * 3 + 2, none⟩ = some (.int .i64 a.z) ∧ ∀ j, w.frozen? ⟨g, j, none⟩ = false := by
  have hl := (List.getElem?_eq_some_iff.1 hp).1
  rcases h.own.2 with ⟨_, h1⟩ | ⟨g, cap, cur, rfl, hB, hh, _⟩
  · omega
  · obtain ⟨h1, h2, h3⟩ := trios_at l p a hp
    exact ⟨g, cap, rfl, hl, lt_of_blk hh, hB, own_cell h.own h1, own_cell h.own h2, own_cell h.own h3, fun j => warm_of hh j⟩

set_option maxRecDepth 100000 in
set_option maxHeartbeats 400000 in
theorem state_any (B c : Nat) (v : Value) (l : List Trio) (en pe : Int) (w : World) (h : GatesAt w B c v l) :
    Calls Try.prog 12 #[.pointer (some ⟨c, 0, none⟩), .int .i64 en, .int .i64 pe] w fun e w' => e = .returned (.int .i64 (stT l en pe)) ∧ Below w.heap.size w w' := by
  have HC := Lib.hid h
  have hclt := h.lt
  have kk := known_any en pe w
  cases ho : okT en pe
  · rw [show stT l en pe = 2 by simp [stT, ho]]
    rw [ho] at kk
    clear ho h
    go_enter Try.func12, Try.ntmps12
    go_wp2_with fail
    refine kk.mono ?_
    rintro e w1 ⟨rfl, hb⟩
    go_wp2_with fail
    go_ret
    exact ⟨rfl, hb⟩
  · rw [ho] at kk
    have kp := Lib.hid (fun w1 (hb : Below w.heap.size w w1) => place_any B c v l en pe w1 (HC.out.below hb) ho)
    rw [show stT l en pe = zOf (findT l (en * 2000 + pe)) by simp [stT, ho]]
    cases hf : findT l (en * 2000 + pe) with
    | none =>
      rw [hf] at kp
      clear ho h hf
      unfold zOf
      go_enter Try.func12, Try.ntmps12
      go_wp2_with fail
      refine kk.mono ?_
      rintro e w1 ⟨rfl, hb⟩
      go_wp2_with fail
      refine (kp.out w1 hb).mono ?_
      rintro e w2 ⟨rfl, hb2⟩
      have HB : Hid (Below w.heap.size w w2) := hb.trans (hb2.mono hb.size)
      clear hb hb2
      go_wp2_with fail
      go_ret
      exact ⟨rfl, HB.out⟩
    | some a =>
      rw [hf] at kp
      obtain ⟨hat, _⟩ := find_some_at h.good.1 hf
      have HAT := Lib.hid hat
      have hlen := h.good.len
      clear ho h hf hat
      unfold zOf
      generalize posT l (en * 2000 + pe) = p at *
      go_enter Try.func12, Try.ntmps12
      go_wp2_with fail
      refine kk.mono ?_
      rintro e w1 ⟨rfl, hb⟩
      go_wp2_with fail
      refine (kp.out w1 hb).mono ?_
      rintro e w2 ⟨rfl, hb2⟩
      have HB : Hid (Below w.heap.size w w2) := hb.trans (hb2.mono hb.size)
      have hC2 := HC.out.below HB.out
      have hcc := hC2.cell
      obtain ⟨g, cap, rfl, hpl, hgl, _, hc0, hc1, hc2, _⟩ := hC2.at HAT.out
      have hpI : (p : Int) < (l.length : Int) := by omega
      clear hb hb2 hC2
      go_wp2_with fail
      go_ret
      exact ⟨rfl, HB.out⟩
set_option maxRecDepth 100000 in
theorem state_nil (en pe : Int) (w : World) : Calls Try.prog 12 #[.pointer none, .int .i64 en, .int .i64 pe] w fun e w' => e = .returned (.int .i64 2) ∧ w = w' := by
  go_enter Try.func12, Try.ntmps12
  go_wp2_with fail
  go_ret
  exact ⟨rfl, rfl⟩

set_option maxRecDepth 100000 in
set_option maxHeartbeats 400000 in
theorem may_any (B c : Nat) (v : Value) (l : List Trio) (en pe : Int) (w : World) (h : GatesAt w B c v l) :
    Calls Try.prog 14 #[.pointer (some ⟨c, 0, none⟩), .int .i64 en, .int .i64 pe] w fun e w' => e = .returned (.int .i64 (mayT l en pe)) ∧ Below w.heap.size w w' := by
  have kk := known_any en pe w
  have ks := Lib.hid (fun w1 (hb : Below w.heap.size w w1) => state_any B c v l en pe w1 (h.below hb))
  cases ho : okT en pe
  · rw [show mayT l en pe = 1 by simp [mayT, ho]]
    rw [ho] at kk
    clear ho h
    go_enter Try.func14, Try.ntmps14
    go_wp2_with fail
    refine kk.mono ?_
    rintro e w1 ⟨rfl, hb⟩
    go_wp2_with fail
    go_ret
    exact ⟨rfl, hb⟩
  · rw [ho] at kk
    have HM : Hid (mayT l en pe = if stT l en pe = 0 then 0 else 6) := by show mayT l en pe = _; simp [mayT, ho]
    clear ho h
    generalize stT l en pe = s at *
    generalize mayT l en pe = m at *
    by_cases hs : s = 0
    · subst hs
      obtain rfl : m = 0 := by rw [HM.out]; simp
      go_enter Try.func14, Try.ntmps14
      go_wp2_with fail
      refine kk.mono ?_
      rintro e w1 ⟨rfl, hb⟩
      go_wp2_with fail
      refine (ks.out w1 hb).mono ?_
      rintro e w2 ⟨rfl, hb2⟩
      go_wp2_with fail
      go_ret
      exact ⟨rfl, hb.trans (hb2.mono hb.size)⟩
    · obtain rfl : m = 6 := by rw [HM.out]; simp [hs]
      have ht : (s != 0) = true := by simp [hs]
      go_enter Try.func14, Try.ntmps14
      go_wp2_with fail
      refine kk.mono ?_
      rintro e w1 ⟨rfl, hb⟩
      go_wp2_with fail
      refine (ks.out w1 hb).mono ?_
      rintro e w2 ⟨rfl, hb2⟩
      go_wp2_with fail
      go_ret
      exact ⟨rfl, hb.trans (hb2.mono hb.size)⟩
set_option maxRecDepth 100000 in
theorem may_nil (en pe : Int) (w : World) : Calls Try.prog 14 #[.pointer none, .int .i64 en, .int .i64 pe] w fun e w' => e = .returned (.int .i64 1) ∧ w = w' := by
  go_enter Try.func14, Try.ntmps14
  go_wp2_with fail
  go_ret
  exact ⟨rfl, rfl⟩
end Go.Proofs.Ytgoekobolomppaa
