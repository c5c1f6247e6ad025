/-
  Lists of trios, and the statements' helper over them: SameTrios.
-/
import Derived.Test.YtgoekobolomppaaOwn
namespace Go.Proofs.Ytgoekobolomppaa
open Go.RowKit

/-- An element. -/
structure Trio where
  x : Int
  y : Int
  z : Int
deriving DecidableEq
def Trio.cells (a : Trio) : List Value := [.int .i64 a.x, .int .i64 a.y, .int .i64 a.z]
def Trio.val (a : Trio) : Value := .agg #[.int .i64 a.x, .int .i64 a.y, .int .i64 a.z]
def trios (l : List Trio) : List Value := l.flatMap Trio.cells
theorem trios_len : ∀ l : List Trio, (trios l).length = l.length * 3
  | [] => rfl
  | a :: l => by have := trios_len l; unfold trios at this ⊢; simp [Trio.cells, this]; omega
theorem trios_append (l m : List Trio) : trios (l ++ m) = trios l ++ trios m := by simp [trios]
theorem trios_at : ∀ (l : List Trio) (k : Nat) (a : Trio), l[k]? = some a → (trios l)[k * 3]? = some (.int .i64 a.x) ∧ (trios l)[k * 3 + 1]? = some (.int .i64 a.y) ∧ (trios l)[k * 3 + 2]? = some (.int .i64 a.z)
  | [], k, a, h => by simp at h
  | b :: l, 0, a, h => by
    simp at h; subst h
    exact ⟨rfl, rfl, rfl⟩
  | b :: l, k + 1, a, h => by
    have := trios_at l k a (by simpa using h)
    unfold trios at this ⊢
    simp only [List.flatMap_cons, Trio.cells]
    rw [show (k + 1) * 3 = k * 3 + 3 by omega]
    simpa [List.getElem?_append_right] using this
theorem Rd.trios_len {w : World} {B n : Nat} {A : Option Addr} {l : List Trio} (h : Rd w B 3 A n (trios l)) : l.length = n := by
  have := h.1; rw [Go.Proofs.Ytgoekobolomppaa.trios_len] at this; omega
theorem Rd.trio {w : World} {B n i : Nat} {A : Option Addr} {l : List Trio} (h : Rd w B 3 A n (trios l)) (hi : i < n) :
    ∃ ad a, A = some ad ∧ ad.block < B ∧ l[i]? = some a ∧ w.cell? (ad.add (i * 3)) = some (.int .i64 a.x) ∧ w.cell? (ad.add (i * 3 + 1)) = some (.int .i64 a.y) ∧ w.cell? (ad.add (i * 3 + 2)) = some (.int .i64 a.z) := by
  obtain ⟨ad, e, hb, hc⟩ := h.2 (by omega)
  have hl := h.trios_len
  have hg : l[i]? = some l[i] := List.getElem?_eq_getElem (by omega)
  obtain ⟨h1, h2, h3⟩ := trios_at l i _ hg
  exact ⟨ad, _, e, hb, hg, hc _ _ h1, hc _ _ h2, hc _ _ h3⟩

theorem infoTrio : (Try.prog.info? 53).map (fun i => (i.zero, i.size, i.bytes)) = some (some (.agg #[.int .i64 0, .int .i64 0, .int .i64 0]), 3, 24) := by kernel_rfl
theorem trio_step {l m : List Trio} {k : Nat} (hk : k < l.length ∧ k < m.length) (h1 : l.take k = m.take k) (h2 : l[k]? = m[k]?) : l.take (k + 1) = m.take (k + 1) := by
  rw [List.take_succ_eq_append_getElem hk.1, List.take_succ_eq_append_getElem hk.2, h1]
  rw [List.getElem?_eq_getElem hk.1, List.getElem?_eq_getElem hk.2] at h2
  injection h2 with h2
  rw [h2]

set_option maxRecDepth 100000 in
set_option maxHeartbeats 400000 in
theorem sameTrios_any (l m : List Trio) (A1 A2 : Option Addr) (n1 n2 c1 c2 B1 B2 : Nat) (w : World) (h1 : Rd w B1 3 A1 n1 (trios l)) (h2 : Rd w B2 3 A2 n2 (trios m)) (hn1 : n1 ≤ 1000000) (hn2 : n2 ≤ 1000000) :
    Calls Try.prog 79 #[.slice A1 n1 c1, .slice A2 n2 c2] w fun e w' => e = .returned (.bool (l == m)) ∧ Drew w w' := by
  have L1 := Lib.hid h1.trios_len
  have L2 := Lib.hid h2.trios_len
  by_cases hne : n1 = n2
  · subst hne
    have t1 : ((n1 : Int) != (n1 : Int)) = false := by simp
    go_enter Try.func79, Try.ntmps79
    go_wp2_with fail
    go_loopw [5] (fun i wr => ∃ k : Nat, k ≤ n1 ∧ i = .int .i64 k ∧ Hid (l.take k = m.take k) ∧ Drew w wr) (fun i _ => n1 - (intOf i).toNat)
    case atStart => exact ⟨0, Nat.zero_le _, rfl, by simp [Hid], Drew.refl _⟩
    case round =>
      obtain ⟨k, hk, rfl, hs, q, rfl⟩ := hrel
      by_cases hlt : k < n1
      · obtain ⟨a1, x, rfl, hb1, hx, p1, p2, p3⟩ := h1.trio hlt
        obtain ⟨a2, y, rfl, hb2, hy, r1, r2, r3⟩ := h2.trio hlt
        have hkn : (k : Int) < (n1 : Int) := by omega
        have p2' := cell_behind p2 (by omega)
        have p3' := cell_behind p3 (by omega)
        have r2' := cell_behind r2 (by omega)
        have r3' := cell_behind r3 (by omega)
        have HX : Hid (x = y → l.take (k + 1) = m.take (k + 1)) := fun h => trio_step (by have := L1.out; have := L2.out; omega) hs.out (by rw [hx, hy, h])
        have HY : Hid (x ≠ y → (l == m) = false) := by
          intro h
          rw [beq_eq_false_iff_ne]
          intro e
          rw [e, hy] at hx
          exact h (by injection hx with hx; exact hx.symm)
        clear hx hy p2 p3 r2 r3
        obtain ⟨x1, x2, x3⟩ := x
        obtain ⟨y1, y2, y3⟩ := y
        by_cases e1 : x1 = y1
        · subst e1
          by_cases e2 : x2 = y2
          · subst e2
            by_cases e3 : x3 = y3
            · subst e3
              have he : ∀ w, (Op.equalIn 10000 53 (.agg #[.int .i64 x1, .int .i64 x2, .int .i64 x3]) (.agg #[.int .i64 x1, .int .i64 x2, .int .i64 x3])).run Try.prog w = .ok true w := fun w => by rw [eql_array3 w 9998 53 3 Try.underlying53 Try.underlying3 (fun w => by kernel_rfl)]; simp
              go_wp2_with fail
              go_big_quiet (fail)
              go_wp2
              exact ⟨⟨k + 1, by omega, by go_num, HX.out (by first | rfl | trivial), Drew.add _ _⟩, by simp [intOf]; omega⟩
            · skip
              have he : ∀ w, (Op.equalIn 10000 53 (.agg #[.int .i64 x1, .int .i64 x2, .int .i64 x3]) (.agg #[.int .i64 x1, .int .i64 x2, .int .i64 y3])).run Try.prog w = .ok false w := fun w => by rw [eql_array3 w 9998 53 3 Try.underlying53 Try.underlying3 (fun w => by kernel_rfl)]; simp [e3]
              go_wp2_with fail
              go_big_quiet (fail)
              go_wp2
              go_ret
              exact ⟨ret_bool (HY.out (by simp [e3])).symm, ⟨_, World.drewN_drewN _ _ _⟩⟩
          · skip
            have he : ∀ w, (Op.equalIn 10000 53 (.agg #[.int .i64 x1, .int .i64 x2, .int .i64 x3]) (.agg #[.int .i64 x1, .int .i64 y2, .int .i64 y3])).run Try.prog w = .ok false w := fun w => by rw [eql_array3 w 9998 53 3 Try.underlying53 Try.underlying3 (fun w => by kernel_rfl)]; simp [e2]
            go_wp2_with fail
            go_big_quiet (fail)
            go_wp2
            go_ret
            exact ⟨ret_bool (HY.out (by simp [e2])).symm, ⟨_, World.drewN_drewN _ _ _⟩⟩
        · skip
          have he : ∀ w, (Op.equalIn 10000 53 (.agg #[.int .i64 x1, .int .i64 x2, .int .i64 x3]) (.agg #[.int .i64 y1, .int .i64 y2, .int .i64 y3])).run Try.prog w = .ok false w := fun w => by rw [eql_array3 w 9998 53 3 Try.underlying53 Try.underlying3 (fun w => by kernel_rfl)]; simp [e1]
          go_wp2_with fail
          go_big_quiet (fail)
          go_wp2
          go_ret
          exact ⟨ret_bool (HY.out (by simp [e1])).symm, ⟨_, World.drewN_drewN _ _ _⟩⟩
      · go_wp2
        go_ret
        refine ⟨ret_bool ?_, _, rfl⟩
        have := hs.out
        rw [List.take_of_length_le (by have := L1.out; omega), List.take_of_length_le (by have := L2.out; omega)] at this
        rw [this]; simp
  · have t1 : ((n1 : Int) != (n2 : Int)) = true := by rw [bne_iff_ne]; omega
    have HN := Lib.hid hne
    clear hne
    go_enter Try.func79, Try.ntmps79
    go_wp2
    go_ret
    refine ⟨ret_bool ?_, Drew.refl _⟩
    symm
    rw [beq_eq_false_iff_ne]
    intro e
    have := L1.out; have := L2.out
    rw [e] at *
    have := HN.out; omega
end Go.Proofs.Ytgoekobolomppaa
