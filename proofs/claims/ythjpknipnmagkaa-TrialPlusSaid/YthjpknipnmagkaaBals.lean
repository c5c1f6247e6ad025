/-
  Lists of balances, and the statements' helper over them: SameBalances.
-/
import Derived.Test.YthjpknipnmagkaaOwn
namespace Go.Proofs.Ythjpknipnmagkaa
open Go.RowKit

/-- An element. -/
structure Bal where
  acct : Int
  amt : Int
deriving DecidableEq
def Bal.cells (a : Bal) : List Value := [.int .i64 a.acct, .int .i64 a.amt]
def Bal.val (a : Bal) : Value := .agg #[.int .i64 a.acct, .int .i64 a.amt]
def bals (l : List Bal) : List Value := l.flatMap Bal.cells
theorem bals_len : ∀ l : List Bal, (bals l).length = l.length * 2
  | [] => rfl
  | a :: l => by have := bals_len l; unfold bals at this ⊢; simp [Bal.cells, this]; omega
theorem bals_append (l m : List Bal) : bals (l ++ m) = bals l ++ bals m := by simp [bals]
theorem bals_at : ∀ (l : List Bal) (k : Nat) (a : Bal), l[k]? = some a → (bals l)[k * 2]? = some (.int .i64 a.acct) ∧ (bals l)[k * 2 + 1]? = some (.int .i64 a.amt)
  | [], k, a, h => by simp at h
  | b :: l, 0, a, h => by
    simp at h; subst h
    exact ⟨rfl, rfl⟩
  | b :: l, k + 1, a, h => by
    have := bals_at l k a (by simpa using h)
    unfold bals at this ⊢
    simp only [List.flatMap_cons, Bal.cells]
    rw [show (k + 1) * 2 = k * 2 + 2 by omega]
    simpa [List.getElem?_append_right] using this
theorem Rd.bals_len {w : World} {B n : Nat} {A : Option Addr} {l : List Bal} (h : Rd w B 2 A n (bals l)) : l.length = n := by
  have := h.1; rw [Go.Proofs.Ythjpknipnmagkaa.bals_len] at this; omega
theorem Rd.bal {w : World} {B n i : Nat} {A : Option Addr} {l : List Bal} (h : Rd w B 2 A n (bals l)) (hi : i < n) :
    ∃ ad a, A = some ad ∧ ad.block < B ∧ l[i]? = some a ∧ w.cell? (ad.add (i * 2)) = some (.int .i64 a.acct) ∧ w.cell? (ad.add (i * 2 + 1)) = some (.int .i64 a.amt) := by
  obtain ⟨ad, e, hb, hc⟩ := h.2 (by omega)
  have hl := h.bals_len
  have hg : l[i]? = some l[i] := List.getElem?_eq_getElem (by omega)
  obtain ⟨h1, h2⟩ := bals_at l i _ hg
  exact ⟨ad, _, e, hb, hg, hc _ _ h1, hc _ _ h2⟩

theorem infoBal : (Try.prog.info? 68).map (fun i => (i.zero, i.size, i.bytes)) = some (some (.agg #[.int .i64 0, .int .i64 0]), 2, 16) := by kernel_rfl
theorem bal_step {l m : List Bal} {k : Nat} (hk : k < l.length ∧ k < m.length) (h1 : l.take k = m.take k) (h2 : l[k]? = m[k]?) : l.take (k + 1) = m.take (k + 1) := by
  rw [List.take_succ_eq_append_getElem hk.1, List.take_succ_eq_append_getElem hk.2, h1]
  rw [List.getElem?_eq_getElem hk.1, List.getElem?_eq_getElem hk.2] at h2
  injection h2 with h2
  rw [h2]

set_option maxRecDepth 100000 in
set_option maxHeartbeats 400000 in
theorem sameBalances_any (l m : List Bal) (A1 A2 : Option Addr) (n1 n2 c1 c2 B1 B2 : Nat) (w : World) (h1 : Rd w B1 2 A1 n1 (bals l)) (h2 : Rd w B2 2 A2 n2 (bals m)) (hn1 : n1 ≤ 1000000) (hn2 : n2 ≤ 1000000) :
    Calls Try.prog 21 #[.slice A1 n1 c1, .slice A2 n2 c2] w fun e w' => e = .returned (.bool (l == m)) ∧ Drew w w' := by
  have L1 := Lib.hid h1.bals_len
  have L2 := Lib.hid h2.bals_len
  by_cases hne : n1 = n2
  · subst hne
    have t1 : ((n1 : Int) != (n1 : Int)) = false := by simp
    go_enter Try.func21, Try.ntmps21
    go_wp2_with fail
    go_loopw [5] (fun i wr => ∃ k : Nat, k ≤ n1 ∧ i = .int .i64 k ∧ Hid (l.take k = m.take k) ∧ Drew w wr) (fun i _ => n1 - (intOf i).toNat)
    case atStart => exact ⟨0, Nat.zero_le _, rfl, by simp [Hid], Drew.refl _⟩
    case round =>
      obtain ⟨k, hk, rfl, hs, q, rfl⟩ := hrel
      by_cases hlt : k < n1
      · obtain ⟨a1, x, rfl, hb1, hx, p1, p2⟩ := h1.bal hlt
        obtain ⟨a2, y, rfl, hb2, hy, r1, r2⟩ := h2.bal hlt
        have hkn : (k : Int) < (n1 : Int) := by omega
        have p2' := cell_behind p2 (by omega)
        have r2' := cell_behind r2 (by omega)
        have HX : Hid (x = y → l.take (k + 1) = m.take (k + 1)) := fun h => bal_step (by have := L1.out; have := L2.out; omega) hs.out (by rw [hx, hy, h])
        have HY : Hid (x ≠ y → (l == m) = false) := by
          intro h
          rw [beq_eq_false_iff_ne]
          intro e
          rw [e, hy] at hx
          exact h (by injection hx with hx; exact hx.symm)
        clear hx hy p2 r2
        obtain ⟨x1, x2⟩ := x
        obtain ⟨y1, y2⟩ := y
        by_cases e1 : x1 = y1
        · subst e1
          by_cases e2 : x2 = y2
          · subst e2
            go_wp2_with fail
            go_big_quiet (fail)
            go_wp2
            exact ⟨⟨k + 1, by omega, by go_num, HX.out (by first | rfl | trivial), Drew.add _ _⟩, by simp [intOf]; omega⟩
          · skip
            go_wp2_with fail
            go_big_quiet (fail)
            go_wp2
            go_ret
            exact ⟨ret_bool (HY.out (by simp [e2])).symm, ⟨_, World.drewN_drewN _ _ _⟩⟩
        · skip
          go_wp2_with fail
          go_big_quiet (fail)
          go_wp2
          go_ret
          exact ⟨ret_bool (HY.out (by simp [e1])).symm, ⟨_, World.drewN_drewN _ _ _⟩⟩
      · go_wp2
        go_ret
        refine ⟨ret_bool ?_, _, rfl⟩
        have := hs.out
        rw [List.take_of_length_le (by have := L1.out; omega), List.take_of_length_le (by have := L2.out; omega)] at this
        rw [this]; simp
  · have t1 : ((n1 : Int) != (n2 : Int)) = true := by rw [bne_iff_ne]; omega
    have HN := Lib.hid hne
    clear hne
    go_enter Try.func21, Try.ntmps21
    go_wp2
    go_ret
    refine ⟨ret_bool ?_, Drew.refl _⟩
    symm
    rw [beq_eq_false_iff_ne]
    intro e
    have := L1.out; have := L2.out
    rw [e] at *
    have := HN.out; omega
end Go.Proofs.Ythjpknipnmagkaa

