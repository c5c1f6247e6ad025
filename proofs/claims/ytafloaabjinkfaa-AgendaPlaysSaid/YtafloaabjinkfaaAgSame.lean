/-
  The statements' helper same, over items and the reference's.
-/
import Derived.Test.YtafloaabjinkfaaAgPut
namespace Go.Proofs.Ytafloaabjinkfaa
open Go.RowKit Go.Sort

theorem itm_step {l m : List Itm} {k : Nat} (hk : k < l.length ∧ k < m.length) (h1 : l.take k = m.take k) (h2 : l[k]? = m[k]?) : l.take (k + 1) = m.take (k + 1) := by
  rw [List.take_succ_eq_append_getElem hk.1, List.take_succ_eq_append_getElem hk.2, h1]
  rw [List.getElem?_eq_getElem hk.1, List.getElem?_eq_getElem hk.2] at h2
  injection h2 with h2
  rw [h2]
set_option maxRecDepth 100000 in
set_option maxHeartbeats 1000000 in
/-- Of equal lists: true. -/
theorem same8_yes (l : List Itm) (A1 A2 : Option Addr) (n c1 c2 B1 B2 : Nat) (w : World) (h1 : Rd w B1 3 A1 n (itms l)) (h2 : Rd w B2 3 A2 n (itms l)) (hn : n ≤ 1000000) :
    Calls Try.prog 10 #[.slice A1 n c1, .slice A2 n c2] w fun e w' => e = .returned (.bool true) ∧ Drew w w' := by
  have t1 : ((n : Int) != (n : Int)) = false := by simp
  go_enter Try.func10, Try.ntmps10
  go_wp2_with fail
  go_loopw [5] (fun i wr => ∃ k : Nat, k ≤ n ∧ i = .int .i64 k ∧ Drew w wr) (fun i _ => n - (intOf i).toNat)
  case atStart => exact ⟨0, Nat.zero_le _, rfl, Drew.refl _⟩
  case round =>
    obtain ⟨k, hk, rfl, q, rfl⟩ := hrel
    by_cases hlt : k < n
    · obtain ⟨a1, x, rfl, hb1, hx, p1, p2, p3⟩ := h1.itm hlt
      obtain ⟨a2, y, rfl, hb2, hy, r1, r2, r3⟩ := h2.itm hlt
      rw [hx] at hy
      injection hy with hy
      subst hy
      have hkn : (k : Int) < (n : Int) := by omega
      have p2' := cell_behind p2 (by omega)
      have p3' := cell_behind p3 (by omega)
      have r2' := cell_behind r2 (by omega)
      have r3' := cell_behind r3 (by omega)
      clear hx p2 p3 r2 r3
      obtain ⟨x1, x2, x3⟩ := x
      go_wp2_with fail
      go_big_quiet (fail)
      go_wp2
      exact ⟨⟨k + 1, by omega, by go_num, Drew.add _ _⟩, by simp [intOf]; omega⟩
    · go_wp2
      go_ret
      exact ⟨rfl, _, rfl⟩
end Go.Proofs.Ytafloaabjinkfaa
