/-
  Contract of trial's countOfFirst.
-/
import Derived.Test.YthjpknipnmagkaaBals
import Derived.Test.YthjpknipnmagkaaMany2
import Derived.BigQuiet
namespace Go.Proofs.Ythjpknipnmagkaa
open Go.RowKit

/-- How many at a list's start are of the first one's account. -/
structure CntOf (l : List Bal) (k : Nat) : Prop where
  le : k ≤ l.length
  pos : 1 ≤ k
  same : ∀ (i : Nat) (x y : Bal), i < k → l[i]? = some x → l[0]? = some y → x.acct = y.acct
  other : ∀ x y, l[k]? = some x → l[0]? = some y → x.acct ≠ y.acct
theorem addr_zero (a : Addr) : a.add 0 = a := by unfold Addr.add; rw [if_pos rfl]
set_option maxRecDepth 100000 in
set_option maxHeartbeats 2000000 in
theorem count_any (l : List Bal) (A : Option Addr) (n c B : Nat) (w : World) (h : Rd w B 2 A n (bals l)) (hB : B ≤ w.heap.size) (hn : 0 < n) (hm : n ≤ 1000000) :
    Calls Try.prog 52 #[.slice A n c] w fun e w' => ∃ k, CntOf l k ∧ e = .returned (.int .i64 (k : Nat)) ∧ Below w.heap.size w w' := by
  have hl := h.bals_len
  have HL := Lib.hid hl
  obtain ⟨ad, x0, rfl, hb0, hx0, z0, _⟩ := h.bal hn
  simp only [Nat.zero_mul, addr_zero] at z0
  have HR := Lib.hid (fun w1 (h1 : Below w.heap.size w w1) => h.far h1 hB)
  have HZ := Lib.hid (fun w1 (h1 : Below w.heap.size w w1) => (h1.cell (p := ad) (by omega)).trans z0)
  have HX0 := Lib.hid hx0
  clear h hl z0 hx0
  go_enter Try.func52, Try.ntmps52
  go_wp2_with fail
  go_loopw [3] (fun iv wr => ∃ k : Nat, k ≤ n ∧ iv = .int .i64 k ∧ (∀ (i : Nat) (x : Bal), i < k → l[i]? = some x → x.acct = x0.acct) ∧ Below w.heap.size w wr) (fun iv _ => n - (intOf iv).toNat)
  case atStart => exact ⟨0, Nat.zero_le _, rfl, fun i x hi _ => absurd hi (Nat.not_lt_zero _), Below.refl _ _⟩
  case round =>
    obtain ⟨k, hk, rfl, hsm, hbel⟩ := hrel
    have HSM := Lib.hid hsm; have HBEL := Lib.hid hbel
    have q0 := HZ.out wr hbel
    by_cases hlt : k < n
    · obtain ⟨ad', x, hA', _, hx, p0, _⟩ := (HR.out wr hbel).bal hlt
      injection hA' with hA'
      subst hA'
      have hkd : decide (k < n) = true := decide_eq_true hlt
      have hkI : (k : Int) < (n : Int) := by omega
      have hnI : (0 : Int) < (n : Int) := by omega
      have HX := Lib.hid hx
      clear hsm hbel hx
      by_cases he : x.acct = x0.acct
      · have hd : (x.acct == x0.acct) = true := beq_iff_eq.2 he
        have HE := Lib.hid he
        clear he
        go_wp2_with fail
        go_big_quiet (fail)
        go_wp2_with fail
        refine ⟨⟨k + 1, by omega, by go_num, fun i y hi hy => ?_, below_drewN HBEL.out _⟩, by simp [intOf]; omega⟩
        by_cases hik : i < k
        · exact HSM.out i y hik hy
        · obtain rfl : i = k := by omega
          have := HX.out.symm.trans hy
          injection this with this
          rw [← this]
          exact HE.out
      · have hd : (x.acct == x0.acct) = false := beq_eq_false_iff_ne.2 he
        have HE := Lib.hid he
        clear he
        go_wp2_with fail
        go_big_quiet (fail)
        go_wp2_with fail
        go_ret
        refine ⟨k, ⟨by rw [HL.out]; exact hk, ?_, fun i x y hi hx hy => ?_, fun y z hy hz => ?_⟩, rfl, below_drewN HBEL.out _⟩
        · rcases Nat.eq_zero_or_pos k with h0 | h0
          · subst h0
            have := HX.out.symm.trans HX0.out
            injection this with this
            exact absurd (congrArg Bal.acct this) HE.out
          · exact h0
        · rw [HX0.out] at hy
          injection hy with hy
          rw [← hy]
          exact HSM.out i x hi hx
        · rw [HX0.out] at hz
          rw [HX.out] at hy
          injection hz with hz
          injection hy with hy
          rw [← hz, ← hy]
          exact HE.out
    · have hkn : k = n := by omega
      have hkd : decide (k < n) = false := decide_eq_false hlt
      have HKN := Lib.hid hkn
      clear hsm hbel hkn
      go_wp2_with fail
      go_big_quiet (fail)
      go_wp2_with fail
      go_ret
      refine ⟨k, ⟨by rw [HL.out]; exact hk, by have := HKN.out; omega, fun i x y hi hx hy => ?_, fun y z hy _ => ?_⟩, rfl, below_drewN HBEL.out _⟩
      · rw [HX0.out] at hy
        injection hy with hy
        rw [← hy]
        exact HSM.out i x hi hx
      · rw [List.getElem?_eq_none (by rw [HL.out, HKN.out]; omega)] at hy
        cases hy
end Go.Proofs.Ythjpknipnmagkaa

