/-
  Contracts of the document's own Fits and Add.
-/
import Derived.Test.YtbjeikfekhgeoaaMoneyAdd
namespace Go.Proofs.Ytbjeikfekhgeoaa
open Go.RowKit

set_option maxHeartbeats 400000 in
theorem refFits_any (a : Int) (w : World) : Calls Try.prog 14 #[.int .i64 a] w fun e w' => e = .returned (.bool (fits1 a)) ∧ w = w' := by
  by_cases h1 : -1000000000000000 ≤ a
  · go_enter Try.func14, Try.ntmps14
    go_wp2
    go_ret
    exact ⟨ret_bool (by unfold fits1; rw [Bool.eq_iff_iff]; simp; omega), rfl⟩
  · go_enter Try.func14, Try.ntmps14
    go_wp2
    go_ret
    exact ⟨ret_bool (by unfold fits1; rw [Bool.eq_iff_iff]; simp; omega), rfl⟩

theorem fitsTo_bd {l : List Int} {k : Nat} (h : fitsAll (l.take k) = true) (hk : k ≤ l.length) : -(1000000000000000 * (k : Int)) ≤ sumTo l k ∧ sumTo l k ≤ 1000000000000000 * (k : Int) := by
  have := fitsAll_bd h k (by simp; omega)
  simpa [sumTo, List.take_take] using this

set_option maxRecDepth 100000 in
set_option maxHeartbeats 1000000 in
theorem refAdd_any (l : List Int) (A : Option Addr) (n c B : Nat) (w : World) (h : Rd w B 1 A n (ints .i64 l)) (hn : n ≤ 1000) :
    Calls Try.prog 13 #[.slice A n c] w fun e w' => e = .returned (.tuple #[.int .i64 (addV l), .int .i64 (addE l)]) ∧ w = w' := by
  have hl := Lib.hid h.ints_len
  go_enter Try.func13, Try.ntmps13
  go_wp2_with fail
  go_loop [5, 4] (fun i t => ∃ k : Nat, k ≤ n ∧ i = .int .i64 k ∧ t = .int .i64 (sumTo l k) ∧ Hid (fitsAll (l.take k) = true)) (fun i _ => n - (intOf i).toNat)
  case atStart => exact ⟨0, Nat.zero_le _, rfl, by rw [sumTo_zero], by simp [Hid, fitsAll]⟩
  case round =>
    obtain ⟨k, hk, rfl, rfl, hf⟩ := hrel
    have hbd := fitsTo_bd hf.out (by have := hl.out; omega)
    by_cases hlt : k < n
    · obtain ⟨ad, rfl, hb, hc⟩ := h.int hlt
      have HS := Lib.hid (sumTo_succ (l := l) (k := k) (by have := hl.out; omega))
      have HT := Lib.hid (fun h : fits1 (l[k]?.getD 0) = true => fitsAll_step (l := l) (k := k) (by have := hl.out; omega) hf.out h)
      have HU := Lib.hid (fun h : fits1 (l[k]?.getD 0) = false => fitsAll_no (l := l) (k := k) (by have := hl.out; omega) h)
      generalize l[k]?.getD 0 = x at *
      cases hx : fits1 x
      · have hno := Lib.hid (HU.out hx)
        have HX := Lib.hid hx
        clear hx
        go_wp2_with fail
        refine (refFits_any x _).mono ?_
        rintro e w' ⟨rfl, rfl⟩
        rw [HX.out]
        go_wp2
        go_ret2
        exact ⟨by simp [addV, addE, hno.out], rfl⟩
      · have hxb := fits1_of hx
        have HX := Lib.hid hx
        clear hx
        go_wp2_with fail
        refine (refFits_any x _).mono ?_
        rintro e w' ⟨rfl, rfl⟩
        rw [HX.out]
        go_wp2
        exact ⟨⟨k + 1, by omega, by go_num, by rw [HS.out], HT.out HX.out⟩, by simp [intOf]; omega⟩
    · obtain rfl : k = n := by omega
      have hS : sumTo l k = l.sum := sumTo_all (by have := hl.out; omega)
      have hall : fitsAll l = true := by
        have := hf.out
        rwa [List.take_of_length_le (by have := hl.out; omega)] at this
      rw [hS] at hbd ⊢
      have HA : Hid (addV l = (if fits1 l.sum then l.sum else 0) ∧ addE l = if fits1 l.sum then 0 else 2) := by
        unfold Hid addV addE; simp [hall]
      clear hS hall hf
      generalize l.sum = S at *
      cases hF : fits1 S
      · rw [hF] at HA
        have HF := Lib.hid hF
        clear hF
        go_wp2_with fail
        refine (refFits_any S _).mono ?_
        rintro e w' ⟨rfl, rfl⟩
        rw [HF.out]
        go_wp2
        go_ret2
        exact ⟨by rw [HA.out.1, HA.out.2]; rfl, rfl⟩
      · rw [hF] at HA
        have HF := Lib.hid hF
        clear hF
        go_wp2_with fail
        refine (refFits_any S _).mono ?_
        rintro e w' ⟨rfl, rfl⟩
        rw [HF.out]
        go_wp2
        go_ret2
        exact ⟨by rw [HA.out.1, HA.out.2]; rfl, rfl⟩
end Go.Proofs.Ytbjeikfekhgeoaa
