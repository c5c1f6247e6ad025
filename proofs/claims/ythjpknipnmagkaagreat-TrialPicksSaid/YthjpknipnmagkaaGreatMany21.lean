/-
  Several texts, one behind the other: what each holds stands ahead of it.
-/
import Derived.Test.YthjpknipnmagkaaGreatMoneyDiv
import Derived.Test.YthjpknipnmagkaaGreatMany8
import Derived.Test.YthjpknipnmagkaaGreatMany20

/-
  Contract of money.Scale.
-/
namespace Go.Proofs.YthjpknipnmagkaaGreat.Mo
open Go.RowKit

theorem below_drewN {B : Nat} {a w : World} (h : Below B a w) (n : Nat) : Below B a (w.drewN n) := ⟨h.os, h.tape, h.output, h.size, h.block⟩

theorem div64_any (h l y : Int) (hh0 : 0 ≤ h) (hh : h < y) (hl0 : 0 ≤ l) (hl : l < 18446744073709551616) (hy : y < 4294967296) (w : World) :
    Calls Tryz.prog 240 #[.int .u64 h, .int .u64 l, .int .u64 y] w fun e w' => e = .returned (.tuple #[.int .u64 ((h * 18446744073709551616 + l) / y), .int .u64 ((h * 18446744073709551616 + l) % y)]) ∧ ∃ n, w' = w.drewN n := by
  by_cases h0 : h = 0
  · subst h0
    refine (div64_zero l y hl0 hl (by omega) hy w).mono fun e w' ⟨he, hw⟩ => ⟨?_, hw⟩
    rw [he]; simp
  · exact (div64_pos h l y (by omega) hh hl0 hl hy w).mono fun e w' ⟨he, hw⟩ => ⟨he, 0, hw.symm⟩

/-- A product of two numbers that fit, taken apart in two words and divided. -/
theorem div_words (m y : Int) : (m / 18446744073709551616 * 18446744073709551616 + m % 18446744073709551616) / y = m / y ∧ (m / 18446744073709551616 * 18446744073709551616 + m % 18446744073709551616) % y = m % y := by
  have : m / 18446744073709551616 * 18446744073709551616 + m % 18446744073709551616 = m := by omega
  rw [this]; exact ⟨rfl, rfl⟩

/-- money.Fits of one amount, in the slice that the call made for it. -/
theorem fits_one (a : Int) (w : World) (T : TypeId) (c : Nat) : Calls Tryz.prog 170 #[.slice (some ⟨w.heap.size, 0, none⟩) 1 c] (w.alloc (.cells #[.int .i64 a] T)) fun e w' => e = .returned (.bool (fits1 a)) ∧ w.alloc (.cells #[.int .i64 a] T) = w' := by
  refine (fits_any [a] (some ⟨w.heap.size, 0, none⟩) 1 c (w.heap.size + 1) _ ⟨rfl, fun _ => ⟨_, rfl, by simp, ?_⟩⟩ (by decide)).mono fun e w' ⟨he, hw⟩ => ⟨by rw [he]; simp [fitsAll], hw⟩
  intro j u hu
  match j, hu with
  | 0, hu => simp [ints] at hu; subst hu; simp [Addr.add, go_sem]
  | j + 1, hu => simp [ints] at hu

def scaleQ (a num den : Int) : Int := absI a * num / den + if rUp (absI a * num / den) (absI a * num % den) den then 1 else 0
def scaleOk (a num den : Int) : Bool := fits1 a && decide (0 ≤ num) && decide (num ≤ 1000000000) && decide (1 ≤ den) && decide (den ≤ 1000000000)


theorem fits1_of {a : Int} (h : fits1 a = true) : -1000000000000000 ≤ a ∧ a ≤ 1000000000000000 := by simpa [fits1] using h
theorem absI_of {a : Int} (h : fits1 a = true) : 0 ≤ absI a ∧ absI a ≤ 1000000000000000 := by
  have := fits1_of h; unfold absI; split <;> omega

def scaleVal (a num den : Int) : Int := if scaleQ a num den ≤ 1000000000000000 then signed (scaleQ a num den) a else 0
def scaleErr (a num den : Int) : Int := if scaleQ a num den ≤ 1000000000000000 then 0 else 2

end Go.Proofs.YthjpknipnmagkaaGreat.Mo

/-
  Contracts of money.totalWeight and money.cutShares.
-/
namespace Go.Proofs.YthjpknipnmagkaaGreat.Mo
open Go.RowKit

def wt1 (x : Int) : Bool := decide (0 ≤ x ∧ x ≤ 1000000)
/-- May one split by these weights, their sum aside? -/
def wtsOk (l : List Int) : Bool := decide (l.length ≤ 20) && l.all wt1
def sumTo (l : List Int) (k : Nat) : Int := (l.take k).sum

theorem sumTo_zero (l : List Int) : sumTo l 0 = 0 := by simp [sumTo]
theorem sumTo_succ {l : List Int} {k : Nat} (h : k < l.length) : sumTo l (k + 1) = sumTo l k + l[k]?.getD 0 := by
  unfold sumTo
  rw [List.take_succ_eq_append_getElem h, List.sum_append]
  simp [h]
theorem sumTo_all {l : List Int} {k : Nat} (h : l.length ≤ k) : sumTo l k = l.sum := by
  unfold sumTo; rw [List.take_of_length_le h]
theorem wt1_at {l : List Int} (h : l.all wt1 = true) (k : Nat) : 0 ≤ l[k]?.getD 0 ∧ l[k]?.getD 0 ≤ 1000000 := by
  by_cases hk : k < l.length
  · have := List.all_eq_true.1 h l[k] (List.getElem_mem hk)
    simp [hk]
    simpa [wt1] using this
  · simp [hk]
theorem sumTo_bd {l : List Int} (h : l.all wt1 = true) : ∀ k, k ≤ l.length → 0 ≤ sumTo l k ∧ sumTo l k ≤ 1000000 * (k : Int)
  | 0, _ => by rw [sumTo_zero]; omega
  | k + 1, hk => by
    have := sumTo_bd h k (by omega)
    have h1 := wt1_at h k
    rw [sumTo_succ (by omega)]; omega
theorem sumTo_mono {l : List Int} (h : l.all wt1 = true) (i : Nat) : ∀ k, i < k → k ≤ l.length → l[i]?.getD 0 ≤ sumTo l k
  | 0, h0, _ => by omega
  | k + 1, hi, hk => by
    have h1 := wt1_at h k
    rw [sumTo_succ (by omega)]
    by_cases e : i = k
    · subst e; have := sumTo_bd h i (by omega); omega
    · have := sumTo_mono h i k (by omega) (by omega); omega

set_option maxHeartbeats 400000 in
theorem total_long (A : Option Addr) (n c : Nat) (w : World) (hn : n ≤ maxLen) (hl : 20 < n) :
    Calls Tryz.prog 208 #[.slice A n c] w fun e w' => e = .returned (.tuple #[.int .u64 0, .bool false]) ∧ w = w' := by
  unfold maxLen at hn
  go_enter Tryz.func208, Tryz.ntmps208
  go_wp2
  go_ret2
  exact ⟨rfl, rfl⟩

def AllTo (l : List Int) (k : Nat) : Prop := (l.take k).all wt1 = true
theorem allTo_succ {l : List Int} {k : Nat} (hk : k < l.length) (h : AllTo l k) (h1 : wt1 (l[k]?.getD 0) = true) : AllTo l (k + 1) := by
  unfold AllTo at h ⊢
  rw [List.take_succ_eq_append_getElem hk, List.all_append, h]
  simp [hk] at h1
  simp [h1]
theorem sumTo_allTo {l : List Int} {k : Nat} (hk : k ≤ l.length) (h : AllTo l k) : 0 ≤ sumTo l k ∧ sumTo l k ≤ 1000000 * (k : Int) := by
  have := sumTo_bd (l := l.take k) h k (by simp; omega)
  simpa [sumTo, List.take_take] using this

def totOk (l : List Int) : Bool := l.all wt1
def tot (l : List Int) : Int := if l.all wt1 then l.sum else 0
def totPos (l : List Int) : Bool := l.all wt1 && decide (0 < l.sum)
theorem tot_no {l : List Int} {k : Nat} (hk : k < l.length) (h : wt1 (l[k]?.getD 0) = false) : l.all wt1 = false := by
  rw [List.all_eq_false]
  exact ⟨l[k], List.getElem_mem hk, by simpa [hk] using h⟩

set_option maxHeartbeats 1000000 in
theorem total_anyMs (l : List Int) (A : Option Addr) (n c B : Nat) (w : World) (h : Rd w B 1 A n (ints .i64 l)) (hn : n ≤ 20) :
    Calls Tryz.prog 208 #[.slice A n c] w fun e w' => e = .returned (.tuple #[.int .u64 (tot l), .bool (totPos l)]) ∧ w = w' := by
  have hl := Lib.hid h.ints_len
  go_enter Tryz.func208, Tryz.ntmps208
  go_wp2
  go_loop [12, 4] (fun i t => ∃ k : Nat, k ≤ n ∧ i = .int .i64 k ∧ t = .int .i64 (sumTo l k) ∧ Hid (AllTo l k)) (fun i _ => n - (intOf i).toNat)
  case atStart => exact ⟨0, Nat.zero_le _, rfl, by rw [sumTo_zero], by simp [Hid, AllTo]⟩
  case round =>
    obtain ⟨k, hk, rfl, rfl, hf⟩ := hrel
    have hkl : k ≤ l.length := by have := hl.out; omega
    have hbd := sumTo_allTo hkl hf.out
    by_cases hlt : k < n
    · obtain ⟨ad, rfl, hb, hc⟩ := h.int hlt
      have hkl' : k < l.length := by have := hl.out; omega
      have HS := Lib.hid (sumTo_succ hkl')
      have HK := Lib.hid hkl'
      have HT := Lib.hid (fun h : wt1 (l[k]?.getD 0) = false => tot_no hkl' h)
      have HU := Lib.hid (fun h : wt1 (l[k]?.getD 0) = true => allTo_succ hkl' hf.out h)
      clear hkl' hkl
      generalize l[k]?.getD 0 = x at *
      by_cases h1 : x < 0
      · have hno := Lib.hid (HT.out (by simp [wt1]; omega))
        go_wp2
        go_ret2
        exact ⟨by simp [tot, totPos, hno.out], rfl⟩
      by_cases h2 : 1000000 < x
      · have hno := Lib.hid (HT.out (by simp [wt1]; omega))
        go_wp2
        go_ret2
        exact ⟨by simp [tot, totPos, hno.out], rfl⟩
      · go_wp2
        exact ⟨⟨k + 1, by omega, by go_num, by rw [HS.out], HU.out (by simp [wt1]; omega)⟩, by simp [intOf]; omega⟩
    · have hall : l.all wt1 = true := by
        have := hf.out
        unfold AllTo at this
        rwa [List.take_of_length_le (by have := hl.out; omega)] at this
      have hs : sumTo l k = l.sum := sumTo_all (by have := hl.out; omega)
      have HA := Lib.hid hall
      rw [hs] at hbd ⊢
      clear hs hall
      go_wp2
      go_ret2
      exact ⟨by simp [tot, totPos, HA.out], rfl⟩
end Go.Proofs.YthjpknipnmagkaaGreat.Mo
