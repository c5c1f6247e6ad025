/-
  Contracts of the reference's Digits, Month, ReadMonth.
-/
import Derived.Test.YtbdhhfaelnnocaaGreatDoorMany5
namespace Go.Proofs.YtbdhhfaelnnocaaGreatDoor
open Go.RowKit

/-- The decimal digits of a number above 0, ahead of what stands already. -/
def digitsOf (fuel : Nat) (n : Nat) (acc : List UInt8) : List UInt8 :=
  match fuel with
  | 0 => acc
  | f + 1 => if n = 0 then acc else digitsOf f (n / 10) (UInt8.ofNat (48 + n % 10) :: acc)
def digitsL (n : Nat) : List UInt8 := if n = 0 then [48] else digitsOf 20 n []

theorem ret_string {a b : ByteArray} (h : a = b) : Ending.returned (.string a) = .returned (.string b) := by rw [h]
theorem one_text (w : World) (x : Int) (h0 : 0 ≤ x) (h1 : x ≤ 255) :
    (convert 91 9 (.slice (some ⟨w.heap.size, 0, none⟩) 1 1)).run Tryz.prog (w.alloc (.cells #[.int .u8 x] 5)) = .ok (.string ⟨#[UInt8.ofNat x.toNat]⟩) (w.alloc (.cells #[.int .u8 x] 5)) := by
  have := run_convert_bytes_back (P := Tryz.prog) (w.alloc (.cells #[.int .u8 x] 5)) 91 9 5 ⟨w.heap.size, 0, none⟩ 1 [UInt8.ofNat x.toNat] Tryz.underlying91 Tryz.underlying5 Tryz.underlying9 (fun j hj => by
    have : j = 0 := by simp at hj; exact hj
    subst this
    rw [List.getElem_cons_zero, byte_back h0 h1]
    simp [Addr.add, go_sem])
  exact this
theorem cons_text (b : UInt8) (acc : List UInt8) : (⟨#[b]⟩ : ByteArray) ++ ⟨acc.toArray⟩ = ⟨(b :: acc).toArray⟩ := by
  apply ByteArray.ext
  rw [ByteArray.data_append]
  simp

set_option maxRecDepth 100000 in
set_option maxHeartbeats 1000000 in
theorem digits_any (n : Nat) (w : World) (h1 : 1 ≤ n) (h2 : n ≤ 10000) :
    Calls Tryz.prog 32 #[.int .i64 (n : Int)] w fun e w' => e = .returned (.string ⟨(digitsOf 20 n []).toArray⟩) ∧ Below w.heap.size w w' := by
  go_enter Tryz.func32, Tryz.ntmps32
  go_wp2
  go_loopw [3, 4] (fun sv uv wr => ∃ (k m : Nat) (acc : ByteArray), m ≤ 10000 ∧ (m = 0 → acc.size ≠ 0) ∧ acc.size + k ≤ 20 ∧ Hid (m < 10 ^ k) ∧ uv = .int .u64 (m : Int) ∧ sv = .string acc ∧ Hid (digitsOf k m acc.data.toList = digitsOf 20 n []) ∧ Below w.heap.size w wr) (fun _ uv _ => (intOf uv).toNat)
  case atStart => exact ⟨20, n, ⟨#[]⟩, h2, by omega, by decide, by unfold Hid; omega, by first | rfl | go_num, rfl, rfl, Below.refl _ _⟩
  case round =>
    obtain ⟨k, m, acc, hm, h0, hk, hp, rfl, rfl, hd, hbel⟩ := hrel
    by_cases hz : m = 0
    · subst hz
      have hne := h0 rfl
      have he : acc.toList.isEmpty = false := by
        rw [ByteArray.toList_eq]
        have : acc.data.toList.length ≠ 0 := by rw [Array.length_toList]; exact hne
        cases hq : acc.data.toList with
        | nil => rw [hq] at this; exact absurd rfl this
        | cons => rfl
      have HD : Hid ((⟨(digitsOf 20 n []).toArray⟩ : ByteArray) = acc) := by
        rw [← hd.out]; unfold Hid; cases k <;> simp [digitsOf]
      clear hd h0 hne
      go_wp2
      go_ret
      exact ⟨by rw [HD.out]; rfl, hbel⟩
    · rcases k with _ | k
      · have := hp.out; simp at this; omega
      obtain ⟨x, hx⟩ : ∃ x : UInt8, UInt8.ofNat (48 + (m : Int) % 10).toNat = x := ⟨_, rfl⟩
      have kc := one_text wr (48 + (m : Int) % 10) (by omega) (by omega)
      rw [hx] at kc
      have HD : Hid (digitsOf k (m / 10) (x :: acc.data.toList) = digitsOf 20 n []) := by
        unfold Hid
        rw [← hd.out, digitsOf, if_neg hz, ← hx]
        congr 3
      have HP : Hid (m / 10 < 10 ^ k) := by
        have := hp.out
        unfold Hid
        rw [Nat.pow_succ] at this
        omega
      clear hd hp hx
      go_wp2
      refine ⟨⟨k, m / 10, _, by omega, ?_, ?_, HP.out, by first | rfl | go_num, rfl, ?_, ?_⟩, by simp [intOf]; omega⟩
      · intro _; rw [ByteArray.size_append, show (⟨#[x]⟩ : ByteArray).size = 1 from rfl]; omega
      · rw [ByteArray.size_append, show (⟨#[x]⟩ : ByteArray).size = 1 from rfl]; omega
      · rw [← HD.out]; unfold Hid; simp
      · exact hbel.alloc hbel.size _

def padL (l : List UInt8) : List UInt8 := if l.length < 2 then 48 :: l else l
theorem month_all : ((List.range 1200).all fun p => digitsOf 20 (2000 + p / 12) [] ++ 45 :: padL (digitsOf 20 (p % 12 + 1) []) == textB p) = true := by kernel_rfl
theorem month_text {p : Int} (h0 : 0 ≤ p) (h1 : p ≤ 1199) : digitsOf 20 (2000 + p / 12).toNat [] ++ 45 :: padL (digitsOf 20 (p % 12 + 1).toNat []) = textB p := by
  have := List.all_eq_true.1 month_all p.toNat (by simp; omega)
  rw [show ((p.toNat : Nat) : Int) = p by omega] at this
  rw [show (2000 + p / 12).toNat = 2000 + p.toNat / 12 by omega, show (p % 12 + 1).toNat = p.toNat % 12 + 1 by omega]
  simpa using this

set_option maxRecDepth 100000 in
set_option maxHeartbeats 1000000 in
theorem refMonth_any (p : Int) (w : World) :
    Calls Tryz.prog 33 #[.int .i64 p] w fun e w' => e = .returned (.string (textS p)) ∧ Below w.heap.size w w' := by
  have kv := fun w => refValid_any p w
  cases hp : okP p
  · rw [hp] at kv
    rw [show textS p = ⟨#[]⟩ from by unfold textS textB; simp [hp]]
    clear hp
    go_enter Tryz.func33, Tryz.ntmps33
    go_wp2_with fail
    refine (kv w).mono ?_
    rintro e w1 ⟨rfl, rfl⟩
    go_wp2
    go_ret
    exact ⟨rfl, Below.refl _ _⟩
  · have hb := okP_t hp
    rw [hp] at kv
    have k1 := fun w => digits_any (p % 12 + 1).toNat w (by omega) (by omega)
    have k2 := fun w => digits_any (2000 + p / 12).toNat w (by omega) (by omega)
    rw [show (((p % 12 + 1).toNat : Nat) : Int) = p % 12 + 1 by omega] at k1
    rw [show (((2000 + p / 12).toNat : Nat) : Int) = 2000 + p / 12 by omega] at k2
    have hT := month_text hb.1 hb.2
    have hLen := textB_len hp
    rw [← hT] at hLen
    generalize digitsOf 20 (p % 12 + 1).toNat [] = d1 at *
    generalize digitsOf 20 (2000 + p / 12).toNat [] = d2 at *
    have HT : Hid (textS p = ⟨(d2 ++ 45 :: padL d1).toArray⟩) := by unfold Hid textS; rw [hT]
    obtain ⟨s1, hs1⟩ : ∃ s1 : ByteArray, s1 = ⟨d1.toArray⟩ := ⟨_, rfl⟩
    obtain ⟨s2, hs2⟩ : ∃ s2 : ByteArray, s2 = ⟨d2.toArray⟩ := ⟨_, rfl⟩
    rw [← hs1] at k1
    rw [← hs2] at k2
    have hz : s1.size = d1.length := by rw [hs1]; simp [ByteArray.size]
    have hz3 : s2.size = d2.length := by rw [hs2]; simp [ByteArray.size]
    have hpad : d1.length ≤ (padL d1).length := by unfold padL; split <;> simp
    have hb1 : s1.size ≤ 7 := by simp at hLen; omega
    have hb2 : s2.size ≤ 7 := by simp at hLen; omega
    clear hpad hz3 hLen
    have HS1 := Lib.hid hs1
    have HS2 := Lib.hid hs2
    clear hs1 hs2 hT hp
    by_cases hl : d1.length < 2
    · have hz2 : s1.size < 2 := by omega
      have HL := Lib.hid hl
      clear hz hl
      go_enter Tryz.func33, Tryz.ntmps33
      go_wp2_with fail
      refine (kv w).mono ?_
      rintro e w1 ⟨rfl, rfl⟩
      go_wp2_with fail
      refine (k1 w).mono ?_
      rintro e w1 ⟨rfl, hb1⟩
      have H1 := Lib.hid hb1
      clear hb1
      go_wp2_with fail
      refine (k2 w1).mono ?_
      rintro e w2 ⟨rfl, hb2⟩
      have H2 : Hid (Below w.heap.size w w2) := H1.out.trans (hb2.mono H1.out.size)
      clear hb2 H1
      go_wp2
      go_ret
      refine ⟨ret_string ?_, H2.out⟩
      rw [HT.out, HS1.out, HS2.out]
      apply ByteArray.ext
      simp [padL, HL.out]
    · have hz2 : ¬ s1.size < 2 := by omega
      have HL := Lib.hid hl
      clear hz hl
      go_enter Tryz.func33, Tryz.ntmps33
      go_wp2_with fail
      refine (kv w).mono ?_
      rintro e w1 ⟨rfl, rfl⟩
      go_wp2_with fail
      refine (k1 w).mono ?_
      rintro e w1 ⟨rfl, hb1⟩
      have H1 := Lib.hid hb1
      clear hb1
      go_wp2_with fail
      refine (k2 w1).mono ?_
      rintro e w2 ⟨rfl, hb2⟩
      have H2 : Hid (Below w.heap.size w w2) := H1.out.trans (hb2.mono H1.out.size)
      clear hb2 H1
      go_wp2
      go_ret
      refine ⟨ret_string ?_, H2.out⟩
      rw [HT.out, HS1.out, HS2.out]
      apply ByteArray.ext
      simp [padL, HL.out]
end Go.Proofs.YtbdhhfaelnnocaaGreatDoor
