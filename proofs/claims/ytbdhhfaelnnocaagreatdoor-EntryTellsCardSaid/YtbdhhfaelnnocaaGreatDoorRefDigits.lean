/-
  Contract of the reference's Digits, of whatever int.
-/
import Derived.Test.YtbdhhfaelnnocaaGreatDoorRefMonth
import Derived.Test.YtbdhhfaelnnocaaGreatDoorEntryText
import Derived.Test.YtbdhhfaelnnocaaGreatDoorMany5
namespace Go.Proofs.YtbdhhfaelnnocaaGreatDoor
open Go.RowKit Go.Sort

/-- Behind some digits: what is left, what stands already. -/
def DigRel (N m : Nat) (acc : List UInt8) : Prop := (acc = [] ∧ m = N) ∨ (acc ≠ [] ∧ (if m = 0 then acc else Lib.decDigits m ++ acc) = Lib.decDigits N)
theorem dec_small {u : Nat} (h : u < 10) : Lib.decDigits u = [UInt8.ofNat (48 + u)] := by rw [Lib.decDigits, dif_pos h]
theorem dec_big {u : Nat} (h : ¬ u < 10) : Lib.decDigits u = Lib.decDigits (u / 10) ++ [UInt8.ofNat (48 + u % 10)] := by rw [Lib.decDigits, dif_neg h]
theorem DigRel.step {N m : Nat} {acc : List UInt8} (h : DigRel N m acc) (hm : m ≠ 0 ∨ acc = []) : DigRel N (m / 10) (UInt8.ofNat (48 + m % 10) :: acc) := by
  refine .inr ⟨by simp, ?_⟩
  have key : (if m / 10 = 0 then UInt8.ofNat (48 + m % 10) :: acc else Lib.decDigits (m / 10) ++ UInt8.ofNat (48 + m % 10) :: acc) = Lib.decDigits m ++ acc := by
    by_cases h10 : m < 10
    · rw [if_pos (by omega), dec_small h10, show m % 10 = m by omega]; rfl
    · rw [if_neg (by omega), dec_big h10]; simp
  rw [key]
  rcases h with ⟨rfl, rfl⟩ | ⟨hne, he⟩
  · simp
  · have h0 : ¬ m = 0 := by
      rcases hm with h | h
      · exact h
      · exact absurd h hne
    rw [if_neg h0] at he
    exact he
theorem DigRel.len {N m : Nat} {acc : List UInt8} (h : DigRel N m acc) : acc.length ≤ (Lib.decDigits N).length := by
  rcases h with ⟨rfl, _⟩ | ⟨_, he⟩
  · simp
  · rw [← he]; split <;> simp
theorem DigRel.fin {N : Nat} {acc : List UInt8} (h : DigRel N 0 acc) (hne : acc ≠ []) : acc = Lib.decDigits N := by
  rcases h with ⟨h, _⟩ | ⟨_, he⟩
  · exact absurd h hne
  · simpa using he
theorem dec_le {N : Nat} (h : N ≤ 9223372036854775808) : (Lib.decDigits N).length ≤ 21 := by
  by_cases h1 : N ≤ 9223372036854775807
  · have := itoa_le (n := (N : Int)) (by omega) (by omega)
    unfold Lib.itoa at this
    rw [if_neg (by omega)] at this
    simpa using this
  · have := itoa_le (n := -(N : Int)) (by omega) (by omega)
    unfold Lib.itoa at this
    rw [if_pos (by omega)] at this
    simp at this
    omega

set_option maxRecDepth 100000 in
set_option maxHeartbeats 2000000 in
theorem refDigits_any (v : Int) (w : World) (h64 : in64 v) :
    Calls Tryz.prog 32 #[.int .i64 v] w fun e w' => e = .returned (.string (bs (Lib.itoa v))) ∧ Below w.heap.size w w' := by
  obtain ⟨hlo, hhi⟩ : -9223372036854775808 ≤ v ∧ v ≤ 9223372036854775807 := h64
  obtain ⟨N, hN⟩ : ∃ N : Nat, N = v.natAbs := ⟨_, rfl⟩
  have hNb : N ≤ 9223372036854775808 := by omega
  have HLEN := Lib.hid (dec_le hNb)
  have HIT : Hid (Lib.itoa v = if v < 0 then 45 :: Lib.decDigits N else Lib.decDigits N) := by
    unfold Hid Lib.itoa
    by_cases hv : v < 0
    · rw [if_pos hv, if_pos hv, hN]
    · rw [if_neg hv, if_neg hv, show v.toNat = N by omega]
  generalize Lib.itoa v = T at *
  by_cases hv : v < 0
  · have hu1 : IntKind.u64.wrap v = 18446744073709551616 - (N : Int) := by
      have : IntKind.u64.wrap v = v % 18446744073709551616 := rfl
      rw [this]; omega
    have hu2 : IntKind.u64.wrap (-(18446744073709551616 - (N : Int))) = (N : Int) := by
      have : IntKind.u64.wrap (-(18446744073709551616 - (N : Int))) = (-(18446744073709551616 - (N : Int))) % 18446744073709551616 := rfl
      rw [this]; omega
    clear hN
    go_enter Tryz.func32, Tryz.ntmps32
    go_wp2_with fail
    go_loopw [3, 4] (fun sv uv wr => ∃ (m : Nat) (acc : List UInt8), m ≤ N ∧ uv = .int .u64 (m : Int) ∧ sv = .string (bs acc) ∧ Hid (DigRel N m acc) ∧ Below w.heap.size w wr) (fun sv uv _ => (intOf uv).toNat + (match sv with | .string b => if b.size = 0 then 1 else 0 | _ => 0))
    case atStart => exact ⟨N, [], Nat.le_refl _, by first | rfl | go_num, rfl, .inl ⟨rfl, rfl⟩, Below.refl _ _⟩
    case round =>
      obtain ⟨m, acc, hm, rfl, rfl, hrel2, hbel⟩ := hrel
      have hlen : acc.length ≤ 21 := Nat.le_trans hrel2.out.len HLEN.out
      have hsz := bs_size acc
      by_cases hz : m = 0 ∧ acc ≠ []
      · obtain ⟨rfl, hne⟩ := hz
        have he : (bs acc).toList.isEmpty = false := by rw [ByteArray.toList_eq, bs_list]; cases acc with | nil => exact absurd rfl hne | cons a r => rfl
        have t3 : ¬ bs acc = ByteArray.empty := by intro e; have := congrArg ByteArray.size e; rw [hsz] at this; simp at this; exact hne this
        have HF := Lib.hid (hrel2.out.fin hne)
        have HB := Lib.hid hbel
        clear hrel2 hbel
        have HC : Hid ((⟨#[45]⟩ : ByteArray) ++ bs acc = bs (45 :: acc)) := cons_text 45 acc
        go_wp2_with fail
        go_ret
        refine ⟨ret_string ?_, HB.out⟩
        rw [HIT.out, if_pos hv, ← HF.out]
        exact HC.out
      · obtain ⟨x, hx⟩ : ∃ x : UInt8, UInt8.ofNat (48 + (m : Int) % 10).toNat = x := ⟨_, rfl⟩
        have kc := one_text wr (48 + (m : Int) % 10) (by omega) (by omega)
        rw [hx] at kc
        have hxe : UInt8.ofNat (48 + m % 10) = x := by rw [← hx]; congr 1
        have HN := Lib.hid (hrel2.out.step (by
          by_cases h0 : m = 0
          · exact .inr (Classical.byContradiction fun h => hz ⟨h0, h⟩)
          · exact .inl h0))
        rw [hxe] at HN
        have HC : Hid ((⟨#[x]⟩ : ByteArray) ++ bs acc = bs (x :: acc)) := cons_text x acc
        have HB := Lib.hid hbel
        by_cases h0 : m = 0
        · obtain rfl : acc = [] := Classical.byContradiction fun h => hz ⟨h0, h⟩
          subst h0
          have he0 : (bs ([] : List UInt8)).toList.isEmpty = true := by rw [ByteArray.toList_eq, bs_list]; rfl
          have kd := one_text wr 48 (by omega) (by omega)
          rw [show UInt8.ofNat (48 : Int).toNat = x from hxe] at kd
          clear hrel2 hbel hz hx hxe kc
          go_wp2_with fail
          refine ⟨⟨0, [x], by omega, by first | rfl | go_num, ?_, HN.out, HB.out.alloc HB.out.size _⟩, ?_⟩
          · exact congrArg Value.string HC.out
          · simp [intOf, bs, ByteArray.size]
        · have hmI : (0 : Int) < (m : Int) := by omega
          clear hrel2 hbel hz hx hxe
          go_wp2_with fail
          refine ⟨⟨m / 10, x :: acc, by omega, by first | rfl | go_num, ?_, HN.out, HB.out.alloc HB.out.size _⟩, ?_⟩
          · exact congrArg Value.string HC.out
          · rw [show (⟨#[x]⟩ : ByteArray) ++ bs acc = bs (x :: acc) from HC.out]
            dsimp only
            rw [if_neg (by rw [bs_size]; simp)]
            simp only [intOf]
            omega
  · have hu1 : IntKind.u64.wrap v = (N : Int) := by
      have : IntKind.u64.wrap v = v % 18446744073709551616 := rfl
      rw [this]; omega
    clear hN
    go_enter Tryz.func32, Tryz.ntmps32
    go_wp2_with fail
    go_loopw [3, 4] (fun sv uv wr => ∃ (m : Nat) (acc : List UInt8), m ≤ N ∧ uv = .int .u64 (m : Int) ∧ sv = .string (bs acc) ∧ Hid (DigRel N m acc) ∧ Below w.heap.size w wr) (fun sv uv _ => (intOf uv).toNat + (match sv with | .string b => if b.size = 0 then 1 else 0 | _ => 0))
    case atStart => exact ⟨N, [], Nat.le_refl _, by first | rfl | go_num, rfl, .inl ⟨rfl, rfl⟩, Below.refl _ _⟩
    case round =>
      obtain ⟨m, acc, hm, rfl, rfl, hrel2, hbel⟩ := hrel
      have hlen : acc.length ≤ 21 := Nat.le_trans hrel2.out.len HLEN.out
      have hsz := bs_size acc
      by_cases hz : m = 0 ∧ acc ≠ []
      · obtain ⟨rfl, hne⟩ := hz
        have he : (bs acc).toList.isEmpty = false := by rw [ByteArray.toList_eq, bs_list]; cases acc with | nil => exact absurd rfl hne | cons a r => rfl
        have t3 : ¬ bs acc = ByteArray.empty := by intro e; have := congrArg ByteArray.size e; rw [hsz] at this; simp at this; exact hne this
        have HF := Lib.hid (hrel2.out.fin hne)
        have HB := Lib.hid hbel
        clear hrel2 hbel
        go_wp2_with fail
        go_ret
        refine ⟨ret_string ?_, HB.out⟩
        rw [HIT.out, if_neg (by omega), ← HF.out]
      · obtain ⟨x, hx⟩ : ∃ x : UInt8, UInt8.ofNat (48 + (m : Int) % 10).toNat = x := ⟨_, rfl⟩
        have kc := one_text wr (48 + (m : Int) % 10) (by omega) (by omega)
        rw [hx] at kc
        have hxe : UInt8.ofNat (48 + m % 10) = x := by rw [← hx]; congr 1
        have HN := Lib.hid (hrel2.out.step (by
          by_cases h0 : m = 0
          · exact .inr (Classical.byContradiction fun h => hz ⟨h0, h⟩)
          · exact .inl h0))
        rw [hxe] at HN
        have HC : Hid ((⟨#[x]⟩ : ByteArray) ++ bs acc = bs (x :: acc)) := cons_text x acc
        have HB := Lib.hid hbel
        by_cases h0 : m = 0
        · obtain rfl : acc = [] := Classical.byContradiction fun h => hz ⟨h0, h⟩
          subst h0
          have he0 : (bs ([] : List UInt8)).toList.isEmpty = true := by rw [ByteArray.toList_eq, bs_list]; rfl
          have kd := one_text wr 48 (by omega) (by omega)
          rw [show UInt8.ofNat (48 : Int).toNat = x from hxe] at kd
          clear hrel2 hbel hz hx hxe kc
          go_wp2_with fail
          refine ⟨⟨0, [x], by omega, by first | rfl | go_num, ?_, HN.out, HB.out.alloc HB.out.size _⟩, ?_⟩
          · exact congrArg Value.string HC.out
          · simp [intOf, bs, ByteArray.size]
        · have hmI : (0 : Int) < (m : Int) := by omega
          clear hrel2 hbel hz hx hxe
          go_wp2_with fail
          refine ⟨⟨m / 10, x :: acc, by omega, by first | rfl | go_num, ?_, HN.out, HB.out.alloc HB.out.size _⟩, ?_⟩
          · exact congrArg Value.string HC.out
          · rw [show (⟨#[x]⟩ : ByteArray) ++ bs acc = bs (x :: acc) from HC.out]
            dsimp only
            rw [if_neg (by rw [bs_size]; simp)]
            simp only [intOf]
            omega
end Go.Proofs.YtbdhhfaelnnocaaGreatDoor
