/-
  Several texts, one behind the other: what each holds stands ahead of it.
-/
import Derived.Test.YtbdhhfaelnnocaaGreatDoorEntryText
import Derived.Lib.AtoiAll
import Derived.Test.YtbdhhfaelnnocaaGreatDoorTermText

/-
  Numerals: what Atoi reads and Itoa writes just so; texts cut at a byte. No code.
-/
namespace Go.Proofs.YtbdhhfaelnnocaaGreatDoor
open Go.RowKit

def in64 (n : Int) : Prop := -9223372036854775808 ≤ n ∧ n ≤ 9223372036854775807
/-- The number that a text is, if it is written as Itoa does. -/
def numOf (p : List UInt8) : Option Int := match Lib.atoiAll p with
  | .ok n => if Lib.itoa n = p then some n else none
  | _ => none

theorem atoi_in {p : List UInt8} {n : Int} (h : Lib.atoiAll p = .ok n) : in64 n := by
  unfold Lib.atoiAll at h
  split at h
  · cases h
  · simp only at h
    split at h
    · cases h
    · cases h
    · split at h
      · cases h
      · split at h
        · cases h
        · rename_i h1 h2
          injection h with h
          subst h
          unfold in64
          split <;> rename_i h3
          · simp only [h3, true_and, Nat.not_lt] at h2
            omega
          · simp only [h3, not_false_eq_true, true_and, Nat.not_le] at h1
            omega
theorem digit_nat {u : Nat} (h : u < 10) : (UInt8.ofNat (48 + u)).toNat = 48 + u := by
  rw [UInt8.toNat_ofNat_of_lt' (by simp [UInt8.size]; omega)]
theorem dec_digits : ∀ (u : Nat), ∀ b ∈ Lib.decDigits u, 48 ≤ b.toNat ∧ b.toNat ≤ 57 := by
  intro u
  induction u using Nat.strongRecOn with
  | _ u ih =>
    intro b hb
    rw [Lib.decDigits] at hb
    split at hb
    · rename_i h
      rw [List.mem_singleton] at hb
      rw [hb, digit_nat h]; omega
    · rename_i h
      rw [List.mem_append] at hb
      rcases hb with hb | hb
      · exact ih (u / 10) (by omega) b hb
      · rw [List.mem_singleton] at hb
        rw [hb, digit_nat (u := u % 10) (by omega)]; omega
theorem dec_ne (u : Nat) : Lib.decDigits u ≠ [] := by
  rw [Lib.decDigits]
  split <;> simp
theorem parse_app : ∀ (l : List UInt8) (acc u : Nat) (r : List UInt8), Lib.parseUint10 acc l = .ok u → Lib.parseUint10 acc (l ++ r) = Lib.parseUint10 u r
  | [], acc, u, r, h => by
    simp only [Lib.parseUint10] at h
    injection h with h
    subst h; rfl
  | c :: l, acc, u, r, h => by
    rw [List.cons_append]
    rw [Lib.parseUint10] at h ⊢
    split at h
    · rename_i h1
      rw [if_pos h1]
      split at h
      · cases h
      · rename_i h2
        rw [if_neg h2]
        split at h
        · cases h
        · rename_i h3
          rw [if_neg h3]
          exact parse_app l _ u r h
    · cases h
theorem parse_dec : ∀ (u : Nat), u < 18446744073709551616 → Lib.parseUint10 0 (Lib.decDigits u) = .ok u := by
  intro u
  induction u using Nat.strongRecOn with
  | _ u ih =>
    intro hu
    rw [Lib.decDigits]
    split
    · rename_i h
      rw [Lib.parseUint10, digit_nat h, if_pos (by omega), if_neg (by omega), if_neg (by omega), Lib.parseUint10]
      congr 1; omega
    · rename_i h
      rw [parse_app _ 0 (u / 10) _ (ih (u / 10) (by omega) (by omega)), Lib.parseUint10, digit_nat (u := u % 10) (by omega), if_pos (by omega), if_neg (by omega), if_neg (by omega), Lib.parseUint10]
      congr 1; omega
theorem mag_dec {u : Nat} (h : u < 18446744073709551616) : Lib.parseMag (Lib.decDigits u) = .ok u := by
  unfold Lib.parseMag
  rw [if_neg (dec_ne u), parse_dec u h]
theorem atoi_itoa {n : Int} (h : in64 n) : Lib.atoiAll (Lib.itoa n) = .ok n := by
  unfold in64 at h
  by_cases hn : n < 0
  · obtain ⟨u, rfl, hu⟩ : ∃ u : Nat, n = -(u : Int) ∧ 1 ≤ u := ⟨n.natAbs, by omega, by omega⟩
    have e : Lib.itoa (-(u : Int)) = 45 :: Lib.decDigits u := by unfold Lib.itoa; rw [if_pos hn]; simp
    rw [e]
    unfold Lib.atoiAll
    simp only
    rw [if_pos (.inr (by decide)), mag_dec (by omega)]
    simp only
    have h45 : (45 : UInt8).toNat = 45 := by decide
    rw [if_neg (by rw [h45]; omega), if_neg (by omega), if_pos h45]
  · obtain ⟨u, rfl⟩ : ∃ u : Nat, n = (u : Int) := ⟨n.toNat, by omega⟩
    have e : Lib.itoa (u : Int) = Lib.decDigits u := by unfold Lib.itoa; rw [if_neg hn]; simp
    rw [e]
    cases hd : Lib.decDigits u with
    | nil => exact absurd hd (dec_ne u)
    | cons c r =>
      have hc := dec_digits u c (by rw [hd]; simp)
      unfold Lib.atoiAll
      simp only
      rw [if_neg (by omega), ← hd, mag_dec (by omega)]
      simp only
      rw [if_neg (by omega), if_neg (by omega), if_neg (by omega)]
theorem numOf_iff {p : List UInt8} {n : Int} : numOf p = some n ↔ in64 n ∧ p = Lib.itoa n := by
  unfold numOf
  constructor
  · intro h
    split at h
    · rename_i m hm
      split at h
      · rename_i he
        injection h with h
        subst h
        exact ⟨atoi_in hm, he.symm⟩
      · cases h
    · cases h
  · rintro ⟨h1, rfl⟩
    rw [atoi_itoa h1]
    simp
theorem numOf_nil : numOf [] = none := rfl
theorem itoa_bytes (n : Int) : ∀ b ∈ Lib.itoa n, b.toNat = 45 ∨ 48 ≤ b.toNat ∧ b.toNat ≤ 57 := by
  intro b hb
  unfold Lib.itoa at hb
  split at hb
  · rcases List.mem_cons.1 hb with rfl | hb
    · exact .inl (by decide)
    · exact .inr (dec_digits _ b hb)
  · exact .inr (dec_digits _ b hb)

/-- A text cut at a byte. -/
def splitL (c : UInt8) : List UInt8 → List (List UInt8)
  | [] => [[]]
  | b :: l => if b = c then [] :: splitL c l else match splitL c l with
    | [] => [[b]]
    | p :: ps => (b :: p) :: ps
theorem split_ne (c : UInt8) : ∀ l, splitL c l ≠ []
  | [] => by simp [splitL]
  | b :: l => by
    rw [splitL]
    split
    · simp
    · cases h : splitL c l with
      | nil => simp
      | cons p ps => simp
theorem join_cons2 (c : UInt8) (p q : List UInt8) (ps : List (List UInt8)) : Lib.join (p :: q :: ps) [c] = p ++ c :: Lib.join (q :: ps) [c] := by
  rw [Lib.join_cons, Lib.join_cons]
  simp [Lib.joinTail]
theorem join_first (c b : UInt8) (p : List UInt8) (ps : List (List UInt8)) : Lib.join ((b :: p) :: ps) [c] = b :: Lib.join (p :: ps) [c] := by
  rw [Lib.join_cons, Lib.join_cons]; rfl
theorem join_split (c : UInt8) : ∀ l, Lib.join (splitL c l) [c] = l
  | [] => rfl
  | b :: l => by
    have ih := join_split c l
    rw [splitL]
    cases h : splitL c l with
    | nil => exact absurd h (split_ne c l)
    | cons p ps =>
      rw [h] at ih
      split
      · rename_i hb
        rw [join_cons2, ih, hb]; rfl
      · simp only
        rw [join_first, ih]
theorem split_free (c : UInt8) : ∀ l, ∀ p ∈ splitL c l, c ∉ p
  | [], p, hp => by
    simp [splitL] at hp
    subst hp; simp
  | b :: l, p, hp => by
    have ih := split_free c l
    rw [splitL] at hp
    cases h : splitL c l with
    | nil => exact absurd h (split_ne c l)
    | cons q qs =>
      rw [h] at hp ih
      split at hp
      · rcases List.mem_cons.1 hp with rfl | hp
        · simp
        · exact ih p hp
      · rename_i hb
        simp only at hp
        rcases List.mem_cons.1 hp with rfl | hp
        · intro hc
          rcases List.mem_cons.1 hc with hc | hc
          · exact hb hc.symm
          · exact ih q (by simp) hc
        · exact ih p (by simp [hp])
theorem split_clean (c : UInt8) : ∀ p : List UInt8, c ∉ p → splitL c p = [p]
  | [], _ => rfl
  | b :: p, h => by
    rw [splitL, if_neg (fun e => h (by simp [e])), split_clean c p (fun e => h (by simp [e]))]
theorem split_app (c : UInt8) (l : List UInt8) : ∀ p : List UInt8, c ∉ p → splitL c (p ++ c :: l) = p :: splitL c l
  | [], _ => by rw [List.nil_append, splitL, if_pos rfl]
  | b :: p, h => by
    rw [List.cons_append, splitL, if_neg (fun e => h (by simp [e])), split_app c l p (fun e => h (by simp [e]))]
theorem split_join (c : UInt8) : ∀ ps : List (List UInt8), ps ≠ [] → (∀ p ∈ ps, c ∉ p) → splitL c (Lib.join ps [c]) = ps
  | [], h, _ => absurd rfl h
  | [p], _, h => by rw [Lib.join_one]; exact split_clean c p (h p (by simp))
  | p :: q :: ps, _, h => by
    rw [join_cons2, split_app c _ p (h p (by simp)), split_join c (q :: ps) (by simp) (fun x hx => h x (by simp at hx; simp [hx]))]
end Go.Proofs.YtbdhhfaelnnocaaGreatDoor

/-
  Months' texts as bytes: their length; they rise.
-/
namespace Go.Proofs.YtbdhhfaelnnocaaGreatDoor
open Go.RowKit

def textS (p : Int) : ByteArray := ⟨(textB p).toArray⟩
theorem textV_eq (p : Int) : textV p = .string (textS p) := rfl
theorem textS_list (p : Int) : (textS p).toList = textB p := by unfold textS; simp
theorem textS_size {p : Int} (h : okP p = true) : (textS p).size = 7 := by
  unfold textS; simp [ByteArray.size, textB_len h]

theorem rise_all : ((List.range 1199).all fun p => Op.bytesLess (textB p) (textB (p + 1)) && !Op.bytesLess (textB (p + 1)) (textB p) && !(textB (p + 1) == textB p)) = true := by kernel_rfl
theorem rise {p : Int} (h0 : 0 ≤ p) (h1 : p < 1199) : Op.bytesLess (textS (p + 1)).toList (textS p).toList = false ∧ ((textS (p + 1)).toList == (textS p).toList) = false := by
  have := List.all_eq_true.1 rise_all p.toNat (by simp; omega)
  rw [textS_list, textS_list]
  rw [show ((p.toNat : Nat) : Int) = p by omega] at this
  simp at this
  refine ⟨this.1.2, by simpa using this.2⟩
end Go.Proofs.YtbdhhfaelnnocaaGreatDoor
