/-
  A text's journal. No code.
-/
import Derived.Test.YtbdhhfaelnnocaaGreatDoorMany5
import Derived.Test.YtbdhhfaelnnocaaGreatDoorMany6
import Derived.Test.YtbdhhfaelnnocaaGreatDoorEntrySame
namespace Go.Proofs.YtbdhhfaelnnocaaGreatDoor
open Go.RowKit

/-- A line's three numbers. -/
def lineOf (p : List UInt8) : Option Lin := match numOf ((splitL 58 p).headD []), numOf ((splitL 58 p).tail.headD []), numOf ((splitL 58 p).tail.tail.headD []) with
  | some a, some b, some c => if (splitL 58 p).tail.tail.tail = [] then some ⟨a, b, c⟩ else none
  | _, _, _ => none
/-- Lines, no more than so many. -/
def linesOf : Nat → List (List UInt8) → Option (List Lin)
  | 0, _ => some []
  | _ + 1, [] => some []
  | m + 1, p :: ps => match lineOf p with
    | none => none
    | some l => (linesOf m ps).map (l :: ·)
def refOf (p : List UInt8) : List UInt8 := if p = [45] then [] else p
def stateOk (p : List UInt8) : Bool := decide (p = [108, 105, 118, 101]) || decide (p = [118, 111, 105, 100])
def voidOf (p : List UInt8) : Bool := decide (p = [118, 111, 105, 100])
/-- What is read of a text's parts. -/
def readP (p0 p1 p2 p3 p4 : List UInt8) (ps : List (List UInt8)) : Option Jrn := match numOf p0, numOf p1 with
  | some id, some ent => if parseOk p2 = true then if p3 = [] then none else if stateOk p4 = true then (linesOf 9 ps).map fun L => ⟨id, ent, parseV p2, bs (refOf p3), L, voidOf p4⟩ else none else none
  | _, _ => none
def readJ (ps : List (List UInt8)) : Option Jrn := readP (ps.headD []) (ps.tail.headD []) (ps.tail.tail.headD []) (ps.tail.tail.tail.headD []) (ps.tail.tail.tail.tail.headD []) ps.tail.tail.tail.tail.tail
def parseJ (s : List UInt8) : Option Jrn := match readJ (splitL 32 s) with
  | some j => if checkE j = 0 then some j else none
  | none => none

theorem digits_no {n : Int} {c : UInt8} (h : c.toNat ≠ 45) (h2 : c.toNat < 48 ∨ 57 < c.toNat) : c ∉ Lib.itoa n := by
  intro hc
  have := itoa_bytes n c hc
  omega
theorem itoa_ne (n : Int) : Lib.itoa n ≠ [] := by
  unfold Lib.itoa
  split
  · simp
  · exact dec_ne _
theorem lineT_split (l : Lin) : splitL 58 (lineT l) = [Lib.itoa l.acct, Lib.itoa l.amt, Lib.itoa l.part] := by
  have h : ∀ n, (58 : UInt8) ∉ Lib.itoa n := fun n => digits_no (by decide) (by decide)
  have e : lineT l = Lib.itoa l.acct ++ 58 :: (Lib.itoa l.amt ++ 58 :: Lib.itoa l.part) := by unfold lineT; simp [List.append_assoc]
  rw [e, split_app 58 _ _ (h _), split_app 58 _ _ (h _), split_clean 58 _ (h _)]
theorem lineOf_iff {p : List UInt8} {l : Lin} : lineOf p = some l ↔ l.ok64 ∧ p = lineT l := by
  constructor
  · intro h
    unfold lineOf at h
    split at h
    · rename_i a b c h1 h2 h3
      split at h
      · rename_i h4
        injection h with h
        subst h
        rw [numOf_iff] at h1 h2 h3
        refine ⟨⟨h1.1, h2.1, h3.1⟩, ?_⟩
        have hs : splitL 58 p = [Lib.itoa a, Lib.itoa b, Lib.itoa c] := by
          cases q : splitL 58 p with
          | nil => exact absurd q (split_ne _ _)
          | cons p1 r1 =>
            rw [q] at h1 h2 h3 h4
            cases r1 with
            | nil => exact absurd h2.2.symm (itoa_ne b)
            | cons p2 r2 =>
              cases r2 with
              | nil => exact absurd h3.2.symm (itoa_ne c)
              | cons p3 r3 =>
                simp only [List.headD, List.tail] at h1 h2 h3 h4
                rw [h1.2, h2.2, h3.2, h4]
        have := join_split 58 p
        rw [hs, join_cons2, join_cons2, Lib.join_one] at this
        rw [← this]
        unfold lineT
        simp [List.append_assoc]
      · cases h
    · cases h
  · rintro ⟨⟨h1, h2, h3⟩, rfl⟩
    unfold lineOf
    rw [lineT_split]
    simp only [List.headD, List.tail]
    rw [numOf_iff.2 ⟨h1, rfl⟩, numOf_iff.2 ⟨h2, rfl⟩, numOf_iff.2 ⟨h3, rfl⟩]
    simp
theorem linesOf_is : ∀ (m : Nat) (ps : List (List UInt8)) (L : List Lin), linesOf m ps = some L → L.length < m → (∀ l ∈ L, l.ok64) ∧ ps = L.map lineT
  | 0, _, _, _, h2 => absurd h2 (by omega)
  | m + 1, [], L, h, _ => by
    simp [linesOf] at h
    subst h; simp
  | m + 1, p :: ps, L, h, h2 => by
    rw [linesOf] at h
    cases hl : lineOf p with
    | none => rw [hl] at h; cases h
    | some l =>
      rw [hl] at h
      simp only at h
      cases hr : linesOf m ps with
      | none => rw [hr] at h; cases h
      | some R =>
        rw [hr] at h
        simp at h
        subst h
        obtain ⟨h3, h4⟩ := linesOf_is m ps R hr (by simp at h2; omega)
        obtain ⟨h5, h6⟩ := lineOf_iff.1 hl
        refine ⟨fun x hx => ?_, by rw [h6, h4]; rfl⟩
        rcases List.mem_cons.1 hx with rfl | hx
        · exact h5
        · exact h3 x hx
theorem linesOf_of : ∀ (m : Nat) (L : List Lin), L.length ≤ m → (∀ l ∈ L, l.ok64) → linesOf m (L.map lineT) = some L
  | 0, L, h, _ => by
    have : L = [] := List.eq_nil_of_length_eq_zero (by omega)
    subst this; rfl
  | m + 1, [], _, _ => rfl
  | m + 1, l :: L, h, h2 => by
    rw [List.map_cons, linesOf, lineOf_iff.2 ⟨h2 l (by simp), rfl⟩]
    simp only
    rw [linesOf_of m L (by simp at h; omega) (fun x hx => h2 x (by simp [hx]))]
    rfl
theorem parts_cons {ps : List (List UInt8)} {x : List UInt8} (h : ps.headD [] = x) (hx : x ≠ []) : ps = x :: ps.tail := by
  cases ps with
  | nil => exact absurd h.symm hx
  | cons a r => simp at h; subst h; rfl
theorem checkE_64 {j : Jrn} (h : checkE j = 0) : j.ok64 := by
  obtain ⟨h1, h2, h3, _⟩ := checkE_ok h
  unfold frontOk at h1
  simp only [Bool.and_eq_true, inB_iff] at h1
  have hp := okP_t h1.1.2
  refine ⟨by omega, by omega, by omega, fun l hl => ?_⟩
  unfold linesOk at h2
  rw [Bool.and_eq_true] at h2
  have hlo := List.all_eq_true.1 h2.2 l hl
  have hfi := fits1_iff.1 (List.all_eq_true.1 h3 l hl)
  unfold lineOk at hlo
  simp only [Bool.and_eq_true, inB_iff] at hlo
  exact ⟨by omega, by omega, by omega⟩
theorem checkE_len {j : Jrn} (h : checkE j = 0) : 2 ≤ j.lines.length ∧ j.lines.length ≤ 8 := linesOk_len (checkE_ok h).2.1
theorem checkE_per {j : Jrn} (h : checkE j = 0) : okP j.per = true := by
  have h1 := (checkE_ok h).1
  unfold frontOk at h1
  simp only [Bool.and_eq_true] at h1
  exact h1.1.2
theorem checkE_refs {j : Jrn} (h : checkE j = 0) : ∀ b ∈ j.ref.data.toList, 48 ≤ b.toNat ∧ b.toNat ≤ 90 := by
  have h1 := (checkE_ok h).1
  unfold frontOk refOk refAll at h1
  simp only [Bool.and_eq_true] at h1
  intro b hb
  have := List.all_eq_true.1 h1.2.2 b hb
  unfold refB at this
  simp at this
  omega

theorem state_text {p : List UInt8} (h : stateOk p = true) : stateT (voidOf p) = p := by
  unfold stateOk at h
  simp at h
  rcases h with rfl | rfl <;> rfl
theorem ref_text {p : List UInt8} (h : p ≠ []) : refT (refOf p) = p := by
  unfold refT refOf
  by_cases h1 : p = [45]
  · rw [if_pos h1, if_pos rfl, h1]
  · rw [if_neg h1, if_neg h]
theorem ref_back {l : List UInt8} (h : ∀ b ∈ l, 48 ≤ b.toNat) : refOf (refT l) = l := by
  unfold refT refOf
  by_cases h1 : l = []
  · rw [if_pos h1, if_pos rfl, h1]
  · rw [if_neg h1]
    rw [if_neg]
    intro h2
    have := h 45 (by rw [h2]; simp)
    have h45 : (45 : UInt8).toNat = 45 := by decide
    omega

theorem parseJ_is {s : List UInt8} {j : Jrn} (h : parseJ s = some j) : checkE j = 0 ∧ textJ j = s := by
  unfold parseJ at h
  split at h
  · rename_i k hk
    split at h
    · rename_i hc
      injection h with h
      subst h
      refine ⟨hc, ?_⟩
      unfold readJ readP at hk
      split at hk
      · rename_i id ent h0 h1
        split at hk
        · rename_i h2
          split at hk
          · cases hk
          · rename_i h3
            split at hk
            · rename_i h4
              cases hL : linesOf 9 (splitL 32 s).tail.tail.tail.tail.tail with
              | none => rw [hL] at hk; cases hk
              | some L =>
                rw [hL] at hk
                have hk := Option.some.inj hk
                have hlen := checkE_len hc
                rw [← hk] at hlen
                obtain ⟨_, h5⟩ := linesOf_is 9 _ L hL (by simp only at hlen; omega)
                rw [numOf_iff] at h0 h1
                obtain ⟨h6, h7⟩ := parse_is h2
                have e := join_split 32 s
                have e0 := parts_cons h0.2 (itoa_ne _)
                have e1 := parts_cons h1.2 (itoa_ne _)
                have e2 := parts_cons h7.symm (by intro q; have := textB_len h6; rw [q] at this; cases this)
                have e3 := parts_cons rfl h3
                have e4 := parts_cons (state_text h4).symm (by unfold stateT; split <;> simp)
                rw [e0, e1, e2, e3, e4, h5] at e
                rw [← e, ← hk]
                unfold textJ partsJ
                simp only [bs_list, ref_text h3]
                rfl
            · cases hk
        · cases hk
      · cases hk
    · cases h
  · cases h
theorem parts_free {j : Jrn} (h : checkE j = 0) : ∀ p ∈ partsJ j, (32 : UInt8) ∉ p := by
  have hd : ∀ n, (32 : UInt8) ∉ Lib.itoa n := fun n => digits_no (by decide) (by decide)
  intro p hp
  unfold partsJ at hp
  simp only [List.mem_append, List.mem_cons, List.not_mem_nil, or_false, List.mem_map] at hp
  rcases hp with (rfl | rfl | rfl | rfl | rfl) | ⟨l, hl, rfl⟩
  · exact hd _
  · exact hd _
  · intro hm
    obtain ⟨k, hk, he⟩ := List.getElem_of_mem hm
    have := textB_at (checkE_per h) k hk
    rw [he] at this
    have d1 := dig_mem 2 (monthV j.per) (k - 5)
    have d2 := dig_mem 4 (yearV j.per) (k - 0)
    have h32 : (32 : UInt8).toNat = 32 := by decide
    rw [h32] at this
    split at this
    · omega
    · split at this
      · omega
      · split at this <;> omega
  · unfold refT
    split
    · decide
    · intro hm
      have := checkE_refs h 32 hm
      have h32 : (32 : UInt8).toNat = 32 := by decide
      omega
  · unfold stateT; split <;> decide
  · unfold lineT
    simp only [List.mem_append, not_or]
    exact ⟨⟨⟨⟨hd _, by decide⟩, hd _⟩, by decide⟩, hd _⟩
theorem parseJ_of {s : List UInt8} {j : Jrn} (h : checkE j = 0) (ht : textJ j = s) : parseJ s = some j := by
  have hs : splitL 32 s = partsJ j := by
    rw [← ht]
    exact split_join 32 _ (by simp [partsJ]) (parts_free h)
  have h64 := checkE_64 h
  have hb := back (checkE_per h)
  unfold parseJ
  rw [hs]
  have hr : readJ (partsJ j) = some j := by
    show readP (Lib.itoa j.id) (Lib.itoa j.ent) (textB j.per) (refT j.ref.data.toList) (stateT j.void) (j.lines.map lineT) = some j
    unfold readP
    rw [numOf_iff.2 ⟨h64.1, rfl⟩, numOf_iff.2 ⟨h64.2.1, rfl⟩]
    simp only
    rw [if_pos hb.1, hb.2]
    have hrf : refT j.ref.data.toList ≠ [] := by
      unfold refT
      split
      · simp
      · assumption
    rw [if_neg hrf, if_pos (show stateOk (stateT j.void) = true by cases j.void <;> rfl), linesOf_of 9 _ (by have := checkE_len h; omega) h64.2.2.2]
    have e2 : voidOf (stateT j.void) = j.void := by cases j.void <;> rfl
    rw [ref_back (fun b hb => (checkE_refs h b hb).1), e2, bs_back]
    rfl
  rw [hr]
  simp only
  rw [if_pos h]
theorem parseJ_iff {s : List UInt8} {j : Jrn} : parseJ s = some j ↔ checkE j = 0 ∧ textJ j = s := ⟨parseJ_is, fun h => parseJ_of h.1 h.2⟩
end Go.Proofs.YtbdhhfaelnnocaaGreatDoor
