/-
  Several texts, one behind the other: what each holds stands ahead of it.
-/
import Derived.Test.YtafloaabjinkfaaGreatMany10
import Derived.Test.YtafloaabjinkfaaGreatOwn

/-
  Sums of a book's journals, by account and by entity; whether one of them is too great. No code.
-/
namespace Go.Proofs.YtafloaabjinkfaaGreat
open Go.RowKit

/-- What an account gets of lines. -/
def lineS (a : Int) : List Lin → Int
  | [] => 0
  | x :: r => (if x.acct = a then x.amt else 0) + lineS a r
def sumJ (a e : Int) (j : Jrn) : Int := if j.void = false ∧ j.ent = e then lineS a j.lines else 0
def sumM (a e : Int) : List Jrn → Int
  | [] => 0
  | j :: M => sumJ a e j + sumM a e M
theorem lineS_append (a : Int) : ∀ l m : List Lin, lineS a (l ++ m) = lineS a l + lineS a m
  | [], m => by simp [lineS]
  | x :: l, m => by show _ + lineS a (l ++ m) = _; rw [lineS_append a l m]; show _ = (_ + lineS a l) + _; omega
theorem sumM_append (a e : Int) : ∀ l m : List Jrn, sumM a e (l ++ m) = sumM a e l + sumM a e m
  | [], m => by simp [sumM]
  | x :: l, m => by show _ + sumM a e (l ++ m) = _; rw [sumM_append a e l m]; show _ = (_ + sumM a e l) + _; omega
theorem lineS_step {a : Int} {l : List Lin} {k : Nat} {x : Lin} (h : l[k]? = some x) : lineS a (l.take (k + 1)) = lineS a (l.take k) + (if x.acct = a then x.amt else 0) := by
  obtain ⟨hk, rfl⟩ := List.getElem?_eq_some_iff.1 h
  rw [List.take_succ_eq_append_getElem hk, lineS_append]
  simp [lineS]
theorem sumM_step {a e : Int} {l : List Jrn} {k : Nat} {x : Jrn} (h : l[k]? = some x) : sumM a e (l.take (k + 1)) = sumM a e (l.take k) + sumJ a e x := by
  obtain ⟨hk, rfl⟩ := List.getElem?_eq_some_iff.1 h
  rw [List.take_succ_eq_append_getElem hk, sumM_append]
  simp [sumM]
/-- How great sums are. -/
theorem lineS_bound {a : Int} : ∀ {l : List Lin}, fitsL l = true → -(1000000000000000 * (l.length : Int)) ≤ lineS a l ∧ lineS a l ≤ 1000000000000000 * (l.length : Int)
  | [], _ => by simp [lineS]
  | x :: l, h => by
    unfold fitsL at h
    rw [List.all_cons, Bool.and_eq_true] at h
    have h1 := fits1_iff.1 h.1
    have h2 := lineS_bound (a := a) (l := l) h.2
    unfold lineS
    rw [List.length_cons]
    split <;> omega
theorem fitsL_take {l : List Lin} (h : fitsL l = true) (k : Nat) : fitsL (l.take k) = true := by
  unfold fitsL at h ⊢
  rw [List.all_eq_true] at h ⊢
  exact fun x hx => h x (List.mem_of_mem_take hx)
theorem checkE_fits {j : Jrn} (h : checkE j = 0) : fitsL j.lines = true ∧ j.lines.length ≤ 8 ∧ (1 ≤ j.ent ∧ j.ent ≤ 9) ∧ ∀ x ∈ j.lines, 1 ≤ x.acct ∧ x.acct ≤ 9999 := by
  have hl := (checkE_len h).1
  unfold checkE at h
  split at h
  · rename_i h1
    split at h
    · rename_i h2
      rw [Bool.and_eq_true] at h1
      unfold frontOk linesOk linesAll at h1
      simp only [Bool.and_eq_true] at h1
      refine ⟨h2, hl, inB_iff.1 h1.1.1.1.2, fun x hx => ?_⟩
      have := List.all_eq_true.1 h1.2.2 x hx
      unfold lineOk at this
      simp only [Bool.and_eq_true] at this
      exact inB_iff.1 this.1.1.1
    · omega
  · omega
theorem sumJ_bound {a e : Int} {j : Jrn} (h : checkE j = 0) : -8000000000000000 ≤ sumJ a e j ∧ sumJ a e j ≤ 8000000000000000 := by
  obtain ⟨h1, h2, _⟩ := checkE_fits h
  have h3 := lineS_bound (a := a) h1
  unfold sumJ
  split <;> omega
theorem sumM_bound {a e : Int} : ∀ {M : List Jrn}, (∀ j ∈ M, checkE j = 0) → -(8000000000000000 * (M.length : Int)) ≤ sumM a e M ∧ sumM a e M ≤ 8000000000000000 * (M.length : Int)
  | [], _ => by simp [sumM]
  | j :: M, h => by
    have h1 := sumJ_bound (a := a) (e := e) (h j (by simp))
    have h2 := sumM_bound (a := a) (e := e) (M := M) fun x hx => h x (by simp [hx])
    unfold sumM
    rw [List.length_cons]
    omega
theorem sum_part {a e : Int} {M : List Jrn} {k i : Nat} {j : Jrn} (h : ∀ j ∈ M, checkE j = 0) (hl : M.length ≤ 200) (hj : M[k]? = some j) :
    -4000000000000000000 ≤ sumM a e (M.take k) + (if j.ent = e then lineS a (j.lines.take i) else 0) ∧ sumM a e (M.take k) + (if j.ent = e then lineS a (j.lines.take i) else 0) ≤ 4000000000000000000 := by
  have h1 := sumM_bound (a := a) (e := e) (M := M.take k) fun x hx => h x (List.mem_of_mem_take hx)
  have h2 : (M.take k).length ≤ 200 := by simp; omega
  obtain ⟨h3, h4, _⟩ := checkE_fits (h j (List.mem_of_getElem? hj))
  have h5 := lineS_bound (a := a) (fitsL_take h3 i)
  have h6 : (j.lines.take i).length ≤ 8 := by simp; omega
  split <;> omega

/-- Is one of the sums too great? As the document's book asks it. -/
def tooJ (M : List Jrn) : Bool := M.any fun j => j.lines.any fun x => !fits1 (sumM x.acct j.ent M)
def moneyE (M : List Jrn) : Int := if tooJ M = true then 2 else 0
theorem lineS_ne {a : Int} : ∀ {l : List Lin}, lineS a l ≠ 0 → ∃ x ∈ l, x.acct = a
  | [], h => absurd rfl h
  | x :: l, h => by
    by_cases hx : x.acct = a
    · exact ⟨x, by simp, hx⟩
    · rw [show lineS a (x :: l) = (if x.acct = a then x.amt else 0) + lineS a l from rfl, if_neg hx] at h
      obtain ⟨y, hy, e⟩ := lineS_ne (a := a) (l := l) (by omega)
      exact ⟨y, by simp [hy], e⟩
theorem sumM_ne {a e : Int} : ∀ {M : List Jrn}, sumM a e M ≠ 0 → ∃ j ∈ M, j.ent = e ∧ ∃ x ∈ j.lines, x.acct = a
  | [], h => absurd rfl h
  | j :: M, h => by
    by_cases hj : sumJ a e j = 0
    · rw [show sumM a e (j :: M) = sumJ a e j + sumM a e M from rfl] at h
      obtain ⟨y, hy, e⟩ := sumM_ne (a := a) (e := e) (M := M) (by omega)
      exact ⟨y, by simp [hy], e⟩
    · unfold sumJ at hj
      split at hj
      · rename_i h1
        exact ⟨j, by simp, h1.2, lineS_ne hj⟩
      · exact absurd rfl hj
theorem tooJ_of {M : List Jrn} {a e : Int} (h : fits1 (sumM a e M) = false) : tooJ M = true := by
  obtain ⟨j, hj, rfl, x, hx, rfl⟩ := sumM_ne (a := a) (e := e) (M := M) (by intro h0; rw [h0] at h; revert h; decide)
  unfold tooJ
  rw [List.any_eq_true]
  exact ⟨j, hj, List.any_eq_true.2 ⟨x, hx, by rw [h]; rfl⟩⟩
theorem tooJ_no {M : List Jrn} (h : ∀ j ∈ M, ∀ x ∈ j.lines, fits1 (sumM x.acct j.ent M) = true) : tooJ M = false := by
  unfold tooJ
  rw [List.any_eq_false]
  intro j hj
  rw [List.any_eq_true]
  rintro ⟨x, hx, e⟩
  rw [h j hj x hx] at e
  cases e

/-- The first error of several. -/
def firstE : List Int → Int
  | [] => 0
  | x :: r => if x = 0 then firstE r else x
theorem firstE_take : ∀ {l : List Int} {k : Nat} {x : Int}, firstE (l.take k) = 0 → l[k]? = some x → (x = 0 → firstE (l.take (k + 1)) = 0) ∧ (x ≠ 0 → firstE l = x)
  | [], k, x, _, h => by simp at h
  | y :: l, 0, x, _, h => by
    simp at h; subst h
    exact ⟨fun h => by simp [firstE, h], fun h => by simp [firstE, h]⟩
  | y :: l, k + 1, x, h0, h => by
    rw [List.take_succ_cons, firstE] at h0
    by_cases hy : y = 0
    · rw [if_pos hy] at h0
      obtain ⟨h1, h2⟩ := firstE_take (l := l) (k := k) h0 (by simpa using h)
      exact ⟨fun hx => by rw [List.take_succ_cons, firstE, if_pos hy]; exact h1 hx, fun hx => by rw [firstE, if_pos hy]; exact h2 hx⟩
    · rw [if_neg hy] at h0; exact absurd h0 hy

/-- A book's journal of a number, or the zero one. -/
def oldJ (M : List Jrn) (id : Int) : Jrn := (findK Jrn.id M id).getD zeroJ
def accts (l : List Lin) : List Int := l.map Lin.acct
end Go.Proofs.YtafloaabjinkfaaGreat

/-
  Lists of accounts, and the statements' helper over them: SameAccounts.
-/
namespace Go.Proofs.YtafloaabjinkfaaGreat
open Go.RowKit

/-- An element. -/
structure Acc where
  code : Int
  kind : Int
  ret : Bool
deriving DecidableEq
def Acc.cells (a : Acc) : List Value := [.int .i64 a.code, .int .i64 a.kind, .bool a.ret]
def Acc.val (a : Acc) : Value := .agg #[.int .i64 a.code, .int .i64 a.kind, .bool a.ret]
def accs (l : List Acc) : List Value := l.flatMap Acc.cells
theorem accs_len : ∀ l : List Acc, (accs l).length = l.length * 3
  | [] => rfl
  | a :: l => by have := accs_len l; unfold accs at this ⊢; simp [Acc.cells, this]; omega
theorem accs_append (l m : List Acc) : accs (l ++ m) = accs l ++ accs m := by simp [accs]
theorem accs_at : ∀ (l : List Acc) (k : Nat) (a : Acc), l[k]? = some a → (accs l)[k * 3]? = some (.int .i64 a.code) ∧ (accs l)[k * 3 + 1]? = some (.int .i64 a.kind) ∧ (accs l)[k * 3 + 2]? = some (.bool a.ret)
  | [], k, a, h => by simp at h
  | b :: l, 0, a, h => by
    simp at h; subst h
    exact ⟨rfl, rfl, rfl⟩
  | b :: l, k + 1, a, h => by
    have := accs_at l k a (by simpa using h)
    unfold accs at this ⊢
    simp only [List.flatMap_cons, Acc.cells]
    rw [show (k + 1) * 3 = k * 3 + 3 by omega]
    simpa [List.getElem?_append_right] using this
theorem Rd.accs_len {w : World} {B n : Nat} {A : Option Addr} {l : List Acc} (h : Rd w B 3 A n (accs l)) : l.length = n := by
  have := h.1; rw [Go.Proofs.YtafloaabjinkfaaGreat.accs_len] at this; omega
theorem Rd.acc {w : World} {B n i : Nat} {A : Option Addr} {l : List Acc} (h : Rd w B 3 A n (accs l)) (hi : i < n) :
    ∃ ad a, A = some ad ∧ ad.block < B ∧ l[i]? = some a ∧ w.cell? (ad.add (i * 3)) = some (.int .i64 a.code) ∧ w.cell? (ad.add (i * 3 + 1)) = some (.int .i64 a.kind) ∧ w.cell? (ad.add (i * 3 + 2)) = some (.bool a.ret) := by
  obtain ⟨ad, e, hb, hc⟩ := h.2 (by omega)
  have hl := h.accs_len
  have hg : l[i]? = some l[i] := List.getElem?_eq_getElem (by omega)
  obtain ⟨h1, h2, h3⟩ := accs_at l i _ hg
  exact ⟨ad, _, e, hb, hg, hc _ _ h1, hc _ _ h2, hc _ _ h3⟩

theorem infoAcc : (Tryz.prog.info? 74).map (fun i => (i.zero, i.size, i.bytes)) = some (some (.agg #[.int .i64 0, .int .i64 0, .bool false]), 3, 24) := by kernel_rfl
theorem acc_step {l m : List Acc} {k : Nat} (hk : k < l.length ∧ k < m.length) (h1 : l.take k = m.take k) (h2 : l[k]? = m[k]?) : l.take (k + 1) = m.take (k + 1) := by
  rw [List.take_succ_eq_append_getElem hk.1, List.take_succ_eq_append_getElem hk.2, h1]
  rw [List.getElem?_eq_getElem hk.1, List.getElem?_eq_getElem hk.2] at h2
  injection h2 with h2
  rw [h2]

end Go.Proofs.YtafloaabjinkfaaGreat

/-
  Charts as lists of accounts: what is found, where one would stand, what is added, retired. No code.
-/
namespace Go.Proofs.YtafloaabjinkfaaGreat
open Go.RowKit

def okRow (code kind : Int) : Bool := decide (1 ≤ code ∧ code ≤ 9999 ∧ 1 ≤ kind ∧ kind ≤ 5)
def posn (l : List Acc) (x : Int) : Nat := (l.takeWhile fun a => decide (a.code < x)).length
def findA (l : List Acc) (x : Int) : Option Acc := l.find? fun a => a.code == x
def insA (l : List Acc) (a : Acc) : List Acc := l.take (posn l a.code) ++ a :: l.drop (posn l a.code)
/-- Codes rise, and all is as it may be. -/
def GoodA (l : List Acc) : Prop := l.Pairwise (fun a b => a.code < b.code) ∧ ∀ a ∈ l, okRow a.code a.kind = true
def addE (l : List Acc) (a : Acc) : Int := if okRow a.code a.kind = true then (if (findA l a.code).isSome = true then 7 else 0) else 1
def addL (l : List Acc) (a : Acc) : List Acc := if addE l a = 0 then insA l a else l
def retE (l : List Acc) (x : Int) : Int := match findA l x with
  | none => 9
  | some a => if a.ret = true then 5 else 0
def retL (l : List Acc) (x : Int) : List Acc := l.map fun a => { a with ret := a.ret || a.code == x }
def liveE1 (l : List Acc) (x : Int) : Int := match findA l x with
  | none => 4
  | some a => if a.ret = true then 5 else 0
def liveECh (l : List Acc) : List Int → Int
  | [] => 0
  | x :: r => if liveE1 l x = 0 then liveECh l r else liveE1 l x
def kindL (l : List Acc) (ks : List Int) : List Int := (l.filter fun a => ks.contains a.kind).map (·.code)

theorem posn_le (l : List Acc) (x : Int) : posn l x ≤ l.length := by unfold posn; exact (List.takeWhile_prefix _).length_le
theorem posn_cons (a : Acc) (l : List Acc) (x : Int) : posn (a :: l) x = if a.code < x then posn l x + 1 else 0 := by
  unfold posn
  by_cases h : a.code < x <;> simp [List.takeWhile_cons, h]
theorem posn_lt : ∀ (l : List Acc) (x : Int) (k : Nat) (a : Acc), k < posn l x → l[k]? = some a → a.code < x
  | [], x, k, a, _, h2 => by simp at h2
  | b :: l, x, k, a, h1, h2 => by
    rw [posn_cons] at h1
    split at h1
    · cases k with
      | zero => simp at h2; subst h2; assumption
      | succ k => exact posn_lt l x k a (by omega) (by simpa using h2)
    · omega
theorem posn_at : ∀ (l : List Acc) (x : Int) (a : Acc), l[posn l x]? = some a → x ≤ a.code
  | [], x, a, h => by simp at h
  | b :: l, x, a, h => by
    rw [posn_cons] at h
    split at h
    · exact posn_at l x a (by simpa using h)
    · simp at h; subst h; omega
theorem posn_eq {l : List Acc} {x : Int} {i : Nat} (hi : i ≤ l.length) (h1 : ∀ k a, k < i → l[k]? = some a → a.code < x) (h2 : ∀ a, l[i]? = some a → x ≤ a.code) : posn l x = i := by
  rcases Nat.lt_trichotomy (posn l x) i with h | h | h
  · have hl : posn l x < l.length := by omega
    have := posn_at l x _ (List.getElem?_eq_getElem hl)
    have := h1 _ _ h (List.getElem?_eq_getElem hl)
    omega
  · exact h
  · have := posn_le l x
    have hl : i < l.length := by omega
    have := posn_lt l x i _ h (List.getElem?_eq_getElem hl)
    have := h2 _ (List.getElem?_eq_getElem hl)
    omega
theorem rise_ltCh {l : List Acc} (h : l.Pairwise fun a b => a.code < b.code) {i j : Nat} {a b : Acc} (hij : i < j) (hi : l[i]? = some a) (hj : l[j]? = some b) : a.code < b.code := by
  obtain ⟨h1, rfl⟩ := List.getElem?_eq_some_iff.1 hi
  obtain ⟨h2, rfl⟩ := List.getElem?_eq_some_iff.1 hj
  exact List.pairwise_iff_getElem.1 h i j h1 h2 hij
theorem rise_leCh {l : List Acc} (h : l.Pairwise fun a b => a.code < b.code) {i j : Nat} {a b : Acc} (hij : i ≤ j) (hi : l[i]? = some a) (hj : l[j]? = some b) : a.code ≤ b.code := by
  rcases Nat.lt_or_ge i j with h1 | h1
  · have := rise_ltCh h h1 hi hj; omega
  · obtain rfl : i = j := by omega
    rw [hi] at hj
    injection hj with hj
    rw [hj]; exact Int.le_refl _
/-- In a list that rises what is found stands at its place. -/
theorem find_atCh : ∀ {l : List Acc}, l.Pairwise (fun a b => a.code < b.code) → ∀ x, findA l x = (l[posn l x]?).bind fun a => if a.code = x then some a else none
  | [], _, x => rfl
  | b :: l, h, x => by
    rw [posn_cons]
    rw [List.pairwise_cons] at h
    unfold findA
    rw [List.find?_cons]
    rcases Int.lt_trichotomy b.code x with hb | hb | hb
    · have h1 : (b.code == x) = false := by simp; omega
      rw [h1, if_pos hb]
      exact find_atCh h.2 x
    · have h1 : (b.code == x) = true := by simp; omega
      rw [h1, if_neg (by omega)]
      simp [hb]
    · have h1 : (b.code == x) = false := by simp; omega
      rw [h1, if_neg (by omega)]
      have : l.find? (fun a => a.code == x) = none := by
        rw [List.find?_eq_none]
        intro a ha
        have := h.1 a ha
        simp; omega
      rw [this]
      simp; omega
theorem find_some_atCh {l : List Acc} (h : l.Pairwise fun a b => a.code < b.code) {x : Int} {a : Acc} (hf : findA l x = some a) : l[posn l x]? = some a ∧ a.code = x := by
  rw [find_atCh h] at hf
  cases hq : l[posn l x]? with
  | none => simp [hq] at hf
  | some b =>
    rw [hq] at hf
    by_cases hb : b.code = x
    · simp [hb] at hf; subst hf; exact ⟨rfl, hb⟩
    · simp [hb] at hf
theorem find_none_atCh {l : List Acc} (h : l.Pairwise fun a b => a.code < b.code) {x : Int} (hf : findA l x = none) {a : Acc} (ha : l[posn l x]? = some a) : x < a.code := by
  have h1 := posn_at l x a ha
  rw [find_atCh h, ha] at hf
  by_cases hb : a.code = x
  · simp [hb] at hf
  · omega
theorem find_none_memCh {l : List Acc} {x : Int} (hf : findA l x = none) : ∀ a ∈ l, a.code ≠ x := by
  intro a ha
  have := List.find?_eq_none.1 hf a ha
  simpa using this
theorem rise_lenCh : ∀ (l : List Acc) (lo : Int), l.Pairwise (fun a b => a.code < b.code) → (∀ a ∈ l, lo ≤ a.code ∧ a.code ≤ 9999) → lo ≤ 10000 → (l.length : Int) ≤ 10000 - lo
  | [], lo, _, _, h => by simp; omega
  | b :: l, lo, h, hr, _ => by
    rw [List.pairwise_cons] at h
    have hb := hr b (by simp)
    have := rise_lenCh l (b.code + 1) h.2 (fun a ha => ⟨by have := h.1 a ha; omega, (hr a (by simp [ha])).2⟩) (by omega)
    simp; omega
theorem okRow_t {c k : Int} (h : okRow c k = true) : 1 ≤ c ∧ c ≤ 9999 ∧ 1 ≤ k ∧ k ≤ 5 := by simpa [okRow] using h
theorem GoodA.len {l : List Acc} (h : GoodA l) : l.length ≤ 9999 := by
  have := rise_lenCh l 1 h.1 (fun a ha => by have := okRow_t (h.2 a ha); omega) (by omega)
  omega
theorem GoodA.nil : GoodA [] := ⟨List.Pairwise.nil, by simp⟩
theorem insA_len (l : List Acc) (a : Acc) : (insA l a).length = l.length + 1 := by
  have := posn_le l a.code
  simp [insA]; omega
theorem GoodA.ins {l : List Acc} {a : Acc} (h : GoodA l) (ho : okRow a.code a.kind = true) (hf : findA l a.code = none) : GoodA (insA l a) := by
  refine ⟨?_, fun b hb => ?_⟩
  · unfold insA
    rw [List.pairwise_append]
    refine ⟨h.1.sublist (List.take_sublist _ _), ?_, ?_⟩
    · rw [List.pairwise_cons]
      refine ⟨fun b hb => ?_, h.1.sublist (List.drop_sublist _ _)⟩
      obtain ⟨j, hj⟩ := List.mem_iff_getElem?.1 hb
      rw [List.getElem?_drop] at hj
      have hl := (List.getElem?_eq_some_iff.1 hj).1
      have hp : posn l a.code < l.length := by omega
      have h1 := find_none_atCh h.1 hf (List.getElem?_eq_getElem hp)
      have h2 := rise_leCh h.1 (Nat.le_add_right _ j) (List.getElem?_eq_getElem hp) hj
      omega
    · intro b hb c hc
      obtain ⟨j, hj⟩ := List.mem_iff_getElem?.1 hb
      rw [List.getElem?_take] at hj
      split at hj
      · have h1 := posn_lt l a.code j b ‹_› hj
        rcases List.mem_cons.1 hc with rfl | hc
        · exact h1
        · obtain ⟨q, hq⟩ := List.mem_iff_getElem?.1 hc
          rw [List.getElem?_drop] at hq
          exact rise_ltCh h.1 (by omega) hj hq
      · cases hj
  · unfold insA at hb
    rcases List.mem_append.1 hb with hb | hb
    · exact h.2 b (List.mem_of_mem_take hb)
    · rcases List.mem_cons.1 hb with rfl | hb
      · exact ho
      · exact h.2 b (List.mem_of_mem_drop hb)
theorem addE_ok {l : List Acc} {a : Acc} (h : addE l a = 0) : okRow a.code a.kind = true ∧ findA l a.code = none := by
  unfold addE at h
  split at h
  · rename_i h1
    refine ⟨h1, ?_⟩
    cases hf : findA l a.code with
    | none => rfl
    | some b => simp [hf] at h
  · omega
theorem GoodA.add {l : List Acc} (h : GoodA l) (a : Acc) : GoodA (addL l a) := by
  unfold addL
  split
  · rename_i h0
    obtain ⟨h1, h2⟩ := addE_ok h0
    exact h.ins h1 h2
  · exact h
theorem GoodA.ret {l : List Acc} (h : GoodA l) (x : Int) : GoodA (retL l x) := by
  refine ⟨?_, fun b hb => ?_⟩
  · unfold retL
    rw [List.pairwise_map]
    exact h.1
  · obtain ⟨a, ha, rfl⟩ := List.mem_map.1 hb
    exact h.2 a ha
theorem retL_len (l : List Acc) (x : Int) : (retL l x).length = l.length := by simp [retL]
theorem retL_none {l : List Acc} {x : Int} (h : findA l x = none) : retL l x = l := by
  unfold retL
  conv => rhs; rw [← List.map_id l]
  apply List.map_congr_left
  intro a ha
  have := find_none_memCh h a ha
  have h2 : (a.code == x) = false := by simp [this]
  simp [h2]
theorem retL_set {l : List Acc} (h : l.Pairwise fun a b => a.code < b.code) {x : Int} {a : Acc} (hf : findA l x = some a) : retL l x = l.set (posn l x) { a with ret := true } := by
  obtain ⟨h1, h2⟩ := find_some_atCh h hf
  apply List.ext_getElem?
  intro i
  unfold retL
  rw [List.getElem?_map, List.getElem?_set]
  by_cases e : posn l x = i
  · subst e
    rw [if_pos rfl, h1]
    have hl := (List.getElem?_eq_some_iff.1 h1).1
    simp [hl, h2]
  · rw [if_neg e]
    cases hq : l[i]? with
    | none => rfl
    | some b =>
      have : b.code ≠ x := by
        rcases Nat.lt_or_gt_of_ne e with h3 | h3
        · have := rise_ltCh h h3 h1 hq; omega
        · have := rise_ltCh h h3 hq h1; omega
      have h5 : (b.code == x) = false := by simp [this]
      simp [h5]
theorem retL_old {l : List Acc} (h : l.Pairwise fun a b => a.code < b.code) {x : Int} {a : Acc} (hf : findA l x = some a) (hr : a.ret = true) : retL l x = l := by
  rw [retL_set h hf]
  obtain ⟨h1, _⟩ := find_some_atCh h hf
  apply List.ext_getElem?
  intro i
  rw [List.getElem?_set]
  by_cases e : posn l x = i
  · subst e
    have hl := (List.getElem?_eq_some_iff.1 h1).1
    rw [if_pos rfl, if_pos hl, h1, ← hr]
  · rw [if_neg e]
end Go.Proofs.YtafloaabjinkfaaGreat

/-
  Lists of trios, and the statements' helper over them: SameTrios.
-/
namespace Go.Proofs.YtafloaabjinkfaaGreat
open Go.RowKit

/-- An element. -/
structure Trio where
  x : Int
  y : Int
  z : Int
deriving DecidableEq
def Trio.cells (a : Trio) : List Value := [.int .i64 a.x, .int .i64 a.y, .int .i64 a.z]
def Trio.val (a : Trio) : Value := .agg #[.int .i64 a.x, .int .i64 a.y, .int .i64 a.z]
def trios (l : List Trio) : List Value := l.flatMap Trio.cells
theorem trios_len : ∀ l : List Trio, (trios l).length = l.length * 3
  | [] => rfl
  | a :: l => by have := trios_len l; unfold trios at this ⊢; simp [Trio.cells, this]; omega
theorem trios_append (l m : List Trio) : trios (l ++ m) = trios l ++ trios m := by simp [trios]
theorem trios_at : ∀ (l : List Trio) (k : Nat) (a : Trio), l[k]? = some a → (trios l)[k * 3]? = some (.int .i64 a.x) ∧ (trios l)[k * 3 + 1]? = some (.int .i64 a.y) ∧ (trios l)[k * 3 + 2]? = some (.int .i64 a.z)
  | [], k, a, h => by simp at h
  | b :: l, 0, a, h => by
    simp at h; subst h
    exact ⟨rfl, rfl, rfl⟩
  | b :: l, k + 1, a, h => by
    have := trios_at l k a (by simpa using h)
    unfold trios at this ⊢
    simp only [List.flatMap_cons, Trio.cells]
    rw [show (k + 1) * 3 = k * 3 + 3 by omega]
    simpa [List.getElem?_append_right] using this
theorem Rd.trios_len {w : World} {B n : Nat} {A : Option Addr} {l : List Trio} (h : Rd w B 3 A n (trios l)) : l.length = n := by
  have := h.1; rw [Go.Proofs.YtafloaabjinkfaaGreat.trios_len] at this; omega
theorem Rd.trio {w : World} {B n i : Nat} {A : Option Addr} {l : List Trio} (h : Rd w B 3 A n (trios l)) (hi : i < n) :
    ∃ ad a, A = some ad ∧ ad.block < B ∧ l[i]? = some a ∧ w.cell? (ad.add (i * 3)) = some (.int .i64 a.x) ∧ w.cell? (ad.add (i * 3 + 1)) = some (.int .i64 a.y) ∧ w.cell? (ad.add (i * 3 + 2)) = some (.int .i64 a.z) := by
  obtain ⟨ad, e, hb, hc⟩ := h.2 (by omega)
  have hl := h.trios_len
  have hg : l[i]? = some l[i] := List.getElem?_eq_getElem (by omega)
  obtain ⟨h1, h2, h3⟩ := trios_at l i _ hg
  exact ⟨ad, _, e, hb, hg, hc _ _ h1, hc _ _ h2, hc _ _ h3⟩

theorem infoTrio : (Tryz.prog.info? 75).map (fun i => (i.zero, i.size, i.bytes)) = some (some (.agg #[.int .i64 0, .int .i64 0, .int .i64 0]), 3, 24) := by kernel_rfl
theorem trio_step {l m : List Trio} {k : Nat} (hk : k < l.length ∧ k < m.length) (h1 : l.take k = m.take k) (h2 : l[k]? = m[k]?) : l.take (k + 1) = m.take (k + 1) := by
  rw [List.take_succ_eq_append_getElem hk.1, List.take_succ_eq_append_getElem hk.2, h1]
  rw [List.getElem?_eq_getElem hk.1, List.getElem?_eq_getElem hk.2] at h2
  injection h2 with h2
  rw [h2]

end Go.Proofs.YtafloaabjinkfaaGreat
