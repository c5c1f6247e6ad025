/-
  Several texts, one behind the other: what each holds stands ahead of it.
-/
import Derived.Test.YtafloaabjinkfaaGreatMany11
import Derived.Test.YtafloaabjinkfaaGreatMany4

/-
  Gates as lists of rows (entity, period, state): what is found, where one would stand, what is set. No code.
-/
namespace Go.Proofs.YtafloaabjinkfaaGreat
open Go.RowKit

/-- A row's place among the others. -/
def Trio.key (a : Trio) : Int := a.x * 2000 + a.y
def okT (e p : Int) : Bool := decide (1 ≤ e ∧ e ≤ 9 ∧ 0 ≤ p ∧ p ≤ 1199)
def posT (l : List Trio) (x : Int) : Nat := (l.takeWhile fun a => decide (a.key < x)).length
def findT (l : List Trio) (x : Int) : Option Trio := l.find? fun a => a.key == x
/-- Rows rise, and are of what may be. -/
def GoodT (l : List Trio) : Prop := l.Pairwise (fun a b => a.key < b.key) ∧ ∀ a ∈ l, okT a.x a.y = true
def zOf : Option Trio → Int
  | none => 0
  | some a => a.z
def stT (l : List Trio) (e p : Int) : Int := if okT e p = true then zOf (findT l (e * 2000 + p)) else 2
def mayT (l : List Trio) (e p : Int) : Int := if okT e p = true then (if stT l e p = 0 then 0 else 6) else 1
def setE (l : List Trio) (e p s : Int) : Int := if okT e p = true ∧ 0 ≤ s ∧ s ≤ 2 then (if stT l e p = 2 ∨ (s = 2 ∧ stT l e p ≠ 1) then 11 else 0) else 1
def restT (l : List Trio) (x : Int) : List Trio := l.drop (posT l x + if (findT l x).isSome = true then 1 else 0)
def newT (l : List Trio) (e p s : Int) : List Trio := l.take (posT l (e * 2000 + p)) ++ ((if s = 0 then [] else [⟨e, p, s⟩]) ++ restT l (e * 2000 + p))
def setT (l : List Trio) (e p s : Int) : List Trio := if setE l e p s = 0 then newT l e p s else l

theorem posT_le (l : List Trio) (x : Int) : posT l x ≤ l.length := by unfold posT; exact (List.takeWhile_prefix _).length_le
theorem posT_cons (a : Trio) (l : List Trio) (x : Int) : posT (a :: l) x = if a.key < x then posT l x + 1 else 0 := by
  unfold posT
  by_cases h : a.key < x <;> simp [List.takeWhile_cons, h]
theorem posT_lt : ∀ (l : List Trio) (x : Int) (k : Nat) (a : Trio), k < posT l x → l[k]? = some a → a.key < x
  | [], x, k, a, _, h2 => by simp at h2
  | b :: l, x, k, a, h1, h2 => by
    rw [posT_cons] at h1
    split at h1
    · cases k with
      | zero => simp at h2; subst h2; assumption
      | succ k => exact posT_lt l x k a (by omega) (by simpa using h2)
    · omega
theorem posT_at : ∀ (l : List Trio) (x : Int) (a : Trio), l[posT l x]? = some a → x ≤ a.key
  | [], x, a, h => by simp at h
  | b :: l, x, a, h => by
    rw [posT_cons] at h
    split at h
    · exact posT_at l x a (by simpa using h)
    · simp at h; subst h; omega
theorem posT_eq {l : List Trio} {x : Int} {i : Nat} (hi : i ≤ l.length) (h1 : ∀ k a, k < i → l[k]? = some a → a.key < x) (h2 : ∀ a, l[i]? = some a → x ≤ a.key) : posT l x = i := by
  rcases Nat.lt_trichotomy (posT l x) i with h | h | h
  · have hl : posT l x < l.length := by omega
    have := posT_at l x _ (List.getElem?_eq_getElem hl)
    have := h1 _ _ h (List.getElem?_eq_getElem hl)
    omega
  · exact h
  · have := posT_le l x
    have hl : i < l.length := by omega
    have := posT_lt l x i _ h (List.getElem?_eq_getElem hl)
    have := h2 _ (List.getElem?_eq_getElem hl)
    omega
theorem rise_ltGt {l : List Trio} (h : l.Pairwise fun a b => a.key < b.key) {i j : Nat} {a b : Trio} (hij : i < j) (hi : l[i]? = some a) (hj : l[j]? = some b) : a.key < b.key := by
  obtain ⟨h1, rfl⟩ := List.getElem?_eq_some_iff.1 hi
  obtain ⟨h2, rfl⟩ := List.getElem?_eq_some_iff.1 hj
  exact List.pairwise_iff_getElem.1 h i j h1 h2 hij
theorem rise_leGt {l : List Trio} (h : l.Pairwise fun a b => a.key < b.key) {i j : Nat} {a b : Trio} (hij : i ≤ j) (hi : l[i]? = some a) (hj : l[j]? = some b) : a.key ≤ b.key := by
  rcases Nat.lt_or_ge i j with h1 | h1
  · have := rise_ltGt h h1 hi hj; omega
  · obtain rfl : i = j := by omega
    rw [hi] at hj
    injection hj with hj
    rw [hj]; exact Int.le_refl _
/-- In a list that rises what is found stands at its place. -/
theorem find_atGt : ∀ {l : List Trio}, l.Pairwise (fun a b => a.key < b.key) → ∀ x, findT l x = (l[posT l x]?).bind fun a => if a.key = x then some a else none
  | [], _, x => rfl
  | b :: l, h, x => by
    rw [posT_cons]
    rw [List.pairwise_cons] at h
    unfold findT
    rw [List.find?_cons]
    rcases Int.lt_trichotomy b.key x with hb | hb | hb
    · have h1 : (b.key == x) = false := by simp; omega
      rw [h1, if_pos hb]
      exact find_atGt h.2 x
    · have h1 : (b.key == x) = true := by simp; omega
      rw [h1, if_neg (by omega)]
      simp [hb]
    · have h1 : (b.key == x) = false := by simp; omega
      rw [h1, if_neg (by omega)]
      have : l.find? (fun a => a.key == x) = none := by
        rw [List.find?_eq_none]
        intro a ha
        have := h.1 a ha
        simp; omega
      rw [this]
      simp; omega
theorem find_some_atGt {l : List Trio} (h : l.Pairwise fun a b => a.key < b.key) {x : Int} {a : Trio} (hf : findT l x = some a) : l[posT l x]? = some a ∧ a.key = x := by
  rw [find_atGt h] at hf
  cases hq : l[posT l x]? with
  | none => simp [hq] at hf
  | some b =>
    rw [hq] at hf
    by_cases hb : b.key = x
    · simp [hb] at hf; subst hf; exact ⟨rfl, hb⟩
    · simp [hb] at hf
theorem find_none_atGt {l : List Trio} (h : l.Pairwise fun a b => a.key < b.key) {x : Int} (hf : findT l x = none) {a : Trio} (ha : l[posT l x]? = some a) : x < a.key := by
  have h1 := posT_at l x a ha
  rw [find_atGt h, ha] at hf
  by_cases hb : a.key = x
  · simp [hb] at hf
  · omega
theorem find_none_memGt {l : List Trio} {x : Int} (hf : findT l x = none) : ∀ a ∈ l, a.key ≠ x := by
  intro a ha
  have := List.find?_eq_none.1 hf a ha
  simpa using this
theorem rise_lenGt : ∀ (l : List Trio) (lo : Int), l.Pairwise (fun a b => a.key < b.key) → (∀ a ∈ l, lo ≤ a.key ∧ a.key ≤ 19999) → lo ≤ 20000 → (l.length : Int) ≤ 20000 - lo
  | [], lo, _, _, h => by simp; omega
  | b :: l, lo, h, hr, _ => by
    rw [List.pairwise_cons] at h
    have hb := hr b (by simp)
    have := rise_lenGt l (b.key + 1) h.2 (fun a ha => ⟨by have := h.1 a ha; omega, (hr a (by simp [ha])).2⟩) (by omega)
    simp; omega
theorem okT_t {e p : Int} (h : okT e p = true) : 1 ≤ e ∧ e ≤ 9 ∧ 0 ≤ p ∧ p ≤ 1199 := by simpa [okT] using h
theorem GoodT.len {l : List Trio} (h : GoodT l) : l.length ≤ 20000 := by
  have := rise_lenGt l 0 h.1 (fun a ha => by have := okT_t (h.2 a ha); unfold Trio.key; omega) (by omega)
  omega
theorem GoodT.nil : GoodT [] := ⟨List.Pairwise.nil, by simp⟩
/-- Behind what is set: rows in their order. -/
theorem rest_gt {l : List Trio} (h : l.Pairwise fun a b => a.key < b.key) (x : Int) : ∀ b ∈ restT l x, x < b.key := by
  intro b hb
  unfold restT at hb
  obtain ⟨j, hj⟩ := List.mem_iff_getElem?.1 hb
  rw [List.getElem?_drop] at hj
  have hl := (List.getElem?_eq_some_iff.1 hj).1
  have hp : posT l x < l.length := by omega
  have hg := List.getElem?_eq_getElem hp
  cases hf : findT l x with
  | none =>
    have h1 := find_none_atGt h hf hg
    have h2 := rise_leGt h (by omega) hg hj
    omega
  | some a =>
    obtain ⟨h1, h2⟩ := find_some_atGt h hf
    rw [hf] at hj
    have := rise_ltGt h (by simp; omega) h1 hj
    omega
theorem GoodT.new {l : List Trio} (h : GoodT l) {e p : Int} (s : Int) (ho : okT e p = true) : GoodT (newT l e p s) := by
  have hr := rest_gt h.1 (e * 2000 + p)
  have hlo : ∀ b ∈ l.take (posT l (e * 2000 + p)), b.key < e * 2000 + p := by
    intro b hb
    obtain ⟨j, hj⟩ := List.mem_iff_getElem?.1 hb
    rw [List.getElem?_take] at hj
    split at hj
    · exact posT_lt l _ j b ‹_› hj
    · cases hj
  have hs : (restT l (e * 2000 + p)).Pairwise fun a b => a.key < b.key := h.1.sublist (List.drop_sublist _ _)
  refine ⟨?_, fun b hb => ?_⟩
  · unfold newT
    rw [List.pairwise_append]
    refine ⟨h.1.sublist (List.take_sublist _ _), ?_, ?_⟩
    · split
      · exact hs
      · rw [List.singleton_append, List.pairwise_cons]
        exact ⟨fun b hb => hr b hb, hs⟩
    · intro b hb c hc
      have h1 := hlo b hb
      rcases List.mem_append.1 hc with hc | hc
      · split at hc
        · simp at hc
        · simp at hc; subst hc; exact h1
      · have := hr c hc; omega
  · unfold newT at hb
    rcases List.mem_append.1 hb with hb | hb
    · exact h.2 b (List.mem_of_mem_take hb)
    · rcases List.mem_append.1 hb with hb | hb
      · split at hb
        · simp at hb
        · simp at hb; subst hb; exact ho
      · exact h.2 b (List.mem_of_mem_drop hb)
theorem setE_ok {l : List Trio} {e p s : Int} (h : setE l e p s = 0) : okT e p = true := by
  unfold setE at h
  split at h
  · exact (‹_ ∧ _›).1
  · omega
theorem GoodT.set {l : List Trio} (h : GoodT l) (e p s : Int) : GoodT (setT l e p s) := by
  unfold setT
  split
  · exact h.new s (setE_ok ‹_›)
  · exact h
theorem set_take_drop {l : List Trio} {i : Nat} {a : Trio} (hi : i < l.length) : l.set i a = l.take i ++ a :: l.drop (i + 1) := by
  rw [List.set_eq_take_append_cons_drop, if_pos hi]
theorem newT_found {l : List Trio} (h : l.Pairwise fun a b => a.key < b.key) {e p s : Int} (hs : s ≠ 0) (hf : (findT l (e * 2000 + p)).isSome = true) : newT l e p s = l.set (posT l (e * 2000 + p)) ⟨e, p, s⟩ := by
  obtain ⟨a, ha⟩ := Option.isSome_iff_exists.1 hf
  obtain ⟨h1, _⟩ := find_some_atGt h ha
  rw [set_take_drop (List.getElem?_eq_some_iff.1 h1).1]
  simp [newT, restT, hs, ha]
theorem newT_fresh {l : List Trio} {e p s : Int} (hs : s ≠ 0) (hf : (findT l (e * 2000 + p)).isSome = false) : newT l e p s = l.take (posT l (e * 2000 + p)) ++ ⟨e, p, s⟩ :: l.drop (posT l (e * 2000 + p)) := by
  simp [newT, restT, hs, hf]
theorem newT_open {l : List Trio} {e p : Int} : newT l e p 0 = l.take (posT l (e * 2000 + p)) ++ restT l (e * 2000 + p) := by simp [newT]
theorem newT_none {l : List Trio} {e p : Int} (hf : (findT l (e * 2000 + p)).isSome = false) : newT l e p 0 = l := by
  simp [newT, restT, hf]
theorem newT_gone {l : List Trio} {e p : Int} (hf : (findT l (e * 2000 + p)).isSome = true) : newT l e p 0 = l.take (posT l (e * 2000 + p)) ++ l.drop (posT l (e * 2000 + p) + 1) := by
  simp [newT, restT, hf]
/-- What the two parts of a row tell of its place. -/
def cmp2 (a : Trio) (e p : Int) : Int := if a.x < e then -1 else if e < a.x then 1 else if a.y < p then -1 else if p < a.y then 1 else 0
theorem cmp2_lt {a : Trio} {e p : Int} (h1 : okT a.x a.y = true) (h2 : okT e p = true) : decide (cmp2 a e p < 0) = decide (a.key < e * 2000 + p) := by
  have := okT_t h1
  have := okT_t h2
  rw [Bool.eq_iff_iff]
  simp only [decide_eq_true_eq]
  unfold cmp2 Trio.key
  split
  · constructor <;> intro <;> omega
  · split
    · constructor <;> intro <;> omega
    · split
      · constructor <;> intro <;> omega
      · split <;> constructor <;> intro <;> omega
theorem cmp2_eq {a : Trio} {e p : Int} (h1 : okT a.x a.y = true) (h2 : okT e p = true) : (cmp2 a e p == 0) = (a.key == e * 2000 + p) := by
  have := okT_t h1
  have := okT_t h2
  rw [Bool.eq_iff_iff]
  simp only [beq_iff_eq]
  unfold cmp2 Trio.key
  split
  · constructor <;> intro <;> omega
  · split
    · constructor <;> intro <;> omega
    · split
      · constructor <;> intro <;> omega
      · split <;> constructor <;> intro <;> omega
end Go.Proofs.YtafloaabjinkfaaGreat

/-
  What the rules answer. No code.
-/
namespace Go.Proofs.YtafloaabjinkfaaGreat
open Go.RowKit

def postsE (C : List Acc) (G : List Trio) (M : List Jrn) (j : Jrn) : List Int := [0, checkE j, liveECh C (accts j.lines), mayT G j.ent j.per, if j.void = true then 1 else 0, postE M j, moneyE (postL M j)]
def amendsE (C : List Acc) (G : List Trio) (M : List Jrn) (j : Jrn) : List Int := [0, checkE j, liveECh C (accts j.lines), liveE M j.id, mayT G (oldJ M j.id).ent (oldJ M j.id).per, mayT G j.ent j.per, if j.void = true then 1 else 0, if j.ent = (oldJ M j.id).ent then 0 else 1, amendE M j, moneyE (amendL M j)]
def voidsE (G : List Trio) (M : List Jrn) (id : Int) : List Int := [0, liveE M id, mayT G (oldJ M id).ent (oldJ M id).per, liveE M id, moneyE (voidL M id)]
def rPostE (C : List Acc) (G : List Trio) (M : List Jrn) (j : Jrn) : Int := firstE (postsE C G M j)
def rAmendE (C : List Acc) (G : List Trio) (M : List Jrn) (j : Jrn) : Int := firstE (amendsE C G M j)
def rVoidE (G : List Trio) (M : List Jrn) (id : Int) : Int := firstE (voidsE G M id)
end Go.Proofs.YtafloaabjinkfaaGreat

/-
  Contracts of cmp.Compare, slices.BinarySearchFunc over accounts by code, (*Chart).place.
-/
namespace Go.Proofs.YtafloaabjinkfaaGreat
open Go.RowKit

def cmpICh (a b : Int) : Int := if a < b then -1 else if b < a then 1 else 0

set_option maxRecDepth 100000 in
theorem isNaN_anyCh (a : Int) (w : World) : Calls Tryz.prog 118 #[.int .i64 a] w fun e w' => e = .returned (.bool false) ∧ w = w' := by
  have h : (a != a) = false := by simp
  go_enter Tryz.func118, Tryz.ntmps118
  go_wp2
  go_ret
  exact ⟨rfl, rfl⟩

set_option maxRecDepth 100000 in
theorem compare_anyCh (a b : Int) (w : World) : Calls Tryz.prog 101 #[.int .i64 a, .int .i64 b] w fun e w' => e = .returned (.int .i64 (cmpICh a b)) ∧ w = w' := by
  have hx : (a < b ∧ cmpICh a b = -1) ∨ (¬ a < b ∧ b < a ∧ cmpICh a b = 1) ∨ (¬ a < b ∧ ¬ b < a ∧ cmpICh a b = 0) := by
    unfold cmpICh
    by_cases h1 : a < b
    · exact .inl ⟨h1, by simp [h1]⟩
    · by_cases h2 : b < a
      · exact .inr (.inl ⟨h1, h2, by simp [h1, h2]⟩)
      · exact .inr (.inr ⟨h1, h2, by simp [h1, h2]⟩)
  rcases hx with ⟨h1, h3⟩ | ⟨h1, h2, h3⟩ | ⟨h1, h2, h3⟩
  all_goals
    rw [h3]
    clear h3
    go_enter Tryz.func101, Tryz.ntmps101
    go_wp2_with (go_at_call 118; refine (isNaN_anyCh _ _).mono ?_; rintro e w' ⟨rfl, rfl⟩)
    go_ret
    exact ⟨rfl, rfl⟩

set_option maxRecDepth 100000 in
theorem placeCmp_anyCh (a : Acc) (x : Int) (w : World) : Calls Tryz.prog 112 #[.agg #[.int .i64 a.code, .int .i64 a.kind, .bool a.ret], .int .i64 x] w fun e w' => e = .returned (.int .i64 (cmpICh a.code x)) ∧ Below w.heap.size w w' := by
  obtain ⟨c, k, r⟩ := a
  go_enter Tryz.func112, Tryz.ntmps112
  go_wp2_with (go_at_call 101; refine (compare_anyCh _ _ _).mono ?_; rintro e w' ⟨rfl, rfl⟩)
  go_ret
  exact ⟨rfl, (Below.refl _ _).alloc (Nat.le_refl _) _⟩

theorem cmpI_ltCh {a b : Int} : decide (cmpICh a b < 0) = decide (a < b) := by
  rw [Bool.eq_iff_iff]
  simp only [decide_eq_true_eq]
  unfold cmpICh
  split
  · constructor <;> intro <;> omega
  · split <;> constructor <;> intro <;> omega
theorem cmpI_eqCh {a b : Int} : (cmpICh a b == 0) = (a == b) := by
  rw [Bool.eq_iff_iff]
  simp only [beq_iff_eq]
  unfold cmpICh
  split
  · constructor <;> intro <;> omega
  · split <;> constructor <;> intro <;> omega

/-- At the head of the search: what lies before i is less, what lies from j on is not. -/
def SeekRelCh (w : World) (l : List Acc) (x : Int) (i j : Nat) (wr : World) : Prop :=
  i ≤ j ∧ j ≤ l.length ∧ (∀ (k : Nat) (a : Acc), k < i → l[k]? = some a → a.code < x) ∧ (∀ (k : Nat) (a : Acc), j ≤ k → l[k]? = some a → x ≤ a.code) ∧ Below w.heap.size w wr

set_option maxRecDepth 100000 in
set_option maxHeartbeats 1000000 in
theorem search_anyCh (l : List Acc) (x : Int) (A : Option Addr) (n c B : Nat) (w : World) (h : Rd w B 3 A n (accs l)) (hB : B ≤ w.heap.size) (hn : n ≤ 1000000) (hs : l.Pairwise fun a b => a.code < b.code) :
    Calls Tryz.prog 111 #[.slice A n c, .int .i64 x, .func (.func 112) #[] #[]] w fun e w' => e = .returned (.tuple #[.int .i64 (posn l x : Nat), .bool (findA l x).isSome]) ∧ Below w.heap.size w w' := by
  have HL := Lib.hid h.accs_len
  have HR := Lib.hid h
  have HS := Lib.hid hs
  clear h hs
  go_enter Tryz.func111, Tryz.ntmps111
  go_wp2_with fail
  go_loopw [9, 10] (fun iv jv wr => ∃ i j : Nat, iv = .int .i64 i ∧ jv = .int .i64 j ∧ SeekRelCh w l x i j wr) (fun iv jv _ => (intOf jv).toNat - (intOf iv).toNat)
  case atStart => exact ⟨0, n, rfl, rfl, Nat.zero_le _, by rw [HL.out]; exact Nat.le_refl _, (fun k a hk => by omega), (fun k a hk ha => by have := (List.getElem?_eq_some_iff.1 ha).1; have := HL.out; omega), Below.refl _ _⟩
  case round =>
    obtain ⟨i, j, rfl, rfl, hrel⟩ := hrel
    obtain ⟨hij, hjl, hlo, hhi, hbel⟩ := hrel
    have hjn : j ≤ n := by have := HL.out; omega
    have hzr := hbel.size
    have HRr := Lib.hid (HR.out.below (hbel.mono hB))
    have HLO := Lib.hid hlo; have HHI := Lib.hid hhi; have HB := Lib.hid hbel
    clear hlo hhi hbel hjl
    by_cases hlt : i < j
    · obtain ⟨m, hmd⟩ : ∃ m, m = (i + j) / 2 := ⟨_, rfl⟩
      have him : i ≤ m := by omega
      have hmj : m < j := by omega
      have hm : ((i : Int) + (j : Int)) / 2 = (m : Int) := by omega
      clear hmd
      obtain ⟨ad, a, rfl, hb1, hx, p1, p2, p3⟩ := HRr.out.acc (i := m) (by omega)
      have p2' := cell_behind p2 (by omega)
      have p3' := cell_behind p3 (by omega)
      have hmn : (m : Int) < (n : Int) := by omega
      have kc := placeCmp_anyCh a x wr
      have hlt2 := cmpI_ltCh (a := a.code) (b := x)
      have HX := Lib.hid hx
      clear p2 p3 hx
      generalize cmpICh a.code x = cv at *
      go_wp2_with fail
      refine kc.mono ?_
      rintro e w' ⟨rfl, hb2⟩
      have HB2 : Hid (Below w.heap.size w w') := HB.out.trans (hb2.mono hzr)
      clear hb2 kc p1 p2' p3'
      by_cases hc : a.code < x
      · have hd : cv < 0 := by simpa [hc] using hlt2
        clear hlt2
        go_wp2
        refine ⟨⟨m + 1, j, by go_num, rfl, by omega, by have := HL.out; omega, ?_, HHI.out, HB2.out⟩, by simp [intOf]; omega⟩
        intro k b hk hkb
        rcases Nat.lt_or_ge k m with h1 | h1
        · have := rise_ltCh HS.out h1 hkb HX.out; omega
        · obtain rfl : k = m := by omega
          rw [HX.out] at hkb
          injection hkb with hkb
          rw [← hkb]; exact hc
      · have hd : ¬ cv < 0 := by simpa [hc] using hlt2
        clear hlt2
        go_wp2
        refine ⟨⟨i, m, rfl, rfl, by omega, by have := HL.out; omega, HLO.out, ?_, HB2.out⟩, by simp [intOf]; omega⟩
        intro k b hk hkb
        have := rise_leCh HS.out hk HX.out hkb
        omega
    · obtain rfl : i = j := by omega
      have hpos : posn l x = i := posn_eq (by have := HL.out; omega) HLO.out fun a ha => HHI.out i a (Nat.le_refl _) ha
      have hfind := find_atCh HS.out x
      rw [hpos] at hfind
      have HF := Lib.hid hfind
      have HP := Lib.hid hpos
      clear hpos hfind
      by_cases hin : i < n
      · obtain ⟨ad, a, rfl, hb1, hx, p1, p2, p3⟩ := HRr.out.acc hin
        have p2' := cell_behind p2 (by omega)
        have p3' := cell_behind p3 (by omega)
        have hinI : (i : Int) < (n : Int) := by omega
        have kc := placeCmp_anyCh a x wr
        have hfs : (findA l x).isSome = (cmpICh a.code x == 0) := by
          rw [HF.out, hx, cmpI_eqCh]
          by_cases e : a.code = x <;> simp [e]
        have HFS := Lib.hid hfs
        clear p2 p3 hx hfs
        generalize cmpICh a.code x = cv at *
        go_wp2_with fail
        refine kc.mono ?_
        rintro e w' ⟨rfl, hb2⟩
        have HB2 : Hid (Below w.heap.size w w') := HB.out.trans (hb2.mono hzr)
        clear hb2 kc p1 p2' p3'
        go_wp2
        go_ret2
        exact ⟨by rw [HP.out, HFS.out]; rfl, HB2.out⟩
      · have hfs : (findA l x).isSome = false := by
          rw [HF.out, List.getElem?_eq_none (by have := HL.out; omega)]; rfl
        have HFS := Lib.hid hfs
        clear hfs
        go_wp2
        go_ret2
        exact ⟨by rw [HP.out, HFS.out]; rfl, HB.out⟩
end Go.Proofs.YtafloaabjinkfaaGreat

/-
  A chart in memory; (*Chart).place.
-/
namespace Go.Proofs.YtafloaabjinkfaaGreat
open Go.RowKit

/-- A chart: its variable, and its accounts in a row of its own. -/
structure ChartAt (w : World) (B c : Nat) (v : Value) (l : List Acc) : Prop where
  blk : w.heap[c]? = some (.cells #[v] 120 (0, 0))
  low : B ≤ c
  own : w.ownsRow B 74 3 v l.length (accs l)
  good : GoodA l
/-- The blocks of a chart. -/
def InChart (c : Nat) (v : Value) (k : Nat) : Prop := k = c ∨ v.ownBlock = some k
section
variable {w w' : World} {B c : Nat} {v : Value} {l : List Acc}
theorem ChartAt.cell (h : ChartAt w B c v l) : w.cell? ⟨c, 0, none⟩ = some v := by rw [cell_of h.blk]; rfl
theorem ChartAt.warm (h : ChartAt w B c v l) : w.frozen? ⟨c, 0, none⟩ = false := warm_of h.blk 0
theorem ChartAt.lt (h : ChartAt w B c v l) : c < w.heap.size := lt_of_blk h.blk
theorem ChartAt.kept (h : ChartAt w B c v l) (hk : ∀ k, k < w.heap.size → InChart c v k → w'.heap[k]? = w.heap[k]?) : ChartAt w' B c v l :=
  ⟨(hk c h.lt (.inl rfl)).trans h.blk, h.low, own_kept h.own fun k hk1 hk2 => hk k hk1 (.inr hk2), h.good⟩
theorem ChartAt.below (h : ChartAt w B c v l) (hb : Below w.heap.size w w') : ChartAt w' B c v l := h.kept fun k hk _ => hb.block k hk
theorem ChartAt.but {S : Nat → Prop} (h : ChartAt w B c v l) (hb : But S w w') (hs : ∀ k, InChart c v k → ¬ S k) : ChartAt w' B c v l := h.kept fun k hk hi => hb.block k hk (hs k hi)
theorem ChartAt.form (h : ChartAt w B c v l) : ∃ A cap, v = .slice A l.length cap := own_form h.own
theorem ChartAt.ge (h : ChartAt w B c v l) : ∀ k, InChart c v k → B ≤ k := by
  rintro k (rfl | hk)
  · exact h.low
  · exact own_ge h.own k hk
theorem ChartAt.ltB (h : ChartAt w B c v l) : ∀ k, InChart c v k → k < w.heap.size := by
  rintro k (rfl | hk)
  · exact h.lt
  · exact own_lt h.own k hk
theorem ChartAt.apart (h : ChartAt w B c v l) : v.ownBlock ≠ some c := own_ne h.own h.blk (by decide)
end

set_option maxRecDepth 100000 in
theorem place_anyCh (B c : Nat) (v : Value) (l : List Acc) (x : Int) (w : World) (h : ChartAt w B c v l) :
    Calls Tryz.prog 85 #[.pointer (some ⟨c, 0, none⟩), .int .i64 x] w fun e w' => e = .returned (.tuple #[.int .i64 (posn l x : Nat), .bool (findA l x).isSome]) ∧ Below w.heap.size w w' := by
  have hc := h.cell
  obtain ⟨A, cap, rfl⟩ := h.form
  have ks := search_anyCh l x A l.length cap _ w (rd_of_own h.own) (Nat.le_refl _) (by have := h.good.len; omega) h.good.1
  have HG := Lib.hid h
  clear h
  generalize (posn l x) = P at *
  generalize (findA l x).isSome = S at *
  go_enter Tryz.func85, Tryz.ntmps85
  go_wp2_with fail
  refine ks.mono ?_
  rintro e w' ⟨rfl, hb⟩
  go_wp2
  go_ret2
  exact ⟨rfl, hb⟩
end Go.Proofs.YtafloaabjinkfaaGreat
