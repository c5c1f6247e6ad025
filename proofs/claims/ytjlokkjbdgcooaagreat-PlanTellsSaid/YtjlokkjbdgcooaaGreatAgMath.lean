/-
  Items: their order, heaps of them as lists that rise. No code.
-/
import Derived.Test.YtjlokkjbdgcooaaGreatOwn
import Derived.Test.YtjlokkjbdgcooaaGreatMany1
namespace Go.Proofs.YtjlokkjbdgcooaaGreat
open Go.RowKit

/-- What is due. -/
structure Itm where
  per : Int
  rk : Int
  id : Int
deriving DecidableEq
instance : Inhabited Itm := ⟨⟨0, 0, 0⟩⟩
def Itm.cells (a : Itm) : List Value := [.int .i64 a.per, .int .i64 a.rk, .int .i64 a.id]
def Itm.val (a : Itm) : Value := .agg #[.int .i64 a.per, .int .i64 a.rk, .int .i64 a.id]
def itms (l : List Itm) : List Value := l.flatMap Itm.cells
theorem itms_len : ∀ l : List Itm, (itms l).length = l.length * 3
  | [] => rfl
  | a :: l => by have := itms_len l; unfold itms at this ⊢; simp [Itm.cells, this]; omega
theorem itms_append (l m : List Itm) : itms (l ++ m) = itms l ++ itms m := by simp [itms]
theorem itms_at : ∀ (l : List Itm) (k : Nat) (a : Itm), l[k]? = some a → (itms l)[k * 3]? = some (.int .i64 a.per) ∧ (itms l)[k * 3 + 1]? = some (.int .i64 a.rk) ∧ (itms l)[k * 3 + 2]? = some (.int .i64 a.id)
  | [], k, a, h => by simp at h
  | b :: l, 0, a, h => by
    simp at h; subst h
    exact ⟨rfl, rfl, rfl⟩
  | b :: l, k + 1, a, h => by
    have := itms_at l k a (by simpa using h)
    unfold itms at this ⊢
    simp only [List.flatMap_cons, Itm.cells]
    rw [show (k + 1) * 3 = k * 3 + 3 by omega]
    simpa [List.getElem?_append_right] using this
theorem Rd.itms_len {w : World} {B n : Nat} {A : Option Addr} {l : List Itm} (h : Rd w B 3 A n (itms l)) : l.length = n := by
  have := h.1; rw [Go.Proofs.YtjlokkjbdgcooaaGreat.itms_len] at this; omega
theorem Rd.itm {w : World} {B n i : Nat} {A : Option Addr} {l : List Itm} (h : Rd w B 3 A n (itms l)) (hi : i < n) :
    ∃ ad a, A = some ad ∧ ad.block < B ∧ l[i]? = some a ∧ w.cell? (ad.add (i * 3)) = some (.int .i64 a.per) ∧ w.cell? (ad.add (i * 3 + 1)) = some (.int .i64 a.rk) ∧ w.cell? (ad.add (i * 3 + 2)) = some (.int .i64 a.id) := by
  obtain ⟨ad, e, hb, hc⟩ := h.2 (by omega)
  have hl := h.itms_len
  have hg : l[i]? = some l[i] := List.getElem?_eq_getElem (by omega)
  obtain ⟨h1, h2, h3⟩ := itms_at l i _ hg
  exact ⟨ad, _, e, hb, hg, hc _ _ h1, hc _ _ h2, hc _ _ h3⟩

/-- Does a stand ahead of b? -/
def itmLt (a b : Itm) : Bool := decide (a.per < b.per ∨ a.per = b.per ∧ (b.rk < a.rk ∨ a.rk = b.rk ∧ a.id < b.id))
theorem itmOrd : Hp.Ord itmLt where
  irr a := by simp [itmLt]
  asym a b := by simp [itmLt]; omega
  neg a b c := by simp [itmLt]; omega
theorem itm_anti {a b : Itm} (h1 : itmLt a b = false) (h2 : itmLt b a = false) : a = b := by
  obtain ⟨a1, a2, a3⟩ := a
  obtain ⟨b1, b2, b3⟩ := b
  simp [itmLt] at h1 h2
  rw [Itm.mk.injEq]; omega

/-- The list rises. -/
def Rises (l : List Itm) : Prop := l.Pairwise fun a b => itmLt b a = false
theorem Rises.same {l m : List Itm} (hl : Rises l) (hm : Rises m) (h : l.Perm m) : l = m :=
  List.Perm.eq_of_pairwise (fun _ _ _ _ h1 h2 => itm_anti h2 h1) hl hm h
/-- Into a list that rises. -/
def insI : List Itm → Itm → List Itm
  | [], x => [x]
  | a :: l, x => if itmLt x a then x :: a :: l else a :: insI l x
theorem insI_perm : ∀ (l : List Itm) (x : Itm), (insI l x).Perm (x :: l)
  | [], x => .refl _
  | a :: l, x => by
    unfold insI
    split
    · exact .refl _
    · exact ((insI_perm l x).cons a).trans (List.Perm.swap x a l)
theorem insI_len (l : List Itm) (x : Itm) : (insI l x).length = l.length + 1 := by rw [(insI_perm l x).length_eq]; rfl
theorem insI_rises : ∀ (l : List Itm) (x : Itm), Rises l → Rises (insI l x)
  | [], x, _ => by simp [insI, Rises]
  | a :: l, x, h => by
    unfold Rises at h
    rw [List.pairwise_cons] at h
    unfold insI
    split
    · rename_i hlt
      unfold Rises
      rw [List.pairwise_cons, List.pairwise_cons]
      refine ⟨fun b hb => ?_, h.1, h.2⟩
      have ha := itmOrd.asym _ _ hlt
      rcases List.mem_cons.1 hb with rfl | hb
      · exact ha
      · exact itmOrd.neg _ _ _ (h.1 b hb) ha
    · rename_i hlt
      unfold Rises
      rw [List.pairwise_cons]
      refine ⟨fun b hb => ?_, insI_rises l x h.2⟩
      rcases List.mem_cons.1 ((insI_perm l x).mem_iff.1 hb) with rfl | hb
      · simpa using hlt
      · exact h.1 b hb
/-- One that is put. -/
def putI (l : List Itm) (x : Itm) : List Itm := if 1000 ≤ l.length then l else insI l x
theorem putI_rises {l : List Itm} (x : Itm) (h : Rises l) : Rises (putI l x) := by
  unfold putI; split
  · exact h
  · exact insI_rises l x h
theorem putI_len (l : List Itm) (x : Itm) (h : l.length ≤ 1000) : (putI l x).length ≤ 1000 := by
  unfold putI; split
  · exact h
  · rw [insI_len]; omega
def putsI (l m : List Itm) : List Itm := m.foldl putI l
theorem putsI_rises : ∀ (m l : List Itm), Rises l → Rises (putsI l m)
  | [], _, h => h
  | x :: m, l, h => putsI_rises m (putI l x) (putI_rises x h)
theorem putsI_len : ∀ (m l : List Itm), l.length ≤ 1000 → (putsI l m).length = min 1000 (l.length + m.length)
  | [], l, h => by simp [putsI]; omega
  | x :: m, l, h => by
    show (putsI (putI l x) m).length = _
    rw [putsI_len m _ (putI_len l x h)]
    unfold putI
    split
    · simp; omega
    · rw [insI_len]; simp; omega
theorem putsI_perm : ∀ (m l : List Itm), l.length + m.length ≤ 1000 → (putsI l m).Perm (l ++ m)
  | [], l, _ => by simp [putsI]
  | x :: m, l, h => by
    simp at h
    show (putsI (putI l x) m).Perm _
    have e : putI l x = insI l x := by unfold putI; rw [if_neg (by omega)]
    rw [e]
    refine (putsI_perm m _ (by rw [insI_len]; omega)).trans ?_
    refine ((insI_perm l x).append_right m).trans ?_
    rw [List.cons_append]
    exact List.perm_middle.symm
theorem putsI_take : ∀ (m l : List Itm), l.length ≤ 1000 → putsI l (m.take (min (1000 - l.length) m.length)) = putsI l m
  | [], l, _ => by simp
  | x :: m, l, h => by
    by_cases hf : 1000 ≤ l.length
    · have e : ∀ m : List Itm, putsI l m = l := by
        intro m
        induction m with
        | nil => rfl
        | cons y m ih => show putsI (putI l y) m = l; rw [show putI l y = l by unfold putI; rw [if_pos hf]]; exact ih
      rw [e, e]
    · rw [show min (1000 - l.length) (x :: m).length = min (1000 - (l.length + 1)) m.length + 1 by simp; omega, List.take_succ_cons]
      show putsI (putI l x) _ = putsI (putI l x) m
      have e : putI l x = insI l x := by unfold putI; rw [if_neg hf]
      rw [e, ← insI_len l x]
      exact putsI_take m _ (by rw [insI_len]; omega)

namespace Hp
variable {α : Type}
/-- From place s on it is a heap. -/
def HeapS (lt : α → α → Bool) (n s : Nat) (f : Nat → α) : Prop := ∀ k, 0 < k → k < n → s ≤ (k - 1) / 2 → lt (f k) (f ((k - 1) / 2)) = false
theorem HeapS.all {lt : α → α → Bool} {n : Nat} {f : Nat → α} (h : HeapS lt n 0 f) : Heap lt n f := fun k h0 hk => h k h0 hk (Nat.zero_le _)
/-- 'down' at i, in a heap from s on. -/
def DownS (lt : α → α → Bool) (n s i : Nat) (f : Nat → α) : Prop :=
  (∀ k, 0 < k → k < n → (k - 1) / 2 ≠ i → s ≤ (k - 1) / 2 → lt (f k) (f ((k - 1) / 2)) = false) ∧ ∀ k, 0 < k → k < n → (k - 1) / 2 = i → 0 < i → s ≤ (i - 1) / 2 → lt (f k) (f ((i - 1) / 2)) = false
theorem Down.s {lt : α → α → Bool} {n i : Nat} {f : Nat → α} (h : Down lt n i f) : DownS lt n 0 i f := ⟨fun k h0 hk hp _ => h.1 k h0 hk hp, fun k h0 hk hp hi _ => h.2 k h0 hk hp hi⟩
theorem HeapS.down {lt : α → α → Bool} {n i : Nat} {f : Nat → α} (h : HeapS lt n (i + 1) f) : DownS lt n i i f := ⟨fun k h0 hk hp hs => h k h0 hk (by omega), fun k h0 hk hp hi hs => by omega⟩
theorem HeapS.start (lt : α → α → Bool) (n : Nat) (f : Nat → α) : HeapS lt n (n / 2) f := fun k h0 hk hs => by omega
theorem DownS.done {lt : α → α → Bool} {n s i : Nat} {f : Nat → α} (h : DownS lt n s i f) (hj : ∀ k, 0 < k → k < n → (k - 1) / 2 = i → lt (f k) (f i) = false) : HeapS lt n s f := by
  intro k h0 hk hs
  by_cases e : (k - 1) / 2 = i
  · rw [e]; exact hj k h0 hk e
  · exact h.1 k h0 hk e hs
theorem DownS.step {lt : α → α → Bool} (o : Ord lt) {n s i j : Nat} {f : Nat → α} (h : DownS lt n s i f) (hsi : s ≤ i) (hj0 : 0 < j) (hj : j < n) (hp : (j - 1) / 2 = i) (hl : lt (f j) (f i) = true)
    (hm : ∀ k, 0 < k → k < n → (k - 1) / 2 = i → lt (f k) (f j) = false) : DownS lt n s j (swap f i j) := by
  obtain ⟨h1, h2⟩ := h
  have hij : i < j := by omega
  refine ⟨fun k h0 hk hpj hs => ?_, fun k h0 hk hpj _ hs => ?_⟩
  · by_cases hpi : (k - 1) / 2 = i
    · rw [hpi, swap_l]
      by_cases hkj : k = j
      · subst hkj; rw [swap_r]; exact o.asym _ _ hl
      · rw [swap_o f i j k (by omega) hkj]
        exact hm k h0 hk hpi
    · rw [swap_o f i j _ hpi hpj]
      by_cases hki : k = i
      · subst hki
        rw [swap_l]
        exact h2 j hj0 hj hp h0 hs
      · by_cases hkj : k = j
        · omega
        · rw [swap_o f i j k hki hkj]
          exact h1 k h0 hk hpi hs
  · rw [hp, swap_l, swap_o f i j k (by omega) (by omega)]
    have := h1 k h0 hk (by omega) (by omega)
    rw [hpj] at this
    exact this
end Hp
/-- The list of a heap's first n. -/
def lst (f : Nat → Itm) (n : Nat) : List Itm := (List.range n).map f
theorem lst_len (f : Nat → Itm) (n : Nat) : (lst f n).length = n := by simp [lst]
theorem lst_get (f : Nat → Itm) {n k : Nat} (h : k < n) : (lst f n)[k]? = some (f k) := by simp [lst, h]
theorem lst_succ (f : Nat → Itm) (n : Nat) : lst f (n + 1) = lst f n ++ [f n] := by simp [lst, List.range_succ]
theorem lst_congr {f g : Nat → Itm} {n : Nat} (h : ∀ k, k < n → f k = g k) : lst f n = lst g n := by
  unfold lst
  exact List.map_congr_left fun k hk => h k (List.mem_range.1 hk)
theorem lst_of (l : List Itm) : lst (fun k => l[k]?.getD default) l.length = l := by
  apply List.ext_getElem?
  intro k
  by_cases hk : k < l.length
  · rw [lst_get _ hk, List.getElem?_eq_getElem hk]; rfl
  · rw [List.getElem?_eq_none (by rw [lst_len]; omega), List.getElem?_eq_none (by omega)]
theorem lst_perm {f g : Nat → Itm} {n : Nat} (h : Hp.Perm n f g) : (lst g n).Perm (lst f n) := by
  obtain ⟨s, t, h1, h2, _⟩ := h
  have e : lst g n = ((List.range n).map s).map f := by
    unfold lst
    rw [List.map_map]
    exact List.map_congr_left fun k hk => h2 k (List.mem_range.1 hk)
  rw [e]
  unfold lst
  refine List.Perm.map f ?_
  rw [List.perm_ext_iff_of_nodup ?_ List.nodup_range]
  · intro a
    rw [List.mem_map, List.mem_range]
    constructor
    · rintro ⟨k, hk, rfl⟩
      exact (h1 k (List.mem_range.1 hk)).1
    · intro ha
      exact ⟨t a, List.mem_range.2 (h1 a ha).2.1, (h1 a ha).2.2.1⟩
  · unfold List.Nodup
    rw [List.pairwise_map]
    refine List.nodup_range.imp_of_mem ?_
    intro a b ha hb hne he
    have h3 := (h1 a (List.mem_range.1 ha)).2.2.2
    rw [he, (h1 b (List.mem_range.1 hb)).2.2.2] at h3
    exact hne h3.symm
/-- The root of a heap is the first one of the list that rises. -/
theorem root_first {f : Nat → Itm} {n : Nat} {l : List Itm} (h : Hp.Heap itmLt (n + 1) f) (hl : Rises l) (hp : l.Perm (lst f (n + 1))) : ∃ r, l = f 0 :: r := by
  have hm : f 0 ∈ l := hp.mem_iff.2 (List.mem_of_getElem? (lst_get f (k := 0) (by omega)))
  cases l with
  | nil => cases hm
  | cons a r =>
    refine ⟨r, ?_⟩
    have ha : a ∈ lst f (n + 1) := hp.mem_iff.1 (by simp)
    obtain ⟨k, hk, rfl⟩ : ∃ k, k < n + 1 ∧ f k = a := by
      unfold lst at ha
      obtain ⟨k, hk, rfl⟩ := List.mem_map.1 ha
      exact ⟨k, List.mem_range.1 hk, rfl⟩
    have h1 := h.root itmOrd k hk
    have h2 : itmLt (f 0) (f k) = false := by
      unfold Rises at hl
      rw [List.pairwise_cons] at hl
      rcases List.mem_cons.1 hm with e | e
      · rw [e]; exact itmOrd.irr _
      · exact hl.1 _ e
    rw [itm_anti h2 h1]
end Go.Proofs.YtjlokkjbdgcooaaGreat

