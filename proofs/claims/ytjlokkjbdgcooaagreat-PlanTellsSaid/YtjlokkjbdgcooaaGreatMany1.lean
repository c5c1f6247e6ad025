/-
  Several texts, one behind the other: what each holds stands ahead of it.
-/
import Derived.Test.YtjlokkjbdgcooaaGreatProg
import Derived.WalkKit
import Derived.WalkSpells
import Derived.WalkLawsBesides
import Derived.Lib.Hide
import Derived.Laws.OwnMore
import Derived.Deep.AppendLies
import Derived.Deep.Draws

/-
  Words for memory that all contracts of this seat share: a slice that reads as a list of cells; a block that is known whole.
-/
namespace Go.Proofs.YtjlokkjbdgcooaaGreat
open Go.RowKit

theorem add_block (a : Addr) (n : Nat) : (a.add n).block = a.block := by unfold Addr.add; split <;> rfl

/-- The slice '.slice A n _' lies below block B (where it has elements) and reads as the cells xs, 'size' of them an element. -/
def Rd (w : World) (B size : Nat) (A : Option Addr) (n : Nat) (xs : List Value) : Prop :=
  xs.length = n * size ∧ (0 < n → ∃ ad, A = some ad ∧ ad.block < B ∧ ∀ j u, xs[j]? = some u → w.cell? (ad.add j) = some u)

section
variable {w w' : World} {B B' size n : Nat} {A : Option Addr} {xs : List Value}
theorem Rd.nil_ : Rd w B size A 0 [] := ⟨by simp, fun h => absurd h (by omega)⟩
theorem Rd.one {k : Nat} (h : Rd w B 1 A n xs) (hk : k < n) : ∃ ad u, A = some ad ∧ ad.block < B ∧ xs[k]? = some u ∧ w.cell? (ad.add k) = some u := by
  obtain ⟨ad, e, hb, hc⟩ := h.2 (by omega)
  have hl : k < xs.length := by have := h.1; omega
  exact ⟨ad, xs[k], e, hb, List.getElem?_eq_getElem hl, hc k _ (List.getElem?_eq_getElem hl)⟩
theorem Rd.same (h : Rd w B size A n xs) (hk : ∀ p : Addr, p.block < B → w'.cell? p = w.cell? p) : Rd w' B size A n xs :=
  ⟨h.1, fun hn => by
    obtain ⟨ad, e, hb, hc⟩ := h.2 hn
    exact ⟨ad, e, hb, fun j u hu => (hk _ (by rw [add_block]; exact hb)).trans (hc j u hu)⟩⟩
theorem Rd.wide (h : Rd w B size A n xs) (hB : B ≤ B') : Rd w B' size A n xs :=
  ⟨h.1, fun hn => by
    obtain ⟨ad, e, hb, hc⟩ := h.2 hn
    exact ⟨ad, e, by omega, hc⟩⟩
theorem Rd.below (h : Rd w B size A n xs) (hb : Below B w w') : Rd w' B size A n xs := h.same fun _ hp => hb.cell hp
theorem Rd.far {B0 : Nat} (h : Rd w B size A n xs) (hb : Below B0 w w') (hB : B ≤ B0) : Rd w' B size A n xs := h.same fun _ hp => hb.cell (by omega)
end

/-- Integers of a kind as cells. -/
def ints (k : IntKind) (l : List Int) : List Value := l.map (Value.int k)
theorem ints_len (k : IntKind) (l : List Int) : (ints k l).length = l.length := by simp [ints]
theorem ints_at {k : IntKind} {l : List Int} {i : Nat} {x : Int} (h : l[i]? = some x) : (ints k l)[i]? = some (.int k x) := by simp [ints, h]

theorem Rd.int {w : World} {B n i : Nat} {A : Option Addr} {k : IntKind} {l : List Int} (h : Rd w B 1 A n (ints k l)) (hi : i < n) :
    ∃ ad, A = some ad ∧ ad.block < B ∧ w.cell? (ad.add i) = some (.int k (l[i]?.getD 0)) := by
  obtain ⟨ad, u, e, hb, hx, hc⟩ := h.one hi
  have hl : i < l.length := by have := h.1; simp [ints] at this; omega
  refine ⟨ad, e, hb, ?_⟩
  rw [hc, ← hx]
  simp [ints, hl]
theorem Rd.ints_len {w : World} {B n : Nat} {A : Option Addr} {k : IntKind} {l : List Int} (h : Rd w B 1 A n (ints k l)) : l.length = n := by
  have := h.1; simp [ints] at this; omega
theorem lt_of_blk {w : World} {b : Nat} {o : Obj} (h : w.heap[b]? = some o) : b < w.heap.size := by
  rcases Nat.lt_or_ge b w.heap.size with hlt | hge
  · exact hlt
  · rw [Array.getElem?_eq_none hge] at h; cases h
theorem cell_of {w : World} {b : Nat} {t : TypeId} {cs : Array Value} (h : w.heap[b]? = some (.cells cs t (0, 0))) (i : Nat) : w.cell? ⟨b, i, none⟩ = cs[i]? := by simp [World.cell?, h]
theorem warm_of {w : World} {b : Nat} {t : TypeId} {cs : Array Value} (h : w.heap[b]? = some (.cells cs t (0, 0))) (i : Nat) : w.frozen? ⟨b, i, none⟩ = false := by simp [World.frozen?, h]
theorem set_here {w : World} {g i : Nat} {t : TypeId} {cur : Array Value} {u : Value} (h : w.heap[g]? = some (.cells cur t (0, 0))) : (w.setCell ⟨g, i, none⟩ u).heap[g]? = some (.cells (cur.setIfInBounds i u) t (0, 0)) := by
  simp [World.setCell, Array.getElem?_modify, h]
theorem block_of_cell {w : World} {p : Addr} {v : Value} (h : w.cell? p = some v) : p.block < w.heap.size := by
  rcases Nat.lt_or_ge p.block w.heap.size with hlt | hge
  · exact hlt
  · rw [World.cell?, Array.getElem?_eq_none hge] at h; cases h
theorem heap_new (w : World) (o : Obj) : (w.alloc o).heap[w.heap.size]? = some o := by
  show (w.heap.push o)[w.heap.size]? = some o
  rw [Array.getElem?_push]; simp

/-- A block of n integers, known whole. -/
def NRow (t : TypeId) (k : IntKind) (w : World) (s n : Nat) (f : Nat → Int) : Prop :=
  ∃ cur : Array Value, w.heap[s]? = some (.cells cur t (0, 0)) ∧ cur.size = n ∧ ∀ j, j < n → cur[j]? = some (.int k (f j))
section
variable {t : TypeId} {k : IntKind} {w w' : World} {s n : Nat} {f : Nat → Int}
theorem NRow.lt (h : NRow t k w s n f) : s < w.heap.size := by obtain ⟨c, h, _⟩ := h; exact lt_of_blk h
theorem NRow.cell (h : NRow t k w s n f) {j : Nat} (hj : j < n) : w.cell? ⟨s, j, none⟩ = some (.int k (f j)) := by
  obtain ⟨c, h, _, h2⟩ := h; rw [cell_of h]; exact h2 j hj
theorem NRow.warm (h : NRow t k w s n f) (j : Nat) : w.frozen? ⟨s, j, none⟩ = false := by
  obtain ⟨c, h, _, h2⟩ := h; exact warm_of h j
theorem NRow.kept (h : NRow t k w s n f) (hk : w'.heap[s]? = w.heap[s]?) : NRow t k w' s n f := by
  obtain ⟨c, h, r⟩ := h; exact ⟨c, hk.trans h, r⟩
theorem NRow.below {B : Nat} (h : NRow t k w s n f) (hb : Below B w w') (hs : s < B) : NRow t k w' s n f := h.kept (hb.block s hs)
theorem NRow.congr {g : Nat → Int} (h : NRow t k w s n f) (e : ∀ j, j < n → f j = g j) : NRow t k w s n g := by
  obtain ⟨c, h, h1, h2⟩ := h; exact ⟨c, h, h1, fun j hj => by rw [← e j hj]; exact h2 j hj⟩
theorem NRow.set (h : NRow t k w s n f) (i : Nat) (x : Int) : NRow t k (w.setCell ⟨s, i, none⟩ (.int k x)) s n (fun j => if j = i then x else f j) := by
  obtain ⟨c, h, h1, h2⟩ := h
  refine ⟨_, set_here h, by simpa using h1, fun j hj => ?_⟩
  by_cases e : j = i
  · subst e; rw [Array.getElem?_setIfInBounds_self_of_lt (by omega)]; simp
  · rw [Array.getElem?_setIfInBounds_ne (fun h => e h.symm), h2 j hj]; simp [e]
theorem NRow.new (w : World) (t : TypeId) (k : IntKind) (n : Nat) : NRow t k (w.alloc (.cells (madeCells #[.int k 0] n) t)) w.heap.size n (fun _ => 0) := by
  refine ⟨_, heap_new w _, size_madeCells _ _, fun j hj => ?_⟩
  have h := toList_madeCells_one (.int k 0) n
  rw [← Array.getElem?_toList, h, List.getElem?_replicate, if_pos hj]
theorem NRow.rd (h : NRow t k w s n f) {B : Nat} (hB : s < B) : Rd w B 1 (some ⟨s, 0, none⟩) n (ints k ((List.range n).map f)) := by
  refine ⟨by simp [ints], fun _ => ⟨_, rfl, hB, fun j u hu => ?_⟩⟩
  have hj : j < n := by
    have := List.getElem?_eq_some_iff.1 hu
    obtain ⟨h1, _⟩ := this
    simpa [ints] using h1
  simp [ints, hj] at hu
  subst hu
  rw [Addr.add_lit, Nat.zero_add]
  exact h.cell hj
end

/-- A method with a value receiver, called through a pointer in an interface: the function, and what the pointer's cell holds. -/
theorem method_through {P : Program} {fuel f : Nat} {t te : TypeId} {name : String} {a : Addr} {w : World} {v : Value}
    (h : (P.info? t).bind (fun i => (i.methods.find? (·.name == name)).map fun m => (m.path.toList, m.func)) = some ([], some (f, false)))
    (ht : P.underlying t = some (.pointer te)) (hl : (loadVar te a).run P w = .ok v w) :
    (method (fuel + 1) t (.pointer (some a)) name).run P w = .ok (f, v) w := by
  cases hi : P.info? t with
  | none => rw [hi] at h; simp at h
  | some i =>
    rw [hi] at h
    cases hm : i.methods.find? (·.name == name) with
    | none => simp [hm] at h
    | some m =>
      simp [hm] at h
      have hs : ∀ s, (Builtin.ssaWrapNilChk_ #[t] t #[.pointer (some a), strVal "", strVal s]).run P w = .ok (.pointer (some a)) w := fun _ => rfl
      have hp : m.path = #[] := by simpa using h.1
      simp [method, typeInfo, hi, hm, hp, h.2, follow, receiverAt, run_underlying ht, Place.get, hs, hl, asAddr]
end Go.Proofs.YtjlokkjbdgcooaaGreat

/-
  Plain mathematics of binary heaps over functions on the naturals: what 'up' and 'down' keep, and that the root is the least.
-/
namespace Go.Proofs.YtjlokkjbdgcooaaGreat
namespace Hp
variable {α : Type}

def swap (f : Nat → α) (i j : Nat) : Nat → α := fun k => if k = i then f j else if k = j then f i else f k

theorem swap_l (f : Nat → α) (i j : Nat) : swap f i j i = f j := by simp [swap]
theorem swap_r (f : Nat → α) (i j : Nat) : swap f i j j = f i := by
  unfold swap; split
  · rename_i h; rw [h]
  · simp
theorem swap_o (f : Nat → α) (i j k : Nat) (h1 : k ≠ i) (h2 : k ≠ j) : swap f i j k = f k := by simp [swap, h1, h2]

/-- g is f with its first n places in another order. -/
def Perm (n : Nat) (f g : Nat → α) : Prop :=
  ∃ s t : Nat → Nat, (∀ k, k < n → s k < n ∧ t k < n ∧ s (t k) = k ∧ t (s k) = k) ∧ (∀ k, k < n → g k = f (s k)) ∧ ∀ k, n ≤ k → g k = f k

theorem Perm.refl (n : Nat) (f : Nat → α) : Perm n f f := ⟨id, id, fun _k h => ⟨h, h, rfl, rfl⟩, fun _ _ => rfl, fun _ _ => rfl⟩
theorem Perm.trans {n : Nat} {f g h : Nat → α} (a : Perm n f g) (b : Perm n g h) : Perm n f h := by
  obtain ⟨s, t, h1, h2, h3⟩ := a
  obtain ⟨u, v, k1, k2, k3⟩ := b
  refine ⟨fun k => s (u k), fun k => v (t k), fun k hk => ?_, fun k hk => ?_, fun k hk => (k3 k hk).trans (h3 k hk)⟩
  · obtain ⟨a1, a2, a3, a4⟩ := h1 k hk
    obtain ⟨b1, b2, b3, b4⟩ := k1 k hk
    obtain ⟨c1, c2, c3, c4⟩ := h1 _ b1
    obtain ⟨d1, d2, d3, d4⟩ := k1 _ a2
    exact ⟨c1, d2, by show s (u (v (t k))) = k; rw [d3, a3], by show v (t (s (u k))) = k; rw [c4, b4]⟩
  · obtain ⟨b1, _⟩ := k1 k hk
    rw [k2 k hk, h2 _ b1]
theorem Perm.swap_ {n : Nat} (f : Nat → α) {i j : Nat} (hi : i < n) (hj : j < n) : Perm n f (swap f i j) := by
  refine ⟨fun k => if k = i then j else if k = j then i else k, fun k => if k = i then j else if k = j then i else k, fun k hk => ?_, fun k hk => ?_, fun k hk => swap_o f i j k (by omega) (by omega)⟩
  · refine ⟨?_, ?_, ?_, ?_⟩ <;> dsimp only <;> (repeat' split) <;> omega
  · simp only [swap]; (repeat' split) <;> rfl
theorem Perm.mem {n : Nat} {f g : Nat → α} (a : Perm n f g) (x : α) : (∃ k, k < n ∧ g k = x) ↔ ∃ k, k < n ∧ f k = x := by
  obtain ⟨s, t, h1, h2, _⟩ := a
  constructor
  · rintro ⟨k, hk, rfl⟩
    exact ⟨s k, (h1 k hk).1, (h2 k hk).symm⟩
  · rintro ⟨k, hk, rfl⟩
    obtain ⟨a1, a2, a3, a4⟩ := h1 k hk
    exact ⟨t k, a2, by rw [h2 _ a2, a3]⟩
theorem Perm.inj {n : Nat} {f g : Nat → α} (a : Perm n f g) (h : ∀ i j, i < n → j < n → f i = f j → i = j) : ∀ i j, i < n → j < n → g i = g j → i = j := by
  obtain ⟨s, t, h1, h2, _⟩ := a
  intro i j hi hj e
  rw [h2 i hi, h2 j hj] at e
  have := h _ _ (h1 i hi).1 (h1 j hj).1 e
  have h4 := (h1 i hi).2.2.2
  rw [this, (h1 j hj).2.2.2] at h4
  exact h4.symm
theorem Perm.more {n m : Nat} {f g : Nat → α} (a : Perm n f g) (h : n ≤ m) : Perm m f g := by
  obtain ⟨s, t, h1, h2, h3⟩ := a
  refine ⟨fun k => if k < n then s k else k, fun k => if k < n then t k else k, fun k hk => ?_, fun k hk => ?_, fun k hk => h3 k (by omega)⟩
  · by_cases hn : k < n
    · obtain ⟨a1, a2, a3, a4⟩ := h1 k hn
      simp only [hn, a1, a2, if_true]
      exact ⟨by omega, by omega, a3, a4⟩
    · simp only [hn, if_false]; exact ⟨hk, hk, trivial, trivial⟩
  · by_cases hn : k < n
    · simp only [hn, if_true]; exact h2 k hn
    · simp only [hn, if_false]; exact h3 k (by omega)

/-- A strict order of which 'not less' is transitive. -/
structure Ord (lt : α → α → Bool) : Prop where
  irr : ∀ a, lt a a = false
  asym : ∀ a b, lt a b = true → lt b a = false
  neg : ∀ a b c, lt a b = false → lt b c = false → lt a c = false

def Heap (lt : α → α → Bool) (n : Nat) (f : Nat → α) : Prop := ∀ k, 0 < k → k < n → lt (f k) (f ((k - 1) / 2)) = false

theorem Heap.root {lt : α → α → Bool} (o : Ord lt) {n : Nat} {f : Nat → α} (h : Heap lt n f) : ∀ k, k < n → lt (f k) (f 0) = false := by
  intro k
  induction k using Nat.strongRecOn with
  | _ k ih =>
    intro hk
    by_cases h0 : k = 0
    · subst h0; exact o.irr _
    · exact o.neg _ _ _ (h k (by omega) hk) (ih ((k - 1) / 2) (by omega) (by omega))

/-- 'up' at j: all are in order but j may be less than its parent; what is below j is not less than j's parent. -/
def Up (lt : α → α → Bool) (n j : Nat) (f : Nat → α) : Prop :=
  (∀ k, 0 < k → k < n → k ≠ j → lt (f k) (f ((k - 1) / 2)) = false) ∧ ∀ k, 0 < k → k < n → (k - 1) / 2 = j → 0 < j → lt (f k) (f ((j - 1) / 2)) = false

theorem Up.start {lt : α → α → Bool} {n : Nat} {f : Nat → α} (h : Heap lt n f) : Up lt (n + 1) n f :=
  ⟨fun k h0 hk hn => h k h0 (by omega), fun k h0 hk hp _ => by omega⟩
theorem Up.done {lt : α → α → Bool} {n j : Nat} {f : Nat → α} (h : Up lt n j f) (hj : j = 0 ∨ lt (f j) (f ((j - 1) / 2)) = false) : Heap lt n f := by
  intro k h0 hk
  by_cases e : k = j
  · subst e
    rcases hj with hj | hj
    · omega
    · exact hj
  · exact h.1 k h0 hk e
theorem Up.step {lt : α → α → Bool} (o : Ord lt) {n j : Nat} {f : Nat → α} (h : Up lt n j f) (hj0 : 0 < j) (hj : j < n) (hl : lt (f j) (f ((j - 1) / 2)) = true) :
    Up lt n ((j - 1) / 2) (swap f ((j - 1) / 2) j) := by
  obtain ⟨h1, h2⟩ := h
  generalize hi : (j - 1) / 2 = i at *
  have hij : i < j := by omega
  have hij' := o.asym _ _ hl
  refine ⟨fun k h0 hk hki => ?_, fun k h0 hk hp hi0 => ?_⟩
  · by_cases hkj : k = j
    · subst hkj
      rw [hi, swap_l, swap_r]
      exact hij'
    · rw [swap_o f i j k hki hkj]
      by_cases hpj : (k - 1) / 2 = j
      · rw [hpj, swap_r]
        exact h2 k h0 hk hpj hj0
      · by_cases hpi : (k - 1) / 2 = i
        · rw [hpi, swap_l]
          have := h1 k h0 hk hkj
          rw [hpi] at this
          exact o.neg _ _ _ this hij'
        · rw [swap_o f i j _ hpi hpj]
          exact h1 k h0 hk hkj
  · have hpi : (i - 1) / 2 ≠ i := by omega
    have hpj : (i - 1) / 2 ≠ j := by omega
    rw [swap_o f i j _ hpi hpj]
    have hi1 := h1 i hi0 (by omega) (by omega)
    by_cases hkj : k = j
    · subst hkj
      rw [swap_r]; exact hi1
    · rw [swap_o f i j k (by omega) hkj]
      have := h1 k h0 hk hkj
      rw [hp] at this
      exact o.neg _ _ _ this hi1

/-- 'down' at i: all are in order but children of i may be less than i; those are not less than i's parent. -/
def Down (lt : α → α → Bool) (n i : Nat) (f : Nat → α) : Prop :=
  (∀ k, 0 < k → k < n → (k - 1) / 2 ≠ i → lt (f k) (f ((k - 1) / 2)) = false) ∧ ∀ k, 0 < k → k < n → (k - 1) / 2 = i → 0 < i → lt (f k) (f ((i - 1) / 2)) = false

theorem Down.done {lt : α → α → Bool} {n i : Nat} {f : Nat → α} (h : Down lt n i f) (hj : ∀ k, 0 < k → k < n → (k - 1) / 2 = i → lt (f k) (f i) = false) : Heap lt n f := by
  intro k h0 hk
  by_cases e : (k - 1) / 2 = i
  · rw [e]; exact hj k h0 hk e
  · exact h.1 k h0 hk e
theorem Down.step {lt : α → α → Bool} (o : Ord lt) {n i j : Nat} {f : Nat → α} (h : Down lt n i f) (hj0 : 0 < j) (hj : j < n) (hp : (j - 1) / 2 = i) (hl : lt (f j) (f i) = true)
    (hm : ∀ k, 0 < k → k < n → (k - 1) / 2 = i → lt (f k) (f j) = false) : Down lt n j (swap f i j) := by
  obtain ⟨h1, h2⟩ := h
  have hij : i < j := by omega
  refine ⟨fun k h0 hk hpj => ?_, fun k h0 hk hpj _ => ?_⟩
  · by_cases hpi : (k - 1) / 2 = i
    · rw [hpi, swap_l]
      by_cases hkj : k = j
      · subst hkj; rw [swap_r]; exact o.asym _ _ hl
      · rw [swap_o f i j k (by omega) hkj]
        exact hm k h0 hk hpi
    · rw [swap_o f i j _ hpi hpj]
      by_cases hki : k = i
      · subst hki
        rw [swap_l]
        exact h2 j hj0 hj hp h0
      · by_cases hkj : k = j
        · omega
        · rw [swap_o f i j k hki hkj]
          exact h1 k h0 hk hpi
  · rw [hp, swap_l, swap_o f i j k (by omega) (by omega)]
    have := h1 k h0 hk (by omega)
    rw [hpj] at this
    exact this
/-- The root of a heap gone to the last place, and what was there at the root. -/
theorem Down.start {lt : α → α → Bool} {n : Nat} {f : Nat → α} (h : Heap lt (n + 1) f) : Down lt n 0 (swap f 0 n) := by
  refine ⟨fun k h0 hk hp => ?_, fun k _ _ _ h0 => by omega⟩
  rw [swap_o f 0 n k (by omega) (by omega), swap_o f 0 n _ hp (by omega)]
  exact h k h0 (by omega)
end Hp
end Go.Proofs.YtjlokkjbdgcooaaGreat
