/-
  Words for memory that all contracts of this seat share: a slice that reads as a list of cells; a block that is known whole.
-/
import Derived.Test.YthjpknipnmagkaaProg
import Derived.WalkKit
import Derived.WalkSpells
import Derived.WalkLawsBesides
import Derived.Lib.Hide
import Derived.Laws.OwnMore
import Derived.Deep.AppendLies
import Derived.Deep.Draws
namespace Go.Proofs.Ythjpknipnmagkaa
open Go.RowKit

theorem add_block (a : Addr) (n : Nat) : (a.add n).block = a.block := by unfold Addr.add; split <;> rfl

/-- The slice '.slice A n _' lies below block B (where it has elements) and reads as the cells xs, 'size' of them an element. -/
def Rd (w : World) (B size : Nat) (A : Option Addr) (n : Nat) (xs : List Value) : Prop :=
  xs.length = n * size ∧ (0 < n → ∃ ad, A = some ad ∧ ad.block < B ∧ ∀ j u, xs[j]? = some u → w.cell? (ad.add j) = some u)

section
variable {w w' : World} {B B' size n : Nat} {A : Option Addr} {xs : List Value}
theorem Rd.nil_ : Rd w B size A 0 [] := ⟨by simp, fun h => absurd h (by omega)⟩
theorem Rd.one {k : Nat} (h : Rd w B 1 A n xs) (hk : k < n) : ∃ ad u, A = some ad ∧ ad.block < B ∧ xs[k]? = some u ∧ w.cell? (ad.add k) = some u := by
  obtain ⟨ad, e, hb, hc⟩ := h.2 (by omega)
  have hl : k < xs.length := by have := h.1; omega
  exact ⟨ad, xs[k], e, hb, List.getElem?_eq_getElem hl, hc k _ (List.getElem?_eq_getElem hl)⟩
theorem Rd.same (h : Rd w B size A n xs) (hk : ∀ p : Addr, p.block < B → w'.cell? p = w.cell? p) : Rd w' B size A n xs :=
  ⟨h.1, fun hn => by
    obtain ⟨ad, e, hb, hc⟩ := h.2 hn
    exact ⟨ad, e, hb, fun j u hu => (hk _ (by rw [add_block]; exact hb)).trans (hc j u hu)⟩⟩
theorem Rd.wide (h : Rd w B size A n xs) (hB : B ≤ B') : Rd w B' size A n xs :=
  ⟨h.1, fun hn => by
    obtain ⟨ad, e, hb, hc⟩ := h.2 hn
    exact ⟨ad, e, by omega, hc⟩⟩
theorem Rd.below (h : Rd w B size A n xs) (hb : Below B w w') : Rd w' B size A n xs := h.same fun _ hp => hb.cell hp
theorem Rd.far {B0 : Nat} (h : Rd w B size A n xs) (hb : Below B0 w w') (hB : B ≤ B0) : Rd w' B size A n xs := h.same fun _ hp => hb.cell (by omega)
end

/-- Integers of a kind as cells. -/
def ints (k : IntKind) (l : List Int) : List Value := l.map (Value.int k)
theorem ints_len (k : IntKind) (l : List Int) : (ints k l).length = l.length := by simp [ints]
theorem ints_at {k : IntKind} {l : List Int} {i : Nat} {x : Int} (h : l[i]? = some x) : (ints k l)[i]? = some (.int k x) := by simp [ints, h]

theorem Rd.int {w : World} {B n i : Nat} {A : Option Addr} {k : IntKind} {l : List Int} (h : Rd w B 1 A n (ints k l)) (hi : i < n) :
    ∃ ad, A = some ad ∧ ad.block < B ∧ w.cell? (ad.add i) = some (.int k (l[i]?.getD 0)) := by
  obtain ⟨ad, u, e, hb, hx, hc⟩ := h.one hi
  have hl : i < l.length := by have := h.1; simp [ints] at this; omega
  refine ⟨ad, e, hb, ?_⟩
  rw [hc, ← hx]
  simp [ints, hl]
theorem Rd.ints_len {w : World} {B n : Nat} {A : Option Addr} {k : IntKind} {l : List Int} (h : Rd w B 1 A n (ints k l)) : l.length = n := by
  have := h.1; simp [ints] at this; omega
theorem lt_of_blk {w : World} {b : Nat} {o : Obj} (h : w.heap[b]? = some o) : b < w.heap.size := by
  rcases Nat.lt_or_ge b w.heap.size with hlt | hge
  · exact hlt
  · rw [Array.getElem?_eq_none hge] at h; cases h
theorem cell_of {w : World} {b : Nat} {t : TypeId} {cs : Array Value} (h : w.heap[b]? = some (.cells cs t (0, 0))) (i : Nat) : w.cell? ⟨b, i, none⟩ = cs[i]? := by simp [World.cell?, h]
theorem warm_of {w : World} {b : Nat} {t : TypeId} {cs : Array Value} (h : w.heap[b]? = some (.cells cs t (0, 0))) (i : Nat) : w.frozen? ⟨b, i, none⟩ = false := by simp [World.frozen?, h]
theorem set_here {w : World} {g i : Nat} {t : TypeId} {cur : Array Value} {u : Value} (h : w.heap[g]? = some (.cells cur t (0, 0))) : (w.setCell ⟨g, i, none⟩ u).heap[g]? = some (.cells (cur.setIfInBounds i u) t (0, 0)) := by
  simp [World.setCell, Array.getElem?_modify, h]
theorem block_of_cell {w : World} {p : Addr} {v : Value} (h : w.cell? p = some v) : p.block < w.heap.size := by
  rcases Nat.lt_or_ge p.block w.heap.size with hlt | hge
  · exact hlt
  · rw [World.cell?, Array.getElem?_eq_none hge] at h; cases h
theorem heap_new (w : World) (o : Obj) : (w.alloc o).heap[w.heap.size]? = some o := by
  show (w.heap.push o)[w.heap.size]? = some o
  rw [Array.getElem?_push]; simp

/-- A block of n integers, known whole. -/
def NRow (t : TypeId) (k : IntKind) (w : World) (s n : Nat) (f : Nat → Int) : Prop :=
  ∃ cur : Array Value, w.heap[s]? = some (.cells cur t (0, 0)) ∧ cur.size = n ∧ ∀ j, j < n → cur[j]? = some (.int k (f j))
section
variable {t : TypeId} {k : IntKind} {w w' : World} {s n : Nat} {f : Nat → Int}
theorem NRow.lt (h : NRow t k w s n f) : s < w.heap.size := by obtain ⟨c, h, _⟩ := h; exact lt_of_blk h
theorem NRow.cell (h : NRow t k w s n f) {j : Nat} (hj : j < n) : w.cell? ⟨s, j, none⟩ = some (.int k (f j)) := by
  obtain ⟨c, h, _, h2⟩ := h; rw [cell_of h]; exact h2 j hj
theorem NRow.warm (h : NRow t k w s n f) (j : Nat) : w.frozen? ⟨s, j, none⟩ = false := by
  obtain ⟨c, h, _, h2⟩ := h; exact warm_of h j
theorem NRow.kept (h : NRow t k w s n f) (hk : w'.heap[s]? = w.heap[s]?) : NRow t k w' s n f := by
  obtain ⟨c, h, r⟩ := h; exact ⟨c, hk.trans h, r⟩
theorem NRow.below {B : Nat} (h : NRow t k w s n f) (hb : Below B w w') (hs : s < B) : NRow t k w' s n f := h.kept (hb.block s hs)
theorem NRow.congr {g : Nat → Int} (h : NRow t k w s n f) (e : ∀ j, j < n → f j = g j) : NRow t k w s n g := by
  obtain ⟨c, h, h1, h2⟩ := h; exact ⟨c, h, h1, fun j hj => by rw [← e j hj]; exact h2 j hj⟩
theorem NRow.set (h : NRow t k w s n f) (i : Nat) (x : Int) : NRow t k (w.setCell ⟨s, i, none⟩ (.int k x)) s n (fun j => if j = i then x else f j) := by
  obtain ⟨c, h, h1, h2⟩ := h
  refine ⟨_, set_here h, by simpa using h1, fun j hj => ?_⟩
  by_cases e : j = i
  · subst e; rw [Array.getElem?_setIfInBounds_self_of_lt (by omega)]; simp
  · rw [Array.getElem?_setIfInBounds_ne (fun h => e h.symm), h2 j hj]; simp [e]
theorem NRow.new (w : World) (t : TypeId) (k : IntKind) (n : Nat) : NRow t k (w.alloc (.cells (madeCells #[.int k 0] n) t)) w.heap.size n (fun _ => 0) := by
  refine ⟨_, heap_new w _, size_madeCells _ _, fun j hj => ?_⟩
  have h := toList_madeCells_one (.int k 0) n
  rw [← Array.getElem?_toList, h, List.getElem?_replicate, if_pos hj]
theorem NRow.rd (h : NRow t k w s n f) {B : Nat} (hB : s < B) : Rd w B 1 (some ⟨s, 0, none⟩) n (ints k ((List.range n).map f)) := by
  refine ⟨by simp [ints], fun _ => ⟨_, rfl, hB, fun j u hu => ?_⟩⟩
  have hj : j < n := by
    have := List.getElem?_eq_some_iff.1 hu
    obtain ⟨h1, _⟩ := this
    simpa [ints] using h1
  simp [ints, hj] at hu
  subst hu
  rw [Addr.add_lit, Nat.zero_add]
  exact h.cell hj
end

/-- A method with a value receiver, called through a pointer in an interface: the function, and what the pointer's cell holds. -/
theorem method_through {P : Program} {fuel f : Nat} {t te : TypeId} {name : String} {a : Addr} {w : World} {v : Value}
    (h : (P.info? t).bind (fun i => (i.methods.find? (·.name == name)).map fun m => (m.path.toList, m.func)) = some ([], some (f, false)))
    (ht : P.underlying t = some (.pointer te)) (hl : (loadVar te a).run P w = .ok v w) :
    (method (fuel + 1) t (.pointer (some a)) name).run P w = .ok (f, v) w := by
  cases hi : P.info? t with
  | none => rw [hi] at h; simp at h
  | some i =>
    rw [hi] at h
    cases hm : i.methods.find? (·.name == name) with
    | none => simp [hm] at h
    | some m =>
      simp [hm] at h
      have hs : ∀ s, (Builtin.ssaWrapNilChk_ #[t] t #[.pointer (some a), strVal "", strVal s]).run P w = .ok (.pointer (some a)) w := fun _ => rfl
      have hp : m.path = #[] := by simpa using h.1
      simp [method, typeInfo, hi, hm, hp, h.2, follow, receiverAt, run_underlying ht, Place.get, hs, hl, asAddr]
end Go.Proofs.Ythjpknipnmagkaa

