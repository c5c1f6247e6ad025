/-
  The statements' book: what it holds in memory, and the contract of Ints: one more list is kept.
-/
import Derived.Test.YtehpecjnldbaiaaBookInts
namespace Go.Proofs.Ytehpecjnldbaiaa
open Go.RowKit

/-- The book's variable: its twenty lists of lists. -/
def BookAt (w : World) (b : Nat) (F : Nat → Value) : Prop :=
  w.heap[b]? = some (.cells #[F 0, F 1, F 2, F 3, F 4, F 5, F 6, F 7, F 8, F 9, F 10, F 11, F 12, F 13, F 14, F 15, F 16, F 17, F 18, F 19] 46 (0, 0))
def upd (F : Nat → Value) (i : Nat) (v : Value) : Nat → Value := fun k => if k = i then v else F k
theorem upd_same (F : Nat → Value) (i : Nat) (v : Value) : upd F i v i = v := by simp [upd]
theorem upd_other (F : Nat → Value) {i k : Nat} (v : Value) (h : k ≠ i) : upd F i v k = F k := by simp [upd, h]
theorem BookAt.cell {w : World} {b : Nat} {F : Nat → Value} (h : BookAt w b F) {i : Nat} (hi : i < 20) : w.cell? ⟨b, i, none⟩ = some (F i) := by
  rw [cell_of h]
  rcases (show i = 0 ∨ i = 1 ∨ i = 2 ∨ i = 3 ∨ i = 4 ∨ i = 5 ∨ i = 6 ∨ i = 7 ∨ i = 8 ∨ i = 9 ∨ i = 10 ∨ i = 11 ∨ i = 12 ∨ i = 13 ∨ i = 14 ∨ i = 15 ∨ i = 16 ∨ i = 17 ∨ i = 18 ∨ i = 19 by omega) with rfl | rfl | rfl | rfl | rfl | rfl | rfl | rfl | rfl | rfl | rfl | rfl | rfl | rfl | rfl | rfl | rfl | rfl | rfl | rfl <;> rfl
theorem BookAt.warm {w : World} {b : Nat} {F : Nat → Value} (h : BookAt w b F) (i : Nat) : w.frozen? ⟨b, i, none⟩ = false := warm_of h i
theorem BookAt.lt {w : World} {b : Nat} {F : Nat → Value} (h : BookAt w b F) : b < w.heap.size := lt_of_blk h
theorem BookAt.set {w : World} {b : Nat} {F : Nat → Value} (h : BookAt w b F) {i : Nat} (hi : i < 20) (v : Value) : BookAt (w.setCell ⟨b, i, none⟩ v) b (upd F i v) := by
  unfold BookAt
  rw [set_here h]
  rcases (show i = 0 ∨ i = 1 ∨ i = 2 ∨ i = 3 ∨ i = 4 ∨ i = 5 ∨ i = 6 ∨ i = 7 ∨ i = 8 ∨ i = 9 ∨ i = 10 ∨ i = 11 ∨ i = 12 ∨ i = 13 ∨ i = 14 ∨ i = 15 ∨ i = 16 ∨ i = 17 ∨ i = 18 ∨ i = 19 by omega) with rfl | rfl | rfl | rfl | rfl | rfl | rfl | rfl | rfl | rfl | rfl | rfl | rfl | rfl | rfl | rfl | rfl | rfl | rfl | rfl <;> rfl
theorem BookAt.kept {w w' : World} {b : Nat} {F : Nat → Value} (h : BookAt w b F) (hk : w'.heap[b]? = w.heap[b]?) : BookAt w' b F := hk.trans h

/-- A table of lists of ints: the i-th is V i. -/
def Table (w : World) (B : Nat) (v : Value) (m : Nat) (V : Nat → Value) : Prop := w.ownsRow B 47 1 v m ((List.range m).map V)
/-- The lists themselves, each in a block of its own. -/
def Lists (w : World) (B m : Nat) (V : Nat → Value) (L : Nat → List Int) : Prop :=
  (∀ i, i < m → w.ownsRow B 3 1 (V i) (L i).length (ints .i64 (L i))) ∧ ∀ i j, i < m → j < m → i ≠ j → (V i).ownBlock ≠ none → (V i).ownBlock ≠ (V j).ownBlock

theorem Lists.kept {w w' : World} {B m : Nat} {V : Nat → Value} {L : Nat → List Int} (h : Lists w B m V L) (hk : ∀ i k, i < m → k < w.heap.size → (V i).ownBlock = some k → w'.heap[k]? = w.heap[k]?) : Lists w' B m V L :=
  ⟨fun i hi => own_kept (h.1 i hi) fun k hk1 hk2 => hk i k hi hk1 hk2, h.2⟩
theorem own_lt {w : World} {B : Nat} {e : TypeId} {size n : Nat} {v : Value} {xs : List Value} (h : w.ownsRow B e size v n xs) : ∀ k, v.ownBlock = some k → k < w.heap.size := by
  rcases h.2 with ⟨rfl, _⟩ | ⟨g, cap, cur, rfl, hB, hh, _⟩
  · intro k h; cases h
  · intro k h
    have : g = k := by simpa [Value.ownBlock] using h
    subst this
    exact lt_of_blk hh
theorem own_own_ne {w : World} {B B' : Nat} {e e' : TypeId} {s s' n n' : Nat} {v v' : Value} {xs xs' : List Value} (h : w.ownsRow B e s v n xs) (h' : w.ownsRow B' e' s' v' n' xs') (hne : e ≠ e') : ∀ k, v.ownBlock = some k → v'.ownBlock ≠ some k := by
  rcases h.2 with ⟨rfl, _⟩ | ⟨g, cap, cur, rfl, _, hh, _⟩
  · intro k hk; cases hk
  · intro k hk
    have : g = k := by simpa [Value.ownBlock] using hk
    subst this
    exact own_ne h' hh (fun e => hne e.symm)
theorem Lists.more {w : World} {B m : Nat} {V : Nat → Value} {L : Nat → List Int} {v : Value} {l : List Int} (h : Lists w B m V L) (hv : w.ownsRow B 3 1 v l.length (ints .i64 l)) (hd : ∀ i, i < m → ∀ k, v.ownBlock = some k → (V i).ownBlock ≠ some k) :
    Lists w B (m + 1) (upd V m v) (fun k => if k = m then l else L k) := by
  refine ⟨fun i hi => ?_, fun i j hi hj hij hnn => ?_⟩
  · by_cases e : i = m
    · subst e; rw [upd_same]; simpa using hv
    · rw [upd_other V v e]; simp only [e, if_false]; exact h.1 i (by omega)
  · by_cases ei : i = m
    · have ej : j ≠ m := by omega
      subst ei
      rw [upd_same] at hnn ⊢
      rw [upd_other V v ej]
      cases hv2 : v.ownBlock with
      | none => exact absurd hv2 hnn
      | some k => exact fun e => hd j (by omega) k hv2 e.symm
    · rw [upd_other V v ei] at hnn ⊢
      by_cases ej : j = m
      · subst ej
        rw [upd_same]
        cases hv2 : (V i).ownBlock with
        | none => exact absurd hv2 hnn
        | some k => exact fun e => hd i (by omega) k e.symm hv2
      · rw [upd_other V v ej]
        exact h.2 i j (by omega) (by omega) hij hnn
theorem range_upd (V : Nat → Value) (m : Nat) (v : Value) : (List.range (m + 1)).map (upd V m v) = (List.range m).map V ++ [v] := by
  rw [List.range_succ, List.map_append]
  congr 1
  · apply List.map_congr_left
    intro k hk
    exact upd_other V v (by have := List.mem_range.1 hk; omega)
  · simp [upd]

/-- What the book keeps of lists of ints: m lists V that read as L, and their copies U. -/
def KeptInts (w : World) (B b : Nat) (F : Nat → Value) (m : Nat) (V U : Nat → Value) (L : Nat → List Int) : Prop :=
  BookAt w b F ∧ B ≤ b ∧ Table w B (F 2) m V ∧ Table w B (F 3) m U ∧ (∀ k, (F 2).ownBlock = some k → (F 3).ownBlock ≠ some k) ∧ Lists w B m V L ∧ Lists w B m U L

theorem KeptInts.below {w w' : World} {B b m : Nat} {F V U : Nat → Value} {L : Nat → List Int} (h : KeptInts w B b F m V U L) (hb : Below w.heap.size w w') : KeptInts w' B b F m V U L := by
  obtain ⟨h1, h2, h3, h4, h5, h6, h7⟩ := h
  exact ⟨h1.kept (hb.block b h1.lt), h2, own_kept h3 fun k hk _ => hb.block k hk, own_kept h4 fun k hk _ => hb.block k hk, h5, h6.kept fun _ k _ hk _ => hb.block k hk, h7.kept fun _ k _ hk _ => hb.block k hk⟩
/-- An empty book. -/
theorem KeptInts.new (w : World) (B : Nat) (hB : B ≤ w.heap.size) (V U : Nat → Value) (L : Nat → List Int) :
    KeptInts (w.alloc (.cells #[.slice none 0 0, .slice none 0 0, .slice none 0 0, .slice none 0 0, .slice none 0 0, .slice none 0 0, .slice none 0 0, .slice none 0 0, .slice none 0 0, .slice none 0 0, .slice none 0 0, .slice none 0 0, .slice none 0 0, .slice none 0 0, .slice none 0 0, .slice none 0 0, .slice none 0 0, .slice none 0 0, .slice none 0 0, .slice none 0 0] 46)) B w.heap.size (fun _ => .slice none 0 0) 0 V U L :=
  ⟨heap_new w _, hB, World.ownsRow_nil _ _ _ _, World.ownsRow_nil _ _ _ _, (fun k h => by cases h), ⟨(fun i h => by omega), (fun i j h => by omega)⟩, ⟨(fun i h => by omega), (fun i j h => by omega)⟩⟩

theorem infoInts : (Try.prog.info? 47).map (fun i => (i.zero, i.size, i.bytes)) = some (some (.slice none 0 0), 1, 24) := by kernel_rfl
theorem rd_one (w : World) (v : Value) (T : TypeId) : Rd (w.alloc (.cells #[v] T)) (w.heap.size + 1) 1 (some ⟨w.heap.size, 0, none⟩) 1 [v] := by
  refine ⟨rfl, fun _ => ⟨_, rfl, by simp, ?_⟩⟩
  intro j u hu
  match j, hu with
  | 0, hu => simp at hu; subst hu; simp [Addr.add, go_sem]
  | j + 1, hu => simp at hu
end Go.Proofs.Ytehpecjnldbaiaa
