/-
  The statements' book: growInts: each list that is kept, grown by its marks; what is kept stays.
-/
import Derived.Test.YtehpecjnldbaiaaBookPut
namespace Go.Proofs.Ytehpecjnldbaiaa
open Go.RowKit

/-- While list i is grown: what is kept; the table of those that are grown already. w0: the world when growing began. -/
structure GInv (w0 wr : World) (B b : Nat) (F : Nat → Value) (m : Nat) (V : Nat → Value) (N : Nat → Nat) (i : Nat) (ov : Value) (G : Nat → Value) : Prop where
  book : BookAt wr b F
  low : B ≤ b
  old : b < w0.heap.size
  tab : Table wr B (F 2) m V
  tabold : ∀ k, (F 2).ownBlock = some k → k < w0.heap.size
  lists : Lists wr B m V (fun j => markL j 0 (N j))
  listsold : ∀ j, j < m → ∀ k, (V j).ownBlock = some k → k < w0.heap.size
  out : Table wr B ov i G
  outnew : ∀ k, ov.ownBlock = some k → w0.heap.size ≤ k
  grown : ∀ j, j < i → wr.ownsRow B 3 1 (G j) (N j + 72) (ints .i64 (markL j 0 (N j + 72)))
  far : ∀ j, j < i → ∀ k, (G j).ownBlock = some k → (V j).ownBlock = some k ∨ w0.heap.size ≤ k
  below : Below B w0 wr

theorem GInv.more {w0 wr w' : World} {B b m i : Nat} {F V G : Nat → Value} {N : Nat → Nat} {ov : Value} (h : GInv w0 wr B b F m V N i ov G) (hb : Below wr.heap.size wr w') : GInv w0 w' B b F m V N i ov G :=
  { h with
    book := h.book.kept (hb.block b h.book.lt)
    tab := own_kept h.tab fun k hk _ => hb.block k hk
    lists := h.lists.kept fun _ k _ hk _ => hb.block k hk
    out := own_kept h.out fun k hk _ => hb.block k hk
    grown := fun j hj => own_kept (h.grown j hj) fun k hk _ => hb.block k hk
    below := h.below.trans (hb.mono (Nat.le_trans (Nat.le_of_lt (Nat.lt_of_le_of_lt h.low h.book.lt)) (Nat.le_refl _))) }

/-- The list that is being grown. -/
structure LInv (w0 wr : World) (B b : Nat) (F : Nat → Value) (m : Nat) (V : Nat → Value) (N : Nat → Nat) (i : Nat) (ov : Value) (G : Nat → Value) (H : Nat) (v : Value) (len : Nat) : Prop where
  inv : GInv w0 wr B b F m V N i ov G
  own : wr.ownsRow B 3 1 v len (ints .i64 (markL i 0 len))
  place : ∀ k, v.ownBlock = some k → (V i).ownBlock = some k ∨ H ≤ k
  before : ∀ j, j < i → ∀ k, (G j).ownBlock = some k → k < H
  later : w0.heap.size ≤ H ∧ H ≤ wr.heap.size
  long : N i ≤ len

theorem linv_step {w0 wr w1 w2 : World} {B b m i H len q : Nat} {F V G : Nat → Value} {N : Nat → Nat} {ov v v' : Value} (hi : i < m) (h : LInv w0 wr B b F m V N i ov G H v len) (hb1 : Below wr.heap.size wr w1)
    (hown : w2.ownsRow B 3 1 v' (len + q) (ints .i64 (markL i 0 len) ++ ints .i64 (markL i len q))) (hg : w1.grownBy w2 v.ownBlock) (hp : v'.ownBlock = v.ownBlock ∨ v'.ownBlock = some w1.heap.size) (hst : StaysUnder w1 w2 3 1 v len) :
    LInv w0 w2 B b F m V N i ov G H v' (len + q) := by
  have hz1 := hb1.size
  have hz2 := hg.size
  have h1 := h.inv.more hb1
  have hv1 : w1.ownsRow B 3 1 v len (ints .i64 (markL i 0 len)) := own_kept h.own fun k hk _ => hb1.block k hk
  have hblk : ∀ k, k < w1.heap.size → v.ownBlock ≠ some k → w2.heap[k]? = w1.heap[k]? := fun k hk hne => hg.block k hk (fun e => hne e.symm)
  have hw0 : w0.heap.size ≤ w1.heap.size := h1.below.size
  refine ⟨?_, ?_, ?_, h.before, ⟨h.later.1, by have := h.later.2; omega⟩, by have := h.long; omega⟩
  · refine { h1 with book := ?_, tab := ?_, lists := ?_, out := ?_, grown := ?_, below := ?_ }
    · exact h1.book.kept (hblk b h1.book.lt (own_ne hv1 h1.book (by decide)))
    · exact own_kept h1.tab fun k hk hk2 => hblk k hk (own_own_ne h1.tab hv1 (by decide) k hk2)
    · refine ⟨fun j hj => ?_, h1.lists.2⟩
      by_cases e : (V j).ownBlock = v.ownBlock ∧ (V j).ownBlock ≠ none
      · -- the list itself, grown in place
        by_cases ej : j = i
        · subst ej
          have := hst B (V j) (N j) (ints .i64 (markL j 0 (N j))) (by have := h1.lists.1 j hj; simpa [markL_len] using this) h.long e.1
          simpa [markL_len] using this
        · exfalso
          cases hvj : (V j).ownBlock with
          | none => exact e.2 hvj
          | some k =>
            have hvk : v.ownBlock = some k := by rw [← e.1]; exact hvj
            have hlt := h1.listsold j hj k hvj
            rcases h.place k hvk with hp1 | hp1
            · exact h1.lists.2 j i hj hi ej e.2 (by rw [hvj, hp1])
            · have := h.later.1; omega
      · refine own_kept (h1.lists.1 j hj) fun k hk hk2 => hblk k hk (fun hv => e ⟨by rw [hk2, hv], by rw [hk2]; simp⟩)
    · exact own_kept h1.out fun k hk hk2 => hblk k hk (own_own_ne h1.out hv1 (by decide) k hk2)
    · intro j hj
      refine own_kept (h1.grown j hj) fun k hk hk2 => hblk k hk (fun hv => ?_)
      have hkH := h.before j hj k hk2
      rcases h.place k hv with hp1 | hp1
      · rcases h1.far j hj k hk2 with hf | hf
        · exact h1.lists.2 i j hi (by omega) (by omega) (by rw [hp1]; simp) (by rw [hp1, hf])
        · have := h1.listsold i hi k hp1; omega
      · omega
    · refine h1.below.trans ⟨hg.os, hg.tape, hg.output, hg.size, fun k hk => hblk k (by have := h1.book.lt; have := h1.low; omega) (fun hv => ?_)⟩
      have := own_ge hv1 k hv; omega
  · rw [markL_add]
    simpa [ints] using hown
  · intro k hk
    rcases hp with hp | hp
    · rw [hp] at hk; exact h.place k hk
    · rw [hp] at hk
      injection hk with hk
      right
      have := h.later.2; omega
theorem linv_start {w0 wr : World} {B b m i : Nat} {F V G : Nat → Value} {N : Nat → Nat} {ov : Value} (hi : i < m) (h : GInv w0 wr B b F m V N i ov G) : LInv w0 wr B b F m V N i ov G wr.heap.size (V i) (N i) :=
  ⟨h, by have := h.lists.1 i hi; simpa [markL_len] using this, fun k hk => .inl hk, fun j hj k hk => own_lt (h.grown j hj) k hk, ⟨h.below.size, Nat.le_refl _⟩, Nat.le_refl _⟩

/-- The list, grown, goes into the table. -/
theorem linv_done {w0 w1 w2 : World} {B b m i H : Nat} {F V G : Nat → Value} {N : Nat → Nat} {ov ov' v : Value} (hi : i < m) (h : LInv w0 w1 B b F m V N i ov G H v (N i + 72))
    (ht : Table w2 B ov' (i + 1) (upd G i v)) (hsz : w1.heap.size ≤ w2.heap.size) (hk : ∀ k, k < w1.heap.size → ov.ownBlock ≠ some k → w2.heap[k]? = w1.heap[k]?) (hc : ov'.ownBlock = ov.ownBlock ∨ ov'.ownBlock = some (w1.heap.size + 1))
    (h1 : w2.os = w1.os) (h2 : w2.tape = w1.tape) (h3 : w2.output = w1.output) : GInv w0 w2 B b F m V N (i + 1) ov' (upd G i v) := by
  have g := h.inv
  have hw0 : w0.heap.size ≤ w1.heap.size := g.below.size
  have hint : ∀ (v : Value) (n : Nat) (xs : List Value), w1.ownsRow B 3 1 v n xs → w2.ownsRow B 3 1 v n xs := fun v n xs hv =>
    own_kept hv fun k hk1 hk2 => hk k hk1 (fun e => own_own_ne g.out hv (by decide) k e hk2)
  refine { g with book := ?_, tab := ?_, lists := ?_, out := ht, outnew := ?_, grown := ?_, far := ?_, below := ?_ }
  · exact g.book.kept (hk b g.book.lt (own_ne g.out g.book (by decide)))
  · exact own_kept g.tab fun k hk1 hk2 => hk k hk1 (fun e => by have := g.outnew k e; have := g.tabold k hk2; omega)
  · exact ⟨fun j hj => hint _ _ _ (g.lists.1 j hj), g.lists.2⟩
  · intro k hk2
    rcases hc with hc | hc
    · rw [hc] at hk2; exact g.outnew k hk2
    · rw [hc] at hk2; injection hk2 with hk2; omega
  · intro j hj
    by_cases e : j = i
    · subst e; rw [upd_same]; exact hint _ _ _ h.own
    · rw [upd_other _ _ e]; exact hint _ _ _ (g.grown j (by omega))
  · intro j hj k hk2
    by_cases e : j = i
    · subst e
      rw [upd_same] at hk2
      rcases h.place k hk2 with hp | hp
      · exact .inl hp
      · exact .inr (by have := h.later.1; omega)
    · rw [upd_other _ _ e] at hk2; exact g.far j (by omega) k hk2
  · refine g.below.trans ⟨h1, h2, h3, hsz, fun k hk1 => hk k (by have := g.book.lt; have := g.low; omega) (fun e => ?_)⟩
    have := own_ge g.out k e; omega
end Go.Proofs.Ytehpecjnldbaiaa
