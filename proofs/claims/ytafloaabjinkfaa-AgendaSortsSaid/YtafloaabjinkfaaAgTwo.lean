/-
  Two agendas beside each other, and boxes beside them.
-/
import Derived.Test.YtafloaabjinkfaaAgAlive
namespace Go.Proofs.Ytafloaabjinkfaa
open Go.RowKit Go.Sort

/-- Two agendas made since w0, and boxes that are apart from them. -/
def TwoAg (w0 : World) (E : List (Nat × Obj)) (a b : Nat) (La Lb : List Itm) (w : World) : Prop :=
  ∃ va vb, AgAt w w0.heap.size a va La ∧ AgAt w w0.heap.size b vb Lb ∧ (∀ k, InAg b vb k → ¬ InAg a va k) ∧ (∀ p ∈ E, w.heap[p.1]? = some p.2 ∧ ¬ InAg a va p.1 ∧ ¬ InAg b vb p.1) ∧ Below w0.heap.size w0 w
section
variable {w0 w w' : World} {E : List (Nat × Obj)} {a b : Nat} {La Lb L' : List Itm}
theorem TwoAg.symm (h : TwoAg w0 E a b La Lb w) : TwoAg w0 E b a Lb La w := by
  obtain ⟨va, vb, h1, h2, h3, h4, h5⟩ := h
  exact ⟨vb, va, h2, h1, fun k hk hi => h3 k hi hk, fun p hp => ⟨(h4 p hp).1, (h4 p hp).2.2, (h4 p hp).2.1⟩, h5⟩
theorem TwoAg.step {va vb : Value} (h1 : AgAt w w0.heap.size a va La) (h2 : AgAt w w0.heap.size b vb Lb) (h3 : ∀ k, InAg b vb k → ¬ InAg a va k) (h4 : ∀ p ∈ E, w.heap[p.1]? = some p.2 ∧ ¬ InAg a va p.1 ∧ ¬ InAg b vb p.1) (h5 : Below w0.heap.size w0 w) (t : AgTo w w0.heap.size a va L' w') : TwoAg w0 E a b L' Lb w' := by
  have hb := t.bel h1 h5.size
  obtain ⟨k1, k2⟩ := AgAt.apart (L := La) h2 h3 t
  obtain ⟨v', t1, t2, t3⟩ := t
  refine ⟨v', vb, t1, k1, k2 v' t3, fun p hp => ?_, h5.trans hb⟩
  obtain ⟨e1, e2, e3⟩ := h4 p hp
  refine ⟨(t2.block _ (lt_of_blk e1) e2).trans e1, fun hi => ?_, e3⟩
  rcases hi with hi | hi
  · exact e2 (.inl hi)
  · rcases t3 _ hi with h | h
    · exact e2 (.inr h)
    · have := lt_of_blk e1; omega
theorem TwoAg.bel (h : TwoAg w0 E a b La Lb w) : Below w0.heap.size w0 w := by obtain ⟨_, _, _, _, _, _, h⟩ := h; exact h
theorem TwoAg.below (h : TwoAg w0 E a b La Lb w) (hb : Below w.heap.size w w') : TwoAg w0 E a b La Lb w' := by
  obtain ⟨va, vb, h1, h2, h3, h4, h5⟩ := h
  exact ⟨va, vb, h1.below hb, h2.below hb, h3, fun p hp => ⟨(hb.block _ (lt_of_blk (h4 p hp).1)).trans (h4 p hp).1, (h4 p hp).2⟩, h5.trans (hb.mono h5.size)⟩
theorem TwoAg.box (h : TwoAg w0 E a b La Lb w) (o : Obj) : TwoAg w0 ((w.heap.size, o) :: E) a b La Lb (w.alloc o) := by
  have hb : Below w.heap.size w (w.alloc o) := (Below.refl _ _).alloc (Nat.le_refl _) _
  obtain ⟨va, vb, h1, h2, h3, h4, h5⟩ := h
  refine ⟨va, vb, h1.below hb, h2.below hb, h3, fun p hp => ?_, h5.trans (hb.mono h5.size)⟩
  rcases List.mem_cons.1 hp with rfl | hp
  · exact ⟨heap_new w o, fun hi => Nat.lt_irrefl _ (h1.ltB _ hi), fun hi => Nat.lt_irrefl _ (h2.ltB _ hi)⟩
  · exact ⟨(hb.block _ (lt_of_blk (h4 p hp).1)).trans (h4 p hp).1, (h4 p hp).2⟩
theorem TwoAg.drop {p : Nat × Obj} (h : TwoAg w0 (p :: E) a b La Lb w) : TwoAg w0 E a b La Lb w := by
  obtain ⟨va, vb, h1, h2, h3, h4, h5⟩ := h
  exact ⟨va, vb, h1, h2, h3, fun q hq => h4 q (List.mem_cons_of_mem _ hq), h5⟩
theorem TwoAg.at (h : TwoAg w0 E a b La Lb w) {p : Nat × Obj} (hp : p ∈ E) : w.heap[p.1]? = some p.2 := by
  obtain ⟨va, vb, h1, h2, h3, h4, h5⟩ := h
  exact (h4 p hp).1
theorem TwoAg.next {x : Itm} {r : List Itm} (h : TwoAg w0 E a b (x :: r) Lb w) : Calls Try.prog 9 #[.pointer (some ⟨a, 0, none⟩)] w fun e w' => e = .returned (.tuple #[.agg #[.int .i64 x.per, .int .i64 x.rk, .int .i64 x.id], .bool true]) ∧ TwoAg w0 E a b r Lb w' := by
  obtain ⟨va, vb, h1, h2, h3, h4, h5⟩ := h
  exact (agNext_some h1).mono fun e w' ⟨he, t⟩ => ⟨he, TwoAg.step h1 h2 h3 h4 h5 t.to⟩
theorem TwoAg.nextNone (h : TwoAg w0 E a b [] Lb w) : Calls Try.prog 9 #[.pointer (some ⟨a, 0, none⟩)] w fun e w' => e = .returned (.tuple #[.agg #[.int .i64 0, .int .i64 0, .int .i64 0], .bool false]) ∧ TwoAg w0 E a b [] Lb w' := by
  have h0 := h
  obtain ⟨va, vb, h1, h2, h3, h4, h5⟩ := h
  exact (agNext_none h1).mono fun e w' ⟨he, t⟩ => ⟨he, h0.below t⟩
theorem TwoAg.len (h : TwoAg w0 E a b La Lb w) : Calls Try.prog 14 #[.pointer (some ⟨a, 0, none⟩)] w fun e w' => e = .returned (.int .i64 La.length) ∧ w = w' := by
  obtain ⟨va, vb, h1, h2, h3, h4, h5⟩ := h
  exact agLen_any h1
theorem TwoAg.put {A : Option Addr} {n c : Nat} {l : List Itm} (h : TwoAg w0 E a b La Lb w) (hR : Rd w w0.heap.size 3 A n (itms l)) (hn : n ≤ 1000000) (hnc : n ≤ c) : Calls Try.prog 8 #[.pointer (some ⟨a, 0, none⟩), .slice A n c] w fun e w' => e = .returned (.int .i64 (putsI La l).length) ∧ TwoAg w0 E a b (putsI La l) Lb w' := by
  obtain ⟨va, vb, h1, h2, h3, h4, h5⟩ := h
  refine (agPut_any l A n c _ _ a va La w h1 hR h5.size hn hnc ?_).mono fun e w' ⟨he, t⟩ => ⟨he, TwoAg.step h1 h2 h3 h4 h5 t⟩
  intro h0 ad e hi
  obtain ⟨ad', e', hlt, _⟩ := hR.2 h0
  rw [e] at e'
  injection e' with e'
  subst e'
  have := h1.ge _ hi
  omega
theorem TwoAg.putNew {x : Itm} {c : Nat} (h : TwoAg w0 E a b La Lb w) (hc : 1 ≤ c) : Calls Try.prog 8 #[.pointer (some ⟨a, 0, none⟩), .slice (some ⟨w.heap.size, 0, none⟩) 1 c] (w.alloc (.cells #[.int .i64 x.per, .int .i64 x.rk, .int .i64 x.id] 33)) fun e w' => e = .returned (.int .i64 (putsI La [x]).length) ∧ TwoAg w0 E a b (putsI La [x]) Lb w' := by
  obtain ⟨va, vb, h1, h2, h3, h4, h5⟩ := h
  exact (agPut_new [x] c _ a va La w h1 (by simp) hc).mono fun e w' ⟨he, t⟩ => ⟨he, TwoAg.step h1 h2 h3 h4 h5 t⟩
end
/-- Two new ones. -/
theorem two_new {w0 w : World} (hb : Below w0.heap.size w0 w) : TwoAg w0 [] w.heap.size (w.heap.size + 1) [] [] ((w.alloc (.cells #[.slice none 0 0] 28)).alloc (.cells #[.slice none 0 0] 28)) := by
  have h1 := (ag_new w).base hb.size
  have h2 := (ag_new (w.alloc (.cells #[.slice none 0 0] 28))).base (B' := w0.heap.size) (by have := hb.size; simp; omega)
  have e : (w.alloc (.cells #[.slice none 0 0] 28)).heap.size = w.heap.size + 1 := by simp
  rw [e] at h2
  refine ⟨_, _, h1.below ((Below.refl _ _).alloc (Nat.le_refl _) _), h2, fun k hk hi => ?_, fun p hp => by simp at hp, (hb.alloc hb.size _).alloc (by have := hb.size; simp; omega) _⟩
  rcases hk with rfl | hk
  · rcases hi with hi | hi
    · omega
    · cases hi
  · cases hk
end Go.Proofs.Ytafloaabjinkfaa
