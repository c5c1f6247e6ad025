/-
  Contract of money.Split: the steps of its loops.
-/
import Derived.Test.YtbjeikfekhgeoaaSplitMath
namespace Go.Proofs.Ytbjeikfekhgeoaa
open Go.RowKit

theorem share_le {W : Int} {l : List Int} (hall : l.all wt1 = true) (hs : 0 < l.sum) (hW : 0 ≤ W) (k : Nat) : shareOf W l k ≤ W := by
  have hx := wt1_at hall k
  have hle : l[k]?.getD 0 ≤ l.sum := by
    by_cases hk : k < l.length
    · have := sumTo_mono hall k l.length hk (Nat.le_refl _)
      rwa [sumTo_all (Nat.le_refl _)] at this
    · simp [hk]; omega
  have h1 : W * l[k]?.getD 0 ≤ W * l.sum := Int.mul_le_mul_of_nonneg_left hle hW
  unfold shareOf
  exact Int.ediv_le_of_le_mul hs h1
theorem part_bd {W : Int} {l : List Int} (hall : l.all wt1 = true) (hs : 0 < l.sum) (hW : 0 ≤ W) (S : Nat → Bool) (k : Nat) : 0 ≤ partOf W l S k ∧ partOf W l S k ≤ W + 1 := by
  have h1 := share_le hall hs hW k
  have h2 := share_nonneg hall hs hW k
  unfold partOf; split <;> omega

/-- Behind i pops: f's first n - i places are the heap, the others were taken. -/
def PopRel (W : Int) (l : List Int) (n s b : Nat) (w0 : World) (i : Nat) (wr : World) : Prop :=
  ∃ f S, HeapAt wr (s + 1) b (n - i) f ∧ Hp.Heap restLt (n - i) f ∧ Hp.Perm n (restOf W l) f ∧ (∀ k, k < n → (S k = true ↔ ∃ q, n - i ≤ q ∧ q < n ∧ f q = restOf W l k)) ∧
    Taken (restOf W l) n i S ∧ NRow 54 .u64 wr s n (partOf W l S) ∧ Below s w0 wr

theorem pop_best {W : Int} {l : List Int} {n m : Nat} {f : Nat → Int × Int} {S : Nat → Bool} (hm : m < n) (hh : Hp.Heap restLt (n - m) f) (hp : Hp.Perm n (restOf W l) f)
    (hS : ∀ k, k < n → (S k = true ↔ ∃ q, n - m ≤ q ∧ q < n ∧ f q = restOf W l k)) : ∃ b, f 0 = restOf W l b ∧ IsBest (restOf W l) n S b := by
  have hinj := hp.inj (fun i j _ _ h => restOf_inj W l h)
  obtain ⟨b, hb, e⟩ := (hp.mem (f 0)).1 ⟨0, by omega, rfl⟩
  refine ⟨b, e.symm, hb, ?_, fun j hj hSj => ?_⟩
  · cases hSb : S b
    · rfl
    · obtain ⟨q, h1, h2, h3⟩ := (hS b hb).1 hSb
      have := hinj q 0 h2 (by omega) (h3.trans e)
      omega
  · obtain ⟨q, hq, e2⟩ := (hp.mem (restOf W l j)).2 ⟨j, hj, rfl⟩
    rw [← e2, e]
    refine hh.root restOrd q ?_
    rcases Nat.lt_or_ge q (n - m) with h | h
    · exact h
    · have := (hS j hj).2 ⟨q, h, hq, e2⟩
      rw [hSj] at this; cases this

theorem pop_next {W : Int} {l : List Int} {n m b : Nat} {f f' : Nat → Int × Int} {S : Nat → Bool} (hm : m < n) (hp : Hp.Perm n (restOf W l) f)
    (hS : ∀ k, k < n → (S k = true ↔ ∃ q, n - m ≤ q ∧ q < n ∧ f q = restOf W l k)) (e : f 0 = restOf W l b)
    (hq : Hp.Perm (n - (m + 1) + 1) f f') (he : f' (n - (m + 1)) = f 0) :
    Hp.Perm n (restOf W l) f' ∧ ∀ k, k < n → ((S k || decide (k = b)) = true ↔ ∃ q, n - (m + 1) ≤ q ∧ q < n ∧ f' q = restOf W l k) := by
  have hz : n - (m + 1) + 1 = n - m := by omega
  rw [hz] at hq
  have hp' : Hp.Perm n (restOf W l) f' := hp.trans (hq.more (by omega))
  have hfar : ∀ q, n - m ≤ q → f' q = f q := by obtain ⟨_, _, _, _, h⟩ := hq; exact h
  refine ⟨hp', fun k hk => ?_⟩
  constructor
  · intro h
    simp at h
    rcases h with h | rfl
    · obtain ⟨q, h1, h2, h3⟩ := (hS k hk).1 h
      exact ⟨q, by omega, h2, (hfar q h1).trans h3⟩
    · exact ⟨n - (m + 1), Nat.le_refl _, by omega, he.trans e⟩
  · rintro ⟨q, h1, h2, h3⟩
    simp
    by_cases hq2 : n - m ≤ q
    · exact .inl ((hS k hk).2 ⟨q, hq2, h2, (hfar q hq2).symm.trans h3⟩)
    · have : q = n - (m + 1) := by omega
      subst this
      rw [he, e] at h3
      exact .inr (restOf_inj W l h3).symm

theorem pop_start {W : Int} {l : List Int} {n s : Nat} {w0 wr : World} {f : Nat → Int × Int} {A : Option Addr} {c : Nat} (hrow : NRow 54 .u64 wr s n (shareOf W l)) (hown : wr.ownsRow (s + 1) 66 2 (.slice A n c) n (flat f n))
    (hh : Hp.Heap restLt n f) (hp : Hp.Perm n (restOf W l) f) (hb : Below s w0 wr) : PopRel W l n s wr.heap.size w0 0 (wr.alloc (.cells #[.slice A n c] 62)) := by
  have hsl := hrow.lt
  refine ⟨f, fun _ => false, ⟨A, c, heap_new _ _, own_kept hown fun k hk _ => Below.heap_alloc _ _ _ hk, by omega⟩, hh, hp, fun k hk => ?_, rfl, ?_, hb.alloc (by omega) _⟩
  · simp; intro q h1 h2; omega
  · exact (hrow.kept (Below.heap_alloc _ _ _ hsl)).congr fun j _ => by simp [partOf]

theorem pop_step {W : Int} {l : List Int} {n s b m k : Nat} {w0 wr w2 : World} {f f' : Nat → Int × Int} {S : Nat → Bool} (hm : m < n)
    (hp : Hp.Perm n (restOf W l) f) (hS : ∀ k, k < n → (S k = true ↔ ∃ q, n - m ≤ q ∧ q < n ∧ f q = restOf W l k)) (hT : Taken (restOf W l) n m S) (hrow : NRow 54 .u64 wr s n (partOf W l S)) (hb0 : Below s w0 wr)
    (e : f 0 = restOf W l k) (hbest : IsBest (restOf W l) n S k)
    (hh2 : HeapAt w2 (s + 1) b (n - (m + 1)) f') (hp2 : Hp.Heap restLt (n - (m + 1)) f') (hq : Hp.Perm (n - (m + 1) + 1) f f') (he : f' (n - (m + 1)) = f 0) (hb2 : Below (s + 1) wr w2) :
    PopRel W l n s b w0 (m + 1) (w2.setCell ⟨s, k, none⟩ (.int .u64 (partOf W l S k + 1))) := by
  obtain ⟨h1, h2⟩ := pop_next hm hp hS e hq he
  refine ⟨f', fun j => S j || decide (j = k), hh2.kept fun j hj => Below.heap_setCell _ _ _ _ (by simp; omega), hp2, h1, h2, ⟨S, k, hT, hbest, rfl⟩, ?_, (hb0.trans (hb2.mono (by omega))).setCell (Nat.le_refl _) _⟩
  refine ((hrow.below hb2 (by omega)).set k (partOf W l S k + 1)).congr fun j hj => ?_
  by_cases ej : j = k
  · subst ej; simp [partOf, hbest.2.1]
  · simp [partOf, ej]
end Go.Proofs.Ytbjeikfekhgeoaa
