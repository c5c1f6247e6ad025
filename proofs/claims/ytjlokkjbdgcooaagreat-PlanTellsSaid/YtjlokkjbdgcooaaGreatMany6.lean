/-
  Several texts, one behind the other: what each holds stands ahead of it.
-/
import Derived.Test.YtjlokkjbdgcooaaGreatMany5

/-
  Plain mathematics of splitting: shares, what is left, and who is given one more: step by step the least of those that were not given one yet.
-/
namespace Go.Proofs.YtjlokkjbdgcooaaGreat.Mo

/-- The sum of the first n shares. -/
def sumN (f : Nat → Int) : Nat → Int
  | 0 => 0
  | n + 1 => sumN f n + f n

theorem sumN_add (f g : Nat → Int) : ∀ n, sumN (fun k => f k + g k) n = sumN f n + sumN g n
  | 0 => rfl
  | n + 1 => by simp only [sumN, sumN_add f g n]; omega
theorem sumN_congr {f g : Nat → Int} : ∀ {n : Nat}, (∀ k, k < n → f k = g k) → sumN f n = sumN g n
  | 0, _ => rfl
  | n + 1, h => by simp only [sumN]; rw [sumN_congr fun k hk => h k (by omega), h n (by omega)]
theorem sumN_mul (c : Int) (f : Nat → Int) : ∀ n, sumN (fun k => c * f k) n = c * sumN f n
  | 0 => by simp [sumN]
  | n + 1 => by simp only [sumN, sumN_mul c f n, Int.mul_add]
theorem sumN_le {f g : Nat → Int} : ∀ {n : Nat}, (∀ k, k < n → f k ≤ g k) → sumN f n ≤ sumN g n
  | 0, _ => Int.le_refl _
  | n + 1, h => by
    have h1 := sumN_le (f := f) (g := g) (n := n) fun k hk => h k (by omega)
    have h2 := h n (by omega)
    simp only [sumN]; omega
theorem sumN_const (c : Int) : ∀ n : Nat, sumN (fun _ => c) n = c * n
  | 0 => by simp [sumN]
  | n + 1 => by
    have := sumN_const c n
    simp only [sumN, this]
    rw [Int.natCast_add, Int.mul_add]; omega
theorem sumN_nonneg {f : Nat → Int} {n : Nat} (h : ∀ k, k < n → 0 ≤ f k) : 0 ≤ sumN f n := by
  have := sumN_le (f := fun _ => 0) (g := f) (n := n) h
  rw [sumN_const] at this; omega
theorem sumN_one {b : Nat} : ∀ {n : Nat}, b < n → sumN (fun k => if k = b then 1 else 0) n = 1
  | n + 1, h => by
    simp only [sumN]
    by_cases e : b = n
    · subst e
      have : sumN (fun k => if k = b then (1 : Int) else 0) b = sumN (fun _ => 0) b := sumN_congr fun k hk => by rw [if_neg (by omega)]
      rw [this, sumN_const]; simp
    · rw [sumN_one (by omega), if_neg (fun h => e h.symm)]; omega
theorem sumTo_eq_sumN (l : List Int) : ∀ n, n ≤ l.length → sumTo l n = sumN (fun k => l[k]?.getD 0) n
  | 0, _ => by rw [sumTo_zero]; rfl
  | n + 1, h => by rw [sumTo_succ (by omega), sumTo_eq_sumN l n (by omega)]; rfl

def leftOf (W : Int) (l : List Int) (n : Nat) : Int := W - sumN (shareOf W l) n

theorem share_nonneg {W : Int} {l : List Int} (hall : l.all wt1 = true) (hs : 0 < l.sum) (hW : 0 ≤ W) (k : Nat) : 0 ≤ shareOf W l k := Int.ediv_nonneg (Int.mul_nonneg hW (wt1_at hall k).1) (by omega)
theorem rest_bd {W : Int} {l : List Int} (hs : 0 < l.sum) (k : Nat) : 0 ≤ (restOf W l k).2 ∧ (restOf W l k).2 < l.sum := ⟨Int.emod_nonneg _ (by omega), Int.emod_lt_of_pos _ hs⟩
theorem share_rest {W : Int} {l : List Int} (k : Nat) : l.sum * shareOf W l k + (restOf W l k).2 = W * l[k]?.getD 0 := Int.mul_ediv_add_emod _ _
/-- What was cut off, all of it, is what is left by the sum of the weights. -/
theorem left_rests {W : Int} {l : List Int} : l.sum * leftOf W l l.length = sumN (fun k => (restOf W l k).2) l.length := by
  have h1 : sumN (fun k => l.sum * shareOf W l k + (restOf W l k).2) l.length = sumN (fun k => W * l[k]?.getD 0) l.length := sumN_congr fun k _ => share_rest k
  rw [sumN_add, sumN_mul, sumN_mul, ← sumTo_eq_sumN l _ (Nat.le_refl _), sumTo_all (Nat.le_refl _)] at h1
  unfold leftOf
  rw [Int.mul_sub, Int.mul_comm l.sum W]
  omega
theorem left_bd {W : Int} {l : List Int} (hall : l.all wt1 = true) (hs : 0 < l.sum) (_hW : 0 ≤ W) : 0 ≤ leftOf W l l.length ∧ leftOf W l l.length < l.length := by
  have h := left_rests (W := W) (l := l)
  have h0 : 0 ≤ sumN (fun k => (restOf W l k).2) l.length := sumN_nonneg fun k _ => (rest_bd hs k).1
  have h1 : sumN (fun k => (restOf W l k).2 + 1) l.length ≤ sumN (fun _ => l.sum) l.length := sumN_le fun k _ => by have := (rest_bd (W := W) hs k).2; omega
  rw [sumN_const, sumN_add, sumN_const] at h1
  have hl : 0 < (l.length : Int) := by
    rcases l with _ | ⟨x, r⟩
    · simp at hs
    · simp
  constructor
  · rcases Int.lt_or_le (leftOf W l l.length) 0 with h2 | h2
    · have : l.sum * leftOf W l l.length ≤ l.sum * (-1) := Int.mul_le_mul_of_nonneg_left (by omega) (by omega)
      omega
    · exact h2
  · rcases Int.lt_or_le (leftOf W l l.length) l.length with h2 | h2
    · exact h2
    · have : l.sum * l.length ≤ l.sum * leftOf W l l.length := Int.mul_le_mul_of_nonneg_left h2 (by omega)
      omega
theorem shares_le {W : Int} {l : List Int} (hall : l.all wt1 = true) (hs : 0 < l.sum) (hW : 0 ≤ W) (k : Nat) (hk : k ≤ l.length) : sumN (shareOf W l) k ≤ W := by
  have h := (left_bd hall hs hW).1
  unfold leftOf at h
  have : ∀ m, sumN (shareOf W l) k ≤ sumN (shareOf W l) (k + m) := by
    intro m
    induction m with
    | zero => exact Int.le_refl _
    | succ m ih =>
      have := share_nonneg hall hs hW (k + m)
      have e : sumN (shareOf W l) (k + (m + 1)) = sumN (shareOf W l) (k + m) + shareOf W l (k + m) := rfl
      omega
  have h2 := this (l.length - k)
  rw [show k + (l.length - k) = l.length from by omega] at h2
  omega

/-- b is the least of those that S has not. -/
def IsBest (base : Nat → Int × Int) (n : Nat) (S : Nat → Bool) (b : Nat) : Prop :=
  b < n ∧ S b = false ∧ ∀ j, j < n → S j = false → restLt (base j) (base b) = false
/-- S is what i steps have taken. -/
def Taken (base : Nat → Int × Int) (n : Nat) : Nat → (Nat → Bool) → Prop
  | 0, S => S = fun _ => false
  | i + 1, S => ∃ S0 b, Taken base n i S0 ∧ IsBest base n S0 b ∧ S = fun k => S0 k || decide (k = b)

theorem restLt_total {a b : Int × Int} (h1 : restLt a b = false) (h2 : restLt b a = false) : a = b := by
  simp [restLt] at h1 h2
  obtain ⟨a1, a2⟩ := a
  obtain ⟨b1, b2⟩ := b
  simp at *
  omega
theorem restOf_inj (W : Int) (l : List Int) {i j : Nat} (h : restOf W l i = restOf W l j) : i = j := by
  simp [restOf] at h; omega
theorem best_unique {base : Nat → Int × Int} {n : Nat} {S : Nat → Bool} {b c : Nat} (hi : ∀ i j, base i = base j → i = j) (hb : IsBest base n S b) (hc : IsBest base n S c) : b = c :=
  hi _ _ (restLt_total (hc.2.2 b hb.1 hb.2.1) (hb.2.2 c hc.1 hc.2.1))
theorem taken_unique {base : Nat → Int × Int} {n : Nat} (hi : ∀ i j, base i = base j → i = j) : ∀ {i : Nat} {S T : Nat → Bool}, Taken base n i S → Taken base n i T → S = T
  | 0, S, T, h, k => by rw [show S = _ from h, show T = _ from k]
  | i + 1, S, T, h, k => by
    obtain ⟨S0, b, h1, h2, rfl⟩ := h
    obtain ⟨T0, c, k1, k2, rfl⟩ := k
    have e := taken_unique hi h1 k1
    subst e
    rw [best_unique hi h2 k2]
theorem taken_count {base : Nat → Int × Int} {n : Nat} : ∀ {i : Nat} {S : Nat → Bool}, Taken base n i S → sumN (fun k => if S k then 1 else 0) n = i
  | 0, S, h => by
    rw [show S = _ from h]
    have := sumN_const 0 n
    simpa using this
  | i + 1, S, h => by
    obtain ⟨S0, b, h1, h2, rfl⟩ := h
    have := taken_count h1
    have e : sumN (fun k => if (S0 k || decide (k = b)) = true then (1 : Int) else 0) n = sumN (fun k => (if S0 k then 1 else 0) + if k = b then 1 else 0) n :=
      sumN_congr fun k _ => by
        by_cases hb : k = b
        · subst hb; simp [h2.2.1]
        · simp [hb]
    rw [e, sumN_add, this, sumN_one h2.1]
    simp
/-- Who was taken is ahead of who was not. -/
theorem taken_ahead {base : Nat → Int × Int} {n : Nat} (hi : ∀ i j, base i = base j → i = j) : ∀ {i : Nat} {S : Nat → Bool}, Taken base n i S → ∀ k j, k < n → j < n → S k = true → S j = false → restLt (base k) (base j) = true
  | 0, S, h, k, j, _, _, h1, _ => by rw [show S = _ from h] at h1; cases h1
  | i + 1, S, h, k, j, hk, hj, h1, h2 => by
    obtain ⟨S0, b, h3, h4, rfl⟩ := h
    simp at h1 h2
    rcases h1 with h1 | rfl
    · exact taken_ahead hi h3 k j hk hj h1 h2.1
    · cases e : restLt (base k) (base j)
      · exact absurd (hi _ _ (restLt_total (h4.2.2 j hj h2.1) e)) h2.2
      · rfl
def partOf (W : Int) (l : List Int) (S : Nat → Bool) (k : Nat) : Int := shareOf W l k + if S k then 1 else 0
end Go.Proofs.YtjlokkjbdgcooaaGreat.Mo

/-
  Contract of money.Split: the steps of its loops.
-/
namespace Go.Proofs.YtjlokkjbdgcooaaGreat.Mo
open Go.RowKit

theorem share_le {W : Int} {l : List Int} (hall : l.all wt1 = true) (hs : 0 < l.sum) (hW : 0 ≤ W) (k : Nat) : shareOf W l k ≤ W := by
  have hx := wt1_at hall k
  have hle : l[k]?.getD 0 ≤ l.sum := by
    by_cases hk : k < l.length
    · have := sumTo_mono hall k l.length hk (Nat.le_refl _)
      rwa [sumTo_all (Nat.le_refl _)] at this
    · simp [hk]; omega
  have h1 : W * l[k]?.getD 0 ≤ W * l.sum := Int.mul_le_mul_of_nonneg_left hle hW
  unfold shareOf
  exact Int.ediv_le_of_le_mul hs h1
theorem part_bd {W : Int} {l : List Int} (hall : l.all wt1 = true) (hs : 0 < l.sum) (hW : 0 ≤ W) (S : Nat → Bool) (k : Nat) : 0 ≤ partOf W l S k ∧ partOf W l S k ≤ W + 1 := by
  have h1 := share_le hall hs hW k
  have h2 := share_nonneg hall hs hW k
  unfold partOf; split <;> omega

/-- Behind i pops: f's first n - i places are the heap, the others were taken. -/
def PopRel (W : Int) (l : List Int) (n s b : Nat) (w0 : World) (i : Nat) (wr : World) : Prop :=
  ∃ f S, HeapAt wr (s + 1) b (n - i) f ∧ Hp.Heap restLt (n - i) f ∧ Hp.Perm n (restOf W l) f ∧ (∀ k, k < n → (S k = true ↔ ∃ q, n - i ≤ q ∧ q < n ∧ f q = restOf W l k)) ∧
    Taken (restOf W l) n i S ∧ NRow 239 .u64 wr s n (partOf W l S) ∧ Below s w0 wr

theorem pop_best {W : Int} {l : List Int} {n m : Nat} {f : Nat → Int × Int} {S : Nat → Bool} (hm : m < n) (hh : Hp.Heap restLt (n - m) f) (hp : Hp.Perm n (restOf W l) f)
    (hS : ∀ k, k < n → (S k = true ↔ ∃ q, n - m ≤ q ∧ q < n ∧ f q = restOf W l k)) : ∃ b, f 0 = restOf W l b ∧ IsBest (restOf W l) n S b := by
  have hinj := hp.inj (fun i j _ _ h => restOf_inj W l h)
  obtain ⟨b, hb, e⟩ := (hp.mem (f 0)).1 ⟨0, by omega, rfl⟩
  refine ⟨b, e.symm, hb, ?_, fun j hj hSj => ?_⟩
  · cases hSb : S b
    · rfl
    · obtain ⟨q, h1, h2, h3⟩ := (hS b hb).1 hSb
      have := hinj q 0 h2 (by omega) (h3.trans e)
      omega
  · obtain ⟨q, hq, e2⟩ := (hp.mem (restOf W l j)).2 ⟨j, hj, rfl⟩
    rw [← e2, e]
    refine hh.root restOrd q ?_
    rcases Nat.lt_or_ge q (n - m) with h | h
    · exact h
    · have := (hS j hj).2 ⟨q, h, hq, e2⟩
      rw [hSj] at this; cases this

theorem pop_next {W : Int} {l : List Int} {n m b : Nat} {f f' : Nat → Int × Int} {S : Nat → Bool} (hm : m < n) (hp : Hp.Perm n (restOf W l) f)
    (hS : ∀ k, k < n → (S k = true ↔ ∃ q, n - m ≤ q ∧ q < n ∧ f q = restOf W l k)) (e : f 0 = restOf W l b)
    (hq : Hp.Perm (n - (m + 1) + 1) f f') (he : f' (n - (m + 1)) = f 0) :
    Hp.Perm n (restOf W l) f' ∧ ∀ k, k < n → ((S k || decide (k = b)) = true ↔ ∃ q, n - (m + 1) ≤ q ∧ q < n ∧ f' q = restOf W l k) := by
  have hz : n - (m + 1) + 1 = n - m := by omega
  rw [hz] at hq
  have hp' : Hp.Perm n (restOf W l) f' := hp.trans (hq.more (by omega))
  have hfar : ∀ q, n - m ≤ q → f' q = f q := by obtain ⟨_, _, _, _, h⟩ := hq; exact h
  refine ⟨hp', fun k hk => ?_⟩
  constructor
  · intro h
    simp at h
    rcases h with h | rfl
    · obtain ⟨q, h1, h2, h3⟩ := (hS k hk).1 h
      exact ⟨q, by omega, h2, (hfar q h1).trans h3⟩
    · exact ⟨n - (m + 1), Nat.le_refl _, by omega, he.trans e⟩
  · rintro ⟨q, h1, h2, h3⟩
    simp
    by_cases hq2 : n - m ≤ q
    · exact .inl ((hS k hk).2 ⟨q, hq2, h2, (hfar q hq2).symm.trans h3⟩)
    · have : q = n - (m + 1) := by omega
      subst this
      rw [he, e] at h3
      exact .inr (restOf_inj W l h3).symm

theorem pop_start {W : Int} {l : List Int} {n s : Nat} {w0 wr : World} {f : Nat → Int × Int} {A : Option Addr} {c : Nat} (hrow : NRow 239 .u64 wr s n (shareOf W l)) (hown : wr.ownsRow (s + 1) 293 2 (.slice A n c) n (flat f n))
    (hh : Hp.Heap restLt n f) (hp : Hp.Perm n (restOf W l) f) (hb : Below s w0 wr) : PopRel W l n s wr.heap.size w0 0 (wr.alloc (.cells #[.slice A n c] 289)) := by
  have hsl := hrow.lt
  refine ⟨f, fun _ => false, ⟨A, c, heap_new _ _, own_kept hown fun k hk _ => Below.heap_alloc _ _ _ hk, by omega⟩, hh, hp, fun k hk => ?_, rfl, ?_, hb.alloc (by omega) _⟩
  · simp; intro q h1 h2; omega
  · exact (hrow.kept (Below.heap_alloc _ _ _ hsl)).congr fun j _ => by simp [partOf]

theorem pop_step {W : Int} {l : List Int} {n s b m k : Nat} {w0 wr w2 : World} {f f' : Nat → Int × Int} {S : Nat → Bool} (hm : m < n)
    (hp : Hp.Perm n (restOf W l) f) (hS : ∀ k, k < n → (S k = true ↔ ∃ q, n - m ≤ q ∧ q < n ∧ f q = restOf W l k)) (hT : Taken (restOf W l) n m S) (hrow : NRow 239 .u64 wr s n (partOf W l S)) (hb0 : Below s w0 wr)
    (e : f 0 = restOf W l k) (hbest : IsBest (restOf W l) n S k)
    (hh2 : HeapAt w2 (s + 1) b (n - (m + 1)) f') (hp2 : Hp.Heap restLt (n - (m + 1)) f') (hq : Hp.Perm (n - (m + 1) + 1) f f') (he : f' (n - (m + 1)) = f 0) (hb2 : Below (s + 1) wr w2) :
    PopRel W l n s b w0 (m + 1) (w2.setCell ⟨s, k, none⟩ (.int .u64 (partOf W l S k + 1))) := by
  obtain ⟨h1, h2⟩ := pop_next hm hp hS e hq he
  refine ⟨f', fun j => S j || decide (j = k), hh2.kept fun j hj => Below.heap_setCell _ _ _ _ (by simp; omega), hp2, h1, h2, ⟨S, k, hT, hbest, rfl⟩, ?_, (hb0.trans (hb2.mono (by omega))).setCell (Nat.le_refl _) _⟩
  refine ((hrow.below hb2 (by omega)).set k (partOf W l S k + 1)).congr fun j hj => ?_
  by_cases ej : j = k
  · subst ej; simp [partOf, hbest.2.1]
  · simp [partOf, ej]
end Go.Proofs.YtjlokkjbdgcooaaGreat.Mo
