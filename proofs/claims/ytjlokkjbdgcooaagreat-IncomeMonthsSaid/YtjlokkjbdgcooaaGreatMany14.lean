/-
  Several texts, one behind the other: what each holds stands ahead of it.
-/
import Derived.Test.YtjlokkjbdgcooaaGreatMany13
import Derived.Test.YtjlokkjbdgcooaaGreatMany3
import Derived.BigQuiet

/-
  Contract of trial's countOfFirst.
-/
namespace Go.Proofs.YtjlokkjbdgcooaaGreat
open Go.RowKit

/-- How many at a list's start are of the first one's account. -/
structure CntOf (l : List Bal) (k : Nat) : Prop where
  le : k ≤ l.length
  pos : 1 ≤ k
  same : ∀ (i : Nat) (x y : Bal), i < k → l[i]? = some x → l[0]? = some y → x.acct = y.acct
  other : ∀ x y, l[k]? = some x → l[0]? = some y → x.acct ≠ y.acct
theorem addr_zero (a : Addr) : a.add 0 = a := by unfold Addr.add; rw [if_pos rfl]
set_option maxRecDepth 100000 in
set_option maxHeartbeats 2000000 in
theorem count_any (l : List Bal) (A : Option Addr) (n c B : Nat) (w : World) (h : Rd w B 2 A n (bals l)) (hB : B ≤ w.heap.size) (hn : 0 < n) (hm : n ≤ 1000000) :
    Calls Tryz.prog 173 #[.slice A n c] w fun e w' => ∃ k, CntOf l k ∧ e = .returned (.int .i64 (k : Nat)) ∧ Below w.heap.size w w' := by
  have hl := h.bals_len
  have HL := Lib.hid hl
  obtain ⟨ad, x0, rfl, hb0, hx0, z0, _⟩ := h.bal hn
  simp only [Nat.zero_mul, addr_zero] at z0
  have HR := Lib.hid (fun w1 (h1 : Below w.heap.size w w1) => h.far h1 hB)
  have HZ := Lib.hid (fun w1 (h1 : Below w.heap.size w w1) => (h1.cell (p := ad) (by omega)).trans z0)
  have HX0 := Lib.hid hx0
  clear h hl z0 hx0
  go_enter Tryz.func173, Tryz.ntmps173
  go_wp2_with fail
  go_loopw [3] (fun iv wr => ∃ k : Nat, k ≤ n ∧ iv = .int .i64 k ∧ (∀ (i : Nat) (x : Bal), i < k → l[i]? = some x → x.acct = x0.acct) ∧ Below w.heap.size w wr) (fun iv _ => n - (intOf iv).toNat)
  case atStart => exact ⟨0, Nat.zero_le _, rfl, fun i x hi _ => absurd hi (Nat.not_lt_zero _), Below.refl _ _⟩
  case round =>
    obtain ⟨k, hk, rfl, hsm, hbel⟩ := hrel
    have HSM := Lib.hid hsm; have HBEL := Lib.hid hbel
    have q0 := HZ.out wr hbel
    by_cases hlt : k < n
    · obtain ⟨ad', x, hA', _, hx, p0, _⟩ := (HR.out wr hbel).bal hlt
      injection hA' with hA'
      subst hA'
      have hkd : decide (k < n) = true := decide_eq_true hlt
      have hkI : (k : Int) < (n : Int) := by omega
      have hnI : (0 : Int) < (n : Int) := by omega
      have HX := Lib.hid hx
      clear hsm hbel hx
      by_cases he : x.acct = x0.acct
      · have hd : (x.acct == x0.acct) = true := beq_iff_eq.2 he
        have HE := Lib.hid he
        clear he
        go_wp2_with fail
        go_big_quiet (fail)
        go_wp2_with fail
        refine ⟨⟨k + 1, by omega, by go_num, fun i y hi hy => ?_, below_drewN HBEL.out _⟩, by simp [intOf]; omega⟩
        by_cases hik : i < k
        · exact HSM.out i y hik hy
        · obtain rfl : i = k := by omega
          have := HX.out.symm.trans hy
          injection this with this
          rw [← this]
          exact HE.out
      · have hd : (x.acct == x0.acct) = false := beq_eq_false_iff_ne.2 he
        have HE := Lib.hid he
        clear he
        go_wp2_with fail
        go_big_quiet (fail)
        go_wp2_with fail
        go_ret
        refine ⟨k, ⟨by rw [HL.out]; exact hk, ?_, fun i x y hi hx hy => ?_, fun y z hy hz => ?_⟩, rfl, below_drewN HBEL.out _⟩
        · rcases Nat.eq_zero_or_pos k with h0 | h0
          · subst h0
            have := HX.out.symm.trans HX0.out
            injection this with this
            exact absurd (congrArg Bal.acct this) HE.out
          · exact h0
        · rw [HX0.out] at hy
          injection hy with hy
          rw [← hy]
          exact HSM.out i x hi hx
        · rw [HX0.out] at hz
          rw [HX.out] at hy
          injection hz with hz
          injection hy with hy
          rw [← hz, ← hy]
          exact HE.out
    · have hkn : k = n := by omega
      have hkd : decide (k < n) = false := decide_eq_false hlt
      have HKN := Lib.hid hkn
      clear hsm hbel hkn
      go_wp2_with fail
      go_big_quiet (fail)
      go_wp2_with fail
      go_ret
      refine ⟨k, ⟨by rw [HL.out]; exact hk, by have := HKN.out; omega, fun i x y hi hx hy => ?_, fun y z hy _ => ?_⟩, rfl, below_drewN HBEL.out _⟩
      · rw [HX0.out] at hy
        injection hy with hy
        rw [← hy]
        exact HSM.out i x hi hx
      · rw [List.getElem?_eq_none (by rw [HL.out, HKN.out]; omega)] at hy
        cases hy
end Go.Proofs.YtjlokkjbdgcooaaGreat

/-
  Plain mathematics of binary heaps over functions on the naturals: what 'up' and 'down' keep, and that the root is the least.
-/
namespace Go.Proofs.YtjlokkjbdgcooaaGreat
namespace Hp
variable {α : Type}

def swap (f : Nat → α) (i j : Nat) : Nat → α := fun k => if k = i then f j else if k = j then f i else f k

theorem swap_l (f : Nat → α) (i j : Nat) : swap f i j i = f j := by simp [swap]
theorem swap_r (f : Nat → α) (i j : Nat) : swap f i j j = f i := by
  unfold swap; split
  · rename_i h; rw [h]
  · simp
theorem swap_o (f : Nat → α) (i j k : Nat) (h1 : k ≠ i) (h2 : k ≠ j) : swap f i j k = f k := by simp [swap, h1, h2]

/-- g is f with its first n places in another order. -/
def Perm (n : Nat) (f g : Nat → α) : Prop :=
  ∃ s t : Nat → Nat, (∀ k, k < n → s k < n ∧ t k < n ∧ s (t k) = k ∧ t (s k) = k) ∧ (∀ k, k < n → g k = f (s k)) ∧ ∀ k, n ≤ k → g k = f k

theorem Perm.refl (n : Nat) (f : Nat → α) : Perm n f f := ⟨id, id, fun _k h => ⟨h, h, rfl, rfl⟩, fun _ _ => rfl, fun _ _ => rfl⟩
theorem Perm.trans {n : Nat} {f g h : Nat → α} (a : Perm n f g) (b : Perm n g h) : Perm n f h := by
  obtain ⟨s, t, h1, h2, h3⟩ := a
  obtain ⟨u, v, k1, k2, k3⟩ := b
  refine ⟨fun k => s (u k), fun k => v (t k), fun k hk => ?_, fun k hk => ?_, fun k hk => (k3 k hk).trans (h3 k hk)⟩
  · obtain ⟨a1, a2, a3, a4⟩ := h1 k hk
    obtain ⟨b1, b2, b3, b4⟩ := k1 k hk
    obtain ⟨c1, c2, c3, c4⟩ := h1 _ b1
    obtain ⟨d1, d2, d3, d4⟩ := k1 _ a2
    exact ⟨c1, d2, by show s (u (v (t k))) = k; rw [d3, a3], by show v (t (s (u k))) = k; rw [c4, b4]⟩
  · obtain ⟨b1, _⟩ := k1 k hk
    rw [k2 k hk, h2 _ b1]
theorem Perm.swap_ {n : Nat} (f : Nat → α) {i j : Nat} (hi : i < n) (hj : j < n) : Perm n f (swap f i j) := by
  refine ⟨fun k => if k = i then j else if k = j then i else k, fun k => if k = i then j else if k = j then i else k, fun k hk => ?_, fun k hk => ?_, fun k hk => swap_o f i j k (by omega) (by omega)⟩
  · refine ⟨?_, ?_, ?_, ?_⟩ <;> dsimp only <;> (repeat' split) <;> omega
  · simp only [swap]; (repeat' split) <;> rfl
theorem Perm.mem {n : Nat} {f g : Nat → α} (a : Perm n f g) (x : α) : (∃ k, k < n ∧ g k = x) ↔ ∃ k, k < n ∧ f k = x := by
  obtain ⟨s, t, h1, h2, _⟩ := a
  constructor
  · rintro ⟨k, hk, rfl⟩
    exact ⟨s k, (h1 k hk).1, (h2 k hk).symm⟩
  · rintro ⟨k, hk, rfl⟩
    obtain ⟨a1, a2, a3, a4⟩ := h1 k hk
    exact ⟨t k, a2, by rw [h2 _ a2, a3]⟩
theorem Perm.inj {n : Nat} {f g : Nat → α} (a : Perm n f g) (h : ∀ i j, i < n → j < n → f i = f j → i = j) : ∀ i j, i < n → j < n → g i = g j → i = j := by
  obtain ⟨s, t, h1, h2, _⟩ := a
  intro i j hi hj e
  rw [h2 i hi, h2 j hj] at e
  have := h _ _ (h1 i hi).1 (h1 j hj).1 e
  have h4 := (h1 i hi).2.2.2
  rw [this, (h1 j hj).2.2.2] at h4
  exact h4.symm
theorem Perm.more {n m : Nat} {f g : Nat → α} (a : Perm n f g) (h : n ≤ m) : Perm m f g := by
  obtain ⟨s, t, h1, h2, h3⟩ := a
  refine ⟨fun k => if k < n then s k else k, fun k => if k < n then t k else k, fun k hk => ?_, fun k hk => ?_, fun k hk => h3 k (by omega)⟩
  · by_cases hn : k < n
    · obtain ⟨a1, a2, a3, a4⟩ := h1 k hn
      simp only [hn, a1, a2, if_true]
      exact ⟨by omega, by omega, a3, a4⟩
    · simp only [hn, if_false]; exact ⟨hk, hk, trivial, trivial⟩
  · by_cases hn : k < n
    · simp only [hn, if_true]; exact h2 k hn
    · simp only [hn, if_false]; exact h3 k (by omega)

/-- A strict order of which 'not less' is transitive. -/
structure Ord (lt : α → α → Bool) : Prop where
  irr : ∀ a, lt a a = false
  asym : ∀ a b, lt a b = true → lt b a = false
  neg : ∀ a b c, lt a b = false → lt b c = false → lt a c = false

def Heap (lt : α → α → Bool) (n : Nat) (f : Nat → α) : Prop := ∀ k, 0 < k → k < n → lt (f k) (f ((k - 1) / 2)) = false

theorem Heap.root {lt : α → α → Bool} (o : Ord lt) {n : Nat} {f : Nat → α} (h : Heap lt n f) : ∀ k, k < n → lt (f k) (f 0) = false := by
  intro k
  induction k using Nat.strongRecOn with
  | _ k ih =>
    intro hk
    by_cases h0 : k = 0
    · subst h0; exact o.irr _
    · exact o.neg _ _ _ (h k (by omega) hk) (ih ((k - 1) / 2) (by omega) (by omega))

/-- 'up' at j: all are in order but j may be less than its parent; what is below j is not less than j's parent. -/
def Up (lt : α → α → Bool) (n j : Nat) (f : Nat → α) : Prop :=
  (∀ k, 0 < k → k < n → k ≠ j → lt (f k) (f ((k - 1) / 2)) = false) ∧ ∀ k, 0 < k → k < n → (k - 1) / 2 = j → 0 < j → lt (f k) (f ((j - 1) / 2)) = false

theorem Up.start {lt : α → α → Bool} {n : Nat} {f : Nat → α} (h : Heap lt n f) : Up lt (n + 1) n f :=
  ⟨fun k h0 hk hn => h k h0 (by omega), fun k h0 hk hp _ => by omega⟩
theorem Up.done {lt : α → α → Bool} {n j : Nat} {f : Nat → α} (h : Up lt n j f) (hj : j = 0 ∨ lt (f j) (f ((j - 1) / 2)) = false) : Heap lt n f := by
  intro k h0 hk
  by_cases e : k = j
  · subst e
    rcases hj with hj | hj
    · omega
    · exact hj
  · exact h.1 k h0 hk e
theorem Up.step {lt : α → α → Bool} (o : Ord lt) {n j : Nat} {f : Nat → α} (h : Up lt n j f) (hj0 : 0 < j) (hj : j < n) (hl : lt (f j) (f ((j - 1) / 2)) = true) :
    Up lt n ((j - 1) / 2) (swap f ((j - 1) / 2) j) := by
  obtain ⟨h1, h2⟩ := h
  generalize hi : (j - 1) / 2 = i at *
  have hij : i < j := by omega
  have hij' := o.asym _ _ hl
  refine ⟨fun k h0 hk hki => ?_, fun k h0 hk hp hi0 => ?_⟩
  · by_cases hkj : k = j
    · subst hkj
      rw [hi, swap_l, swap_r]
      exact hij'
    · rw [swap_o f i j k hki hkj]
      by_cases hpj : (k - 1) / 2 = j
      · rw [hpj, swap_r]
        exact h2 k h0 hk hpj hj0
      · by_cases hpi : (k - 1) / 2 = i
        · rw [hpi, swap_l]
          have := h1 k h0 hk hkj
          rw [hpi] at this
          exact o.neg _ _ _ this hij'
        · rw [swap_o f i j _ hpi hpj]
          exact h1 k h0 hk hkj
  · have hpi : (i - 1) / 2 ≠ i := by omega
    have hpj : (i - 1) / 2 ≠ j := by omega
    rw [swap_o f i j _ hpi hpj]
    have hi1 := h1 i hi0 (by omega) (by omega)
    by_cases hkj : k = j
    · subst hkj
      rw [swap_r]; exact hi1
    · rw [swap_o f i j k (by omega) hkj]
      have := h1 k h0 hk hkj
      rw [hp] at this
      exact o.neg _ _ _ this hi1

/-- 'down' at i: all are in order but children of i may be less than i; those are not less than i's parent. -/
def Down (lt : α → α → Bool) (n i : Nat) (f : Nat → α) : Prop :=
  (∀ k, 0 < k → k < n → (k - 1) / 2 ≠ i → lt (f k) (f ((k - 1) / 2)) = false) ∧ ∀ k, 0 < k → k < n → (k - 1) / 2 = i → 0 < i → lt (f k) (f ((i - 1) / 2)) = false

theorem Down.done {lt : α → α → Bool} {n i : Nat} {f : Nat → α} (h : Down lt n i f) (hj : ∀ k, 0 < k → k < n → (k - 1) / 2 = i → lt (f k) (f i) = false) : Heap lt n f := by
  intro k h0 hk
  by_cases e : (k - 1) / 2 = i
  · rw [e]; exact hj k h0 hk e
  · exact h.1 k h0 hk e
theorem Down.step {lt : α → α → Bool} (o : Ord lt) {n i j : Nat} {f : Nat → α} (h : Down lt n i f) (hj0 : 0 < j) (hj : j < n) (hp : (j - 1) / 2 = i) (hl : lt (f j) (f i) = true)
    (hm : ∀ k, 0 < k → k < n → (k - 1) / 2 = i → lt (f k) (f j) = false) : Down lt n j (swap f i j) := by
  obtain ⟨h1, h2⟩ := h
  have hij : i < j := by omega
  refine ⟨fun k h0 hk hpj => ?_, fun k h0 hk hpj _ => ?_⟩
  · by_cases hpi : (k - 1) / 2 = i
    · rw [hpi, swap_l]
      by_cases hkj : k = j
      · subst hkj; rw [swap_r]; exact o.asym _ _ hl
      · rw [swap_o f i j k (by omega) hkj]
        exact hm k h0 hk hpi
    · rw [swap_o f i j _ hpi hpj]
      by_cases hki : k = i
      · subst hki
        rw [swap_l]
        exact h2 j hj0 hj hp h0
      · by_cases hkj : k = j
        · omega
        · rw [swap_o f i j k hki hkj]
          exact h1 k h0 hk hpi
  · rw [hp, swap_l, swap_o f i j k (by omega) (by omega)]
    have := h1 k h0 hk (by omega)
    rw [hpj] at this
    exact this
/-- The root of a heap gone to the last place, and what was there at the root. -/
theorem Down.start {lt : α → α → Bool} {n : Nat} {f : Nat → α} (h : Heap lt (n + 1) f) : Down lt n 0 (swap f 0 n) := by
  refine ⟨fun k h0 hk hp => ?_, fun k _ _ _ h0 => by omega⟩
  rw [swap_o f 0 n k (by omega) (by omega), swap_o f 0 n _ hp (by omega)]
  exact h k h0 (by omega)
end Hp
end Go.Proofs.YtjlokkjbdgcooaaGreat
