/-
  A book that keeps trios, beside gates.
-/
import Derived.Test.YtgoekobolomppaaTriosPush
import Derived.Test.YtgoekobolomppaaApartTrios
import Derived.Test.YtgoekobolomppaaGatesAll
namespace Go.Proofs.Ytgoekobolomppaa
open Go.RowKit

theorem Kind.Kept.rows {K : Kind} {w w' : World} {B b m : Nat} {F V U : Nat → Value} {N : Nat → Nat} {L : Nat → List Value} {S : List TypeId} (h : K.Kept w B b F m V U N L) (ho : Only S w w') (hB : ¬ 41 ∈ S) (ht : ¬ K.t ∈ S)
    (hr : ∀ i k, i < m → k < w.heap.size → ((V i).ownBlock = some k ∨ (U i).ownBlock = some k) → w'.heap[k]? = w.heap[k]?) : K.Kept w' B b F m V U N L := by
  obtain ⟨h1, h2, h3, h4, h5, h6, h7⟩ := h
  exact ⟨ho.book h1 hB, h2, ho.own h3 ht, ho.own h4 ht, h5, h6.kept fun i k hi hk hv => hr i k hi hk (.inl hv), h7.kept fun i k hi hk hv => hr i k hi hk (.inr hv)⟩
theorem Only.gates {w w' : World} {B c : Nat} {v : Value} {l : List Trio} (h : GatesAt w B c v l) (hb : But (InGates c v) w w') : Only [27, 53] w w' := by
  intro k cur e hh he
  refine hb.block k (lt_of_blk hh) ?_
  rintro (rfl | hk)
  · rw [h.blk] at hh
    injection hh with hh
    injection hh with _ hh
    exact he (by simp [hh])
  · obtain ⟨cur2, h2⟩ := own_block h.own hk
    rw [h2] at hh
    injection hh with hh
    injection hh with _ hh
    exact he (by simp [hh])

/-- What the book keeps; none of its lists lies in a block of S. -/
def KeptT (w : World) (B b : Nat) (S : Nat → Prop) (m : Nat) : Prop :=
  ∃ (F V U : Nat → Value) (L : Nat → List Trio),
    kTrios.Kept w B b F m V U (fun i => (L i).length) (fun i => trios (L i)) ∧
    (∀ i, i < m → (L i).length ≤ 900000) ∧
    (∀ i, i < m → ∀ k, S k → (V i).ownBlock ≠ some k ∧ (U i).ownBlock ≠ some k) ∧
    (∀ k, k < 20 → k ≠ 16 → k ≠ 17 → F k = .slice none 0 0)

section
variable {w w' : World} {B b : Nat} {S S' : Nat → Prop} {m : Nat}
theorem KeptT.below (h : KeptT w B b S m) (hb : Below w.heap.size w w') : KeptT w' B b S m := by
  obtain ⟨F, V, U, L, h1, h3, h5, h6⟩ := h
  exact ⟨F, V, U, L, h1.below hb, h3, h5, h6⟩
theorem KeptT.more (h : KeptT w B b S m) (hs : ∀ k, S' k → S k ∨ w.heap.size ≤ k) : KeptT w B b S' m := by
  obtain ⟨F, V, U, L, h1, h3, h5, h6⟩ := h
  refine ⟨F, V, U, L, h1, h3, fun i hi k hk => ?_, h6⟩
  rcases hs k hk with h | h
  · exact h5 i hi k h
  · constructor
    · intro e; have := own_lt (h1.2.2.2.2.2.1.1 i hi) k e; omega
    · intro e; have := own_lt (h1.2.2.2.2.2.2.1 i hi) k e; omega
theorem KeptT.gates {B0 c : Nat} {v : Value} {l : List Trio} (h : KeptT w B b S m) (hc : GatesAt w B0 c v l) (hb : But (InGates c v) w w') (hs : ∀ k, v.ownBlock = some k → S k) : KeptT w' B b S m := by
  obtain ⟨F, V, U, L, h1, h3, h5, h6⟩ := h
  have ho := Only.gates hc hb
  refine ⟨F, V, U, L, h1.rows ho (by decide) (by decide) ?_, h3, h5, h6⟩
  intro i k hi hk hv
  have hne : k ≠ c := by
    rintro rfl
    rcases hv with hv | hv
    · exact own_ne (h1.2.2.2.2.2.1.1 i hi) hc.blk (by decide) hv
    · exact own_ne (h1.2.2.2.2.2.2.1 i hi) hc.blk (by decide) hv
  refine hb.block k hk ?_
  rintro (e | e)
  · exact hne e
  · have := h5 i hi k (hs k e)
    rcases hv with hv | hv
    · exact this.1 hv
    · exact this.2 hv
theorem KeptT.new (hB : BookAt w b fun _ => .slice none 0 0) (hb : B ≤ b) : KeptT w B b S 0 :=
  ⟨_, fun _ => .bool false, fun _ => .bool false, fun _ => [], Kind.Kept.new _ _ _ _ _ hB hb rfl rfl _ _ _ _, by omega, by omega, fun _ _ _ _ => rfl⟩
theorem KeptT.lt (h : KeptT w B b S m) : b < w.heap.size := by
  obtain ⟨F, V, U, L, h1, _⟩ := h
  exact h1.1.lt
end

theorem keepTrios_any (b B m n cl H : Nat) (S : Nat → Prop) (Al : Option Addr) (l : List Trio) (w : World) (h : KeptT w B b (fun k => S k ∨ (Value.slice Al n cl).ownBlock = some k) m) (hm : m < 250) (hlv : w.ownsRow H 53 3 (.slice Al n cl) n (trios l)) (hn : n ≤ 900000) (hBH : B ≤ H) (hs : ∀ k, S k → k < w.heap.size ∧ (Value.slice Al n cl).ownBlock ≠ some k) :
    Calls Try.prog 11 #[.pointer (some ⟨b, 0, none⟩), .slice Al n cl] w fun e w' => e = .returned (.tuple #[]) ∧ KeptT w' B b S (m + 1) ∧ Below B w w' ∧ Only [kTrios.t, 41] w w' := by
  obtain ⟨F, V, U, L, h1, h3, h5, h6⟩ := h
  have hl : l.length = n := by have := hlv.1; rw [trios_len] at this; omega
  refine (bookTrios_any b B m n cl F V U _ _ Al l w h1 hm (own_base hlv hBH) (by omega) fun i hi k hk => (h5 i hi k (.inr hk)).1).mono ?_
  rintro e w' ⟨rfl, F', cv, hk, hF, hb, hcv, ho⟩
  refine ⟨rfl, ⟨F', _, _, fun i => if i = m then l else L i, hk.congr (fun i _ => ?_) (fun i _ => ?_), fun i hi => ?_, fun i hi k hS => ?_, fun k hk a4 a5 => ?_⟩, hb, ho⟩
  · by_cases e : i = m <;> simp [e, hl]
  · by_cases e : i = m <;> simp [e]
  · by_cases e : i = m
    · simp [e, hl]; omega
    · simp only [e, if_false]; exact h3 i (by omega)
  · by_cases e : i = m
    · subst e
      rw [upd_same, upd_same]
      exact ⟨(hs k hS).2, fun e => by have := hcv k e; have := (hs k hS).1; omega⟩
    · rw [upd_other _ _ e, upd_other _ _ e]
      exact h5 i (by omega) k (.inl hS)
  · rw [hF k a4 a5]; exact h6 k hk a4 a5
theorem apartT_any (b B m : Nat) (S : Nat → Prop) (w : World) (h : KeptT w B b S m) (hm : m ≤ 250) :
    Calls Try.prog 16 #[.pointer (some ⟨b, 0, none⟩)] w fun e w' => e = .returned (.bool true) ∧ Below B w w' := by
  obtain ⟨F, V, U, L, h1, h3, h5, h6⟩ := h
  exact apartTrios_any b B F w m V U L h1 hm h3 h6
end Go.Proofs.Ytgoekobolomppaa
