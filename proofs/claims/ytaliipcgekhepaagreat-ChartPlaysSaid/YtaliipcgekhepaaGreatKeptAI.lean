/-
  A book that keeps accounts and ints, beside a chart.
-/
import Derived.Test.YtaliipcgekhepaaGreatMany3
import Derived.Test.YtaliipcgekhepaaGreatMany4
import Derived.Test.YtaliipcgekhepaaGreatApartIntsAccounts
import Derived.Test.YtaliipcgekhepaaGreatMany5
namespace Go.Proofs.YtaliipcgekhepaaGreat
open Go.RowKit

theorem Kind.Kept.rows {K : Kind} {w w' : World} {B b m : Nat} {F V U : Nat → Value} {N : Nat → Nat} {L : Nat → List Value} {S : List TypeId} (h : K.Kept w B b F m V U N L) (ho : Only S w w') (hB : ¬ 48 ∈ S) (ht : ¬ K.t ∈ S)
    (hr : ∀ i k, i < m → k < w.heap.size → ((V i).ownBlock = some k ∨ (U i).ownBlock = some k) → w'.heap[k]? = w.heap[k]?) : K.Kept w' B b F m V U N L := by
  obtain ⟨h1, h2, h3, h4, h5, h6, h7⟩ := h
  exact ⟨ho.book h1 hB, h2, ho.own h3 ht, ho.own h4 ht, h5, h6.kept fun i k hi hk hv => hr i k hi hk (.inl hv), h7.kept fun i k hi hk hv => hr i k hi hk (.inr hv)⟩
theorem Only.chart {w w' : World} {B c : Nat} {v : Value} {l : List Acc} (h : ChartAt w B c v l) (hb : But (InChart c v) w w') : Only [67, 34] w w' := by
  intro k cur e hh he
  refine hb.block k (lt_of_blk hh) ?_
  rintro (rfl | hk)
  · rw [h.blk] at hh
    injection hh with hh
    injection hh with _ hh
    exact he (by simp [hh])
  · obtain ⟨cur2, h2⟩ := own_block h.own hk
    rw [h2] at hh
    injection hh with hh
    injection hh with _ hh
    exact he (by simp [hh])

/-- What the book keeps; none of its lists of accounts lies in a block of S. -/
def KeptAI (w : World) (B b : Nat) (S : Nat → Prop) (mA mI : Nat) : Prop :=
  ∃ (F VA UA VI UI : Nat → Value) (LA : Nat → List Acc) (LI : Nat → List Int),
    kAccounts.Kept w B b F mA VA UA (fun i => (LA i).length) (fun i => accs (LA i)) ∧
    kInts.Kept w B b F mI VI UI (fun i => (LI i).length) (fun i => ints .i64 (LI i)) ∧
    (∀ i, i < mA → (LA i).length ≤ 900000) ∧ (∀ i, i < mI → (LI i).length ≤ 900000) ∧
    (∀ i, i < mA → ∀ k, S k → (VA i).ownBlock ≠ some k ∧ (UA i).ownBlock ≠ some k) ∧
    (∀ i, i < mI → ∀ k, S k → (VI i).ownBlock ≠ some k ∧ (UI i).ownBlock ≠ some k) ∧
    (∀ k, k < 20 → k ≠ 2 → k ≠ 3 → k ≠ 4 → k ≠ 5 → F k = .slice none 0 0)

section
variable {w w' : World} {B b : Nat} {S S' : Nat → Prop} {mA mI : Nat}
theorem KeptAI.below (h : KeptAI w B b S mA mI) (hb : Below w.heap.size w w') : KeptAI w' B b S mA mI := by
  obtain ⟨F, VA, UA, VI, UI, LA, LI, h1, h2, h3, h4, h5, h5', h6⟩ := h
  exact ⟨F, VA, UA, VI, UI, LA, LI, h1.below hb, h2.below hb, h3, h4, h5, h5', h6⟩
theorem KeptAI.more (h : KeptAI w B b S mA mI) (hs : ∀ k, S' k → S k ∨ w.heap.size ≤ k) : KeptAI w B b S' mA mI := by
  obtain ⟨F, VA, UA, VI, UI, LA, LI, h1, h2, h3, h4, h5, h5', h6⟩ := h
  refine ⟨F, VA, UA, VI, UI, LA, LI, h1, h2, h3, h4, fun i hi k hk => ?_, fun i hi k hk => ?_, h6⟩
  · rcases hs k hk with h | h
    · exact h5 i hi k h
    · constructor
      · intro e; have := own_lt (h1.2.2.2.2.2.1.1 i hi) k e; omega
      · intro e; have := own_lt (h1.2.2.2.2.2.2.1 i hi) k e; omega
  · rcases hs k hk with h | h
    · exact h5' i hi k h
    · constructor
      · intro e; have := own_lt (h2.2.2.2.2.2.1.1 i hi) k e; omega
      · intro e; have := own_lt (h2.2.2.2.2.2.2.1 i hi) k e; omega
theorem KeptAI.chart {B0 c : Nat} {v : Value} {l : List Acc} (h : KeptAI w B b S mA mI) (hc : ChartAt w B0 c v l) (hb : But (InChart c v) w w') (hs : ∀ k, v.ownBlock = some k → S k) : KeptAI w' B b S mA mI := by
  obtain ⟨F, VA, UA, VI, UI, LA, LI, h1, h2, h3, h4, h5, h5', h6⟩ := h
  have ho := Only.chart hc hb
  refine ⟨F, VA, UA, VI, UI, LA, LI, h1.rows ho (by decide) (by decide) ?_, h2.other ho (ho.book h2.1 (by decide)) rfl rfl (by decide) (by decide), h3, h4, h5, h5', h6⟩
  intro i k hi hk hv
  have hne : k ≠ c := by
    rintro rfl
    rcases hv with hv | hv
    · exact own_ne (h1.2.2.2.2.2.1.1 i hi) hc.blk (by decide) hv
    · exact own_ne (h1.2.2.2.2.2.2.1 i hi) hc.blk (by decide) hv
  refine hb.block k hk ?_
  rintro (e | e)
  · exact hne e
  · have := h5 i hi k (hs k e)
    rcases hv with hv | hv
    · exact this.1 hv
    · exact this.2 hv
theorem KeptAI.new (hB : BookAt w b fun _ => .slice none 0 0) (hb : B ≤ b) : KeptAI w B b S 0 0 :=
  ⟨_, fun _ => .bool false, fun _ => .bool false, fun _ => .bool false, fun _ => .bool false, fun _ => [], fun _ => [], Kind.Kept.new _ _ _ _ _ hB hb rfl rfl _ _ _ _, Kind.Kept.new _ _ _ _ _ hB hb rfl rfl _ _ _ _, by omega, by omega, by omega, by omega, fun _ _ _ _ _ _ => rfl⟩
theorem KeptAI.lt (h : KeptAI w B b S mA mI) : b < w.heap.size := by
  obtain ⟨F, VA, UA, VI, UI, LA, LI, h1, _⟩ := h
  exact h1.1.lt
end

theorem keepAccounts_any (b B mA mI n cl H : Nat) (S : Nat → Prop) (Al : Option Addr) (l : List Acc) (w : World) (h : KeptAI w B b (fun k => S k ∨ (Value.slice Al n cl).ownBlock = some k) mA mI) (hm : mA < 250) (hlv : w.ownsRow H 34 3 (.slice Al n cl) n (accs l)) (hn : n ≤ 900000) (hBH : B ≤ H) (hs : ∀ k, S k → k < w.heap.size ∧ (Value.slice Al n cl).ownBlock ≠ some k) :
    Calls Tryz.prog 15 #[.pointer (some ⟨b, 0, none⟩), .slice Al n cl] w fun e w' => e = .returned (.tuple #[]) ∧ KeptAI w' B b S (mA + 1) mI ∧ Below B w w' ∧ Only [kAccounts.t, 48] w w' := by
  obtain ⟨F, VA, UA, VI, UI, LA, LI, h1, h2, h3, h4, h5, h5', h6⟩ := h
  have hl : l.length = n := by have := hlv.1; rw [accs_len] at this; omega
  refine (bookAccounts_any b B mA n cl F VA UA _ _ Al l w h1 hm (own_base hlv hBH) (by omega) fun i hi k hk => (h5 i hi k (.inr hk)).1).mono ?_
  rintro e w' ⟨rfl, F', cv, hk, hF, hb, hcv, ho⟩
  refine ⟨rfl, ⟨F', _, _, VI, UI, fun i => if i = mA then l else LA i, LI, hk.congr (fun i _ => ?_) (fun i _ => ?_), h2.other ho hk.1 (hF _ (by decide) (by decide)) (hF _ (by decide) (by decide)) (by decide) (by decide), fun i hi => ?_, h4, fun i hi k hS => ?_, fun i hi k hS => h5' i hi k (.inl hS), fun k hk a2 a3 a4 a5 => ?_⟩, hb, ho⟩
  · by_cases e : i = mA <;> simp [e, hl]
  · by_cases e : i = mA <;> simp [e]
  · by_cases e : i = mA
    · simp [e, hl]; omega
    · simp only [e, if_false]; exact h3 i (by omega)
  · by_cases e : i = mA
    · subst e
      rw [upd_same, upd_same]
      exact ⟨(hs k hS).2, fun e => by have := hcv k e; have := (hs k hS).1; omega⟩
    · rw [upd_other _ _ e, upd_other _ _ e]
      exact h5 i (by omega) k (.inl hS)
  · rw [hF k a4 a5]; exact h6 k hk a2 a3 a4 a5

theorem keepInts_any (b B mA mI n cl H : Nat) (S : Nat → Prop) (Al : Option Addr) (l : List Int) (w : World) (h : KeptAI w B b (fun k => S k ∨ (Value.slice Al n cl).ownBlock = some k) mA mI) (hm : mI < 250) (hlv : w.ownsRow H 3 1 (.slice Al n cl) n (ints .i64 l)) (hn : n ≤ 900000) (hBH : B ≤ H) (hs : ∀ k, S k → k < w.heap.size ∧ (Value.slice Al n cl).ownBlock ≠ some k) :
    Calls Tryz.prog 16 #[.pointer (some ⟨b, 0, none⟩), .slice Al n cl] w fun e w' => e = .returned (.tuple #[]) ∧ KeptAI w' B b S mA (mI + 1) ∧ Below B w w' ∧ Only [kInts.t, 48] w w' := by
  obtain ⟨F, VA, UA, VI, UI, LA, LI, h1, h2, h3, h4, h5, h5', h6⟩ := h
  have hl : l.length = n := by have := hlv.1; simp [ints] at this; omega
  refine (bookKInts_any b B mI n cl F VI UI _ _ Al l w h2 hm (own_base hlv hBH) (by omega) fun i hi k hk => (h5' i hi k (.inr hk)).1).mono ?_
  rintro e w' ⟨rfl, F', cv, hk, hF, hb, hcv, ho⟩
  refine ⟨rfl, ⟨F', VA, UA, _, _, LA, fun i => if i = mI then l else LI i, h1.other ho hk.1 (hF _ (by decide) (by decide)) (hF _ (by decide) (by decide)) (by decide) (by decide), hk.congr (fun i _ => ?_) (fun i _ => ?_), h3, fun i hi => ?_, fun i hi k hS => h5 i hi k (.inl hS), fun i hi k hS => ?_, fun k hk a2 a3 a4 a5 => ?_⟩, hb, ho⟩
  · by_cases e : i = mI <;> simp [e, hl]
  · by_cases e : i = mI <;> simp [e]
  · by_cases e : i = mI
    · simp [e, hl]; omega
    · simp only [e, if_false]; exact h4 i (by omega)
  · by_cases e : i = mI
    · subst e
      rw [upd_same, upd_same]
      exact ⟨(hs k hS).2, fun e => by have := hcv k e; have := (hs k hS).1; omega⟩
    · rw [upd_other _ _ e, upd_other _ _ e]
      exact h5' i (by omega) k (.inl hS)
  · rw [hF k a2 a3]; exact h6 k hk a2 a3 a4 a5
theorem apartAI_any (b B mA mI : Nat) (S : Nat → Prop) (w : World) (h : KeptAI w B b S mA mI) (hA : mA ≤ 250) (hI : mI ≤ 250) :
    Calls Tryz.prog 22 #[.pointer (some ⟨b, 0, none⟩)] w fun e w' => e = .returned (.bool true) ∧ Below B w w' := by
  obtain ⟨F, VA, UA, VI, UI, LA, LI, h1, h2, h3, h4, h5, h5', h6⟩ := h
  exact apartIntsAccounts_any b B F w mI VI UI LI h2 hI h4 mA VA UA LA h1 hA h3 h6
end Go.Proofs.YtaliipcgekhepaaGreat
