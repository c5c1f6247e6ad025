/-
  Several texts, one behind the other: what each holds stands ahead of it.
-/
import Derived.Test.YtjlokkjbdgcooaaGreatMany38
import Derived.Test.YtjlokkjbdgcooaaGreatMany39

/-
  Copies of lists.
-/
namespace Go.Proofs.YtjlokkjbdgcooaaGreat
open Go.RowKit

set_option maxRecDepth 100000 in
set_option maxHeartbeats 400000 in
theorem copyPairs_any (l : List Pair) (A : Option Addr) (n c B : Nat) (w : World) (h : Rd w B 2 A n (pairs l)) (hn : n ≤ 1000000) :
    Calls Tryz.prog 123 #[.slice A n c] w fun e w' => ∃ A' c', e = .returned (.slice A' n c') ∧ w'.ownsRow w.heap.size 177 2 (.slice A' n c') n (pairs l) ∧ Below w.heap.size w w' := by
  obtain ⟨v', w', hrun, hown, hg, _⟩ := append_fresh (P := Tryz.prog) (w := w) (ty := 85) (c := c) infoPair Tryz.underlying85 rfl (by omega) w.heap.size (.slice none 0 0) 0 [] (World.ownsRow_nil _ _ _ _) h (pairs_one _) (by unfold maxLen; omega) (by omega) (Nat.le_refl _)
  rw [Nat.zero_add, List.nil_append] at hown
  obtain ⟨A', c', rfl⟩ := own_form hown
  have HO := Lib.hid hown
  have HG := Lib.hid hg
  have HR := Lib.hid hrun
  clear hown hg h hn hrun
  go_enter Tryz.func123, Tryz.ntmps123
  go_wp2_with (at_builtin; refine wpList_append_run rfl _ _ _ rfl _ _ _ _ rfl rfl HR.out ?_)
  go_ret
  exact ⟨A', c', rfl, HO.out, (Below.refl _ _).grown HG.out (Nat.le_refl _) (fun k h => by cases h)⟩

end Go.Proofs.YtjlokkjbdgcooaaGreat

/-
  One more list of pairs in a book.
-/
namespace Go.Proofs.YtjlokkjbdgcooaaGreat
open Go.RowKit

set_option maxRecDepth 100000 in
set_option maxHeartbeats 1000000 in
theorem bookPairs_any (b B m n cl : Nat) (F V U : Nat → Value) (N : Nat → Nat) (L : Nat → List Value) (Al : Option Addr) (l : List Pair) (w : World) (h : kPairs.Kept w B b F m V U N L) (hm : m < 250) (hlv : w.ownsRow B 177 2 (.slice Al n cl) n (pairs l)) (hn : n ≤ 1000000)
    (hd : ∀ i, i < m → ∀ k, (Value.slice Al n cl).ownBlock = some k → (V i).ownBlock ≠ some k) :
    Calls Tryz.prog 37 #[.pointer (some ⟨b, 0, none⟩), .slice Al n cl] w fun e w' => e = .returned (.tuple #[]) ∧
      ∃ F' cv, kPairs.Kept w' B b F' (m + 1) (upd V m (.slice Al n cl)) (upd U m cv) (fun k => if k = m then n else N k) (fun k => if k = m then pairs l else L k) ∧ (∀ k, k ≠ 18 → k ≠ 19 → F' k = F k) ∧ Below B w w' ∧ (∀ k, cv.ownBlock = some k → w.heap.size ≤ k) ∧ Only [kPairs.t, 45] w w' := by
  have HK := Lib.hid h
  obtain ⟨h1, h2, h3, h4, h5, h6, h7⟩ := h
  have hbl := h1.lt
  have hBs : B ≤ w.heap.size := by omega
  obtain ⟨A2, c2, e2⟩ := own_form h3
  obtain ⟨A3, c3, e3⟩ := own_form h4
  have hc2 : w.cell? ⟨b, 18, none⟩ = some (F 18) := h1.cell (i := 18) (by omega)
  obtain ⟨v1, w1, hrun1, ht1, hsz1, hk1, hv1, ho1, ho2, ho3⟩ := Kind.push (T := 43) h3 infoPairs Tryz.underlying43 (.slice Al n cl) rfl (by omega) hBs
  obtain ⟨k1, k2, k3, k4, k5, k6, k7, k8, k9⟩ := Kind.first HK.out _ ht1 hk1 hv1
  obtain ⟨A1, c1, e1⟩ := own_form ht1
  have hc3 : (w1.setCell ⟨b, 18, none⟩ v1).cell? ⟨b, 19, none⟩ = some (F 19) := by
    have := k1.cell (i := 19) (by omega)
    rwa [upd_other _ _ (by decide)] at this
  have hne : ¬ kPairs.e ∈ [kPairs.t, 45] := by decide
  have hown2 := k9.own hlv hne
  have K9 := Lib.hid k9
  have hB1 : Below B w (w1.setCell ⟨b, 18, none⟩ v1) := by
    have hx : Below B w w1 := ⟨ho1, ho2, ho3, by omega, fun k hk => hk1 k (by omega) (fun e => by have := own_ge h3 k e; omega)⟩
    exact hx.setCell h2 _
  have hz1 : w.heap.size + 1 ≤ w1.heap.size := hsz1
  have k7' : w1.cell? ⟨b, 18, none⟩ = some (F 18) := k7
  have k8' : w1.frozen? ⟨b, 18, none⟩ = false := k8
  have e2' : F 18 = .slice A2 m c2 := e2
  have e3' : F 19 = .slice A3 m c3 := e3
  rw [e2'] at hc2 k7'
  rw [e2] at hrun1
  rw [e3'] at hc3
  subst e1
  have HR1 : Hid ((Builtin.append_ #[43, 43] 43 #[.slice A2 m c2, .slice (some ⟨w.heap.size, 0, none⟩) 1 1]).run Tryz.prog (w.alloc (.cells #[.slice Al n cl] 85)) = .ok (.slice A1 (m + 1) c1) w1) := hrun1
  have K1 : Hid (BookAt (w1.setCell ⟨b, 18, none⟩ (.slice A1 (m + 1) c1)) b (upd F 18 (.slice A1 (m + 1) c1))) := k1
  have K2 : Hid (kPairs.Tab (w1.setCell ⟨b, 18, none⟩ (.slice A1 (m + 1) c1)) B (.slice A1 (m + 1) c1) (m + 1) (upd V m (.slice Al n cl))) := k2
  have K3 : Hid (kPairs.Tab (w1.setCell ⟨b, 18, none⟩ (.slice A1 (m + 1) c1)) B (F 19) m U) := k3
  have K4 : Hid (∀ k, (Value.slice A1 (m + 1) c1).ownBlock = some k → (F 19).ownBlock ≠ some k) := k4
  have K5 : Hid (kPairs.Rows (w1.setCell ⟨b, 18, none⟩ (.slice A1 (m + 1) c1)) B m V N L) := k5
  have K6 : Hid (kPairs.Rows (w1.setCell ⟨b, 18, none⟩ (.slice A1 (m + 1) c1)) B m U N L) := k6
  have HE3 := Lib.hid e3'
  have HO2 : Hid ((w1.setCell ⟨b, 18, none⟩ (.slice A1 (m + 1) c1)).ownsRow B 177 2 (.slice Al n cl) n (pairs l)) := hown2
  have K9' : Hid (Only [kPairs.t, 45] w (w1.setCell ⟨b, 18, none⟩ (.slice A1 (m + 1) c1))) := k9
  have hB1' : Below B w (w1.setCell ⟨b, 18, none⟩ (.slice A1 (m + 1) c1)) := hB1
  clear hrun1 k1 k2 k3 k4 k5 k6 k7 k8 k9 e2 e3 e2' e3' h1 h3 h4 h5 h6 h7 ht1 hk1 hv1 ho1 ho2 ho3 hown2 hB1 K9 hne
  go_enter Tryz.func37, Tryz.ntmps37
  go_wp2_with (at_builtin; refine wpList_append_run rfl _ _ _ rfl _ _ _ _ rfl rfl HR1.out ?_)
  generalize w1.setCell ⟨b, 18, none⟩ (Value.slice A1 (m + 1) c1) = w2 at *
  have hbl2 : b < w2.heap.size := by have := hB1'.size; omega
  have HD := Lib.hid hd
  clear hd
  go_region_law (first
    | (obtain ⟨v4, w4, hrun4, ht4, hsz4, hk4, hv4, hp1, hp2, hp3⟩ := Kind.push (T := 43) (w := w3) (own_kept K3.out fun k hk _ => hb3.block k hk) infoPairs Tryz.underlying43 (.slice A5 n c5) rfl (by omega) (Nat.le_trans (Nat.le_trans h2 (Nat.le_of_lt hbl2)) hb3.size)
       rw [HE3.out] at hrun4 hk4 hv4
       obtain ⟨A4, c4, rfl⟩ := own_form ht4
       refine step_append_run rfl (.tmp 24) (.tmp 27) 43 rfl (.slice A3 m c3) (.slice (some ⟨w3.heap.size, 0, none⟩) 1 1) (.slice A4 (m + 1) c4) w4 (by simp [Act.eval]) (by simp [Act.eval]) hrun4 ?_
       obtain ⟨hfin, hx1, hx2, hx3⟩ := Kind.second (K := kPairs) (F := F) K1.out h2 K2.out K3.out K4.out K5.out K6.out HO2.out HD.out ⟨hb3.os, hb3.tape, hb3.output, hb3.size, hb3.block⟩ hcv ht4 (by show ∀ k, k < w3.heap.size → (F 19).ownBlock ≠ some k → _; rw [HE3.out]; exact hk4) (by show _ = (F 19).ownBlock ∨ _; rw [HE3.out]; exact hv4) (Nat.le_trans h2 (Nat.le_of_lt hbl2))
       have hy1 : w4.cell? ⟨b, 19, none⟩ = some (F 19) := hx1
       have hy2 : w4.frozen? ⟨b, 19, none⟩ = false := hx2
       rw [HE3.out] at hy1)
    | (go_simp; go_at_call 123; refine (copyPairs_any l Al n cl _ w2.drew (rd_of_own HO2.out) (by omega)).mono ?_; rintro e w3 ⟨A5, c5, rfl, hcv, hb3⟩; have hc3b := (hb3.cell (p := ⟨b, 19, none⟩) hbl2).trans hc3; have hbl3 : b < w3.heap.size := Nat.lt_of_lt_of_le hbl2 hb3.size))
  all_goals
    go_end0
    refine ⟨rfl, _, _, hfin, fun k e2 e3 => ?_, ?_, fun k hk => Nat.le_trans hB1'.size (own_ge hcv k hk), K9'.out.trans hx3⟩
    · show upd (upd F 18 _) 19 _ k = F k
      rw [upd_other _ _ e3, upd_other _ _ e2]
    · have hx4 : Below B w3 w4 := ⟨hp1, hp2, hp3, by omega, fun k hk => hk4 k (Nat.lt_of_lt_of_le hk (Nat.le_trans (Nat.le_trans h2 (Nat.le_of_lt hbl2)) hb3.size)) (fun e => by have := own_ge K3.out k (by rw [HE3.out]; exact e); omega)⟩
      exact ((hB1'.drew.trans (hb3.mono (Nat.le_trans h2 (Nat.le_of_lt hbl2)))).trans hx4).setCell h2 _
end Go.Proofs.YtjlokkjbdgcooaaGreat

/-
  A book that keeps balances and pairs.
-/
namespace Go.Proofs.YtjlokkjbdgcooaaGreat
open Go.RowKit

/-- What the book keeps; none of its lists lies in a block of S. -/
def KeptBP (w : World) (B b : Nat) (S : Nat → Prop) (mL mJ : Nat) : Prop :=
  ∃ (F VL UL VJ UJ : Nat → Value) (LL : Nat → List Bal) (LJ : Nat → List Pair),
    kBalances.Kept w B b F mL VL UL (fun i => (LL i).length) (fun i => bals (LL i)) ∧
    kPairs.Kept w B b F mJ VJ UJ (fun i => (LJ i).length) (fun i => pairs (LJ i)) ∧
    (∀ i, i < mL → (LL i).length ≤ 900000) ∧ (∀ i, i < mJ → (LJ i).length ≤ 900000) ∧
    (∀ i, i < mL → ∀ k, S k → (VL i).ownBlock ≠ some k ∧ (UL i).ownBlock ≠ some k) ∧
    (∀ i, i < mJ → ∀ k, S k → (VJ i).ownBlock ≠ some k ∧ (UJ i).ownBlock ≠ some k) ∧
    (∀ k, k < 20 → k ≠ 6 → k ≠ 7 → k ≠ 18 → k ≠ 19 → F k = .slice none 0 0)

section
variable {w w' : World} {B b : Nat} {S S' : Nat → Prop} {mL mJ : Nat}
theorem KeptBP.below (h : KeptBP w B b S mL mJ) (hb : Below w.heap.size w w') : KeptBP w' B b S mL mJ := by
  obtain ⟨F, VL, UL, VJ, UJ, LL, LJ, h1, h2, h3, h4, h5, h5', h6⟩ := h
  exact ⟨F, VL, UL, VJ, UJ, LL, LJ, h1.below hb, h2.below hb, h3, h4, h5, h5', h6⟩
theorem KeptBP.more (h : KeptBP w B b S mL mJ) (hs : ∀ k, S' k → S k ∨ w.heap.size ≤ k) : KeptBP w B b S' mL mJ := by
  obtain ⟨F, VL, UL, VJ, UJ, LL, LJ, h1, h2, h3, h4, h5, h5', h6⟩ := h
  refine ⟨F, VL, UL, VJ, UJ, LL, LJ, h1, h2, h3, h4, fun i hi k hk => ?_, fun i hi k hk => ?_, h6⟩
  · rcases hs k hk with h | h
    · exact h5 i hi k h
    · constructor
      · intro e; have := own_lt (h1.2.2.2.2.2.1.1 i hi) k e; omega
      · intro e; have := own_lt (h1.2.2.2.2.2.2.1 i hi) k e; omega
  · rcases hs k hk with h | h
    · exact h5' i hi k h
    · constructor
      · intro e; have := own_lt (h2.2.2.2.2.2.1.1 i hi) k e; omega
      · intro e; have := own_lt (h2.2.2.2.2.2.2.1 i hi) k e; omega
theorem KeptBP.new (hB : BookAt w b fun _ => .slice none 0 0) (hb : B ≤ b) : KeptBP w B b S 0 0 :=
  ⟨_, fun _ => .bool false, fun _ => .bool false, fun _ => .bool false, fun _ => .bool false, fun _ => [], fun _ => [], Kind.Kept.new _ _ _ _ _ hB hb rfl rfl _ _ _ _, Kind.Kept.new _ _ _ _ _ hB hb rfl rfl _ _ _ _, by omega, by omega, by omega, by omega, fun _ _ _ _ _ _ => rfl⟩
theorem KeptBP.lt (h : KeptBP w B b S mL mJ) : b < w.heap.size := by
  obtain ⟨F, VL, UL, VJ, UJ, LL, LJ, h1, _⟩ := h
  exact h1.1.lt
end

theorem keepBals_any (b B mL mJ n cl H : Nat) (S : Nat → Prop) (Al : Option Addr) (l : List Bal) (w : World) (h : KeptBP w B b (fun k => S k ∨ (Value.slice Al n cl).ownBlock = some k) mL mJ) (hm : mL < 250) (hlv : w.ownsRow H 161 2 (.slice Al n cl) n (bals l)) (hn : n ≤ 900000) (hBH : B ≤ H) (hs : ∀ k, S k → k < w.heap.size ∧ (Value.slice Al n cl).ownBlock ≠ some k) :
    Calls Tryz.prog 36 #[.pointer (some ⟨b, 0, none⟩), .slice Al n cl] w fun e w' => e = .returned (.tuple #[]) ∧ KeptBP w' B b S (mL + 1) mJ ∧ Below B w w' ∧ Only [kBalances.t, 45] w w' := by
  obtain ⟨F, VL, UL, VJ, UJ, LL, LJ, h1, h2, h3, h4, h5, h5', h6⟩ := h
  have hl : l.length = n := by have := hlv.1; rw [bals_len] at this; omega
  refine (bookBalances_any b B mL n cl F VL UL _ _ Al l w h1 hm (own_base hlv hBH) (by omega) fun i hi k hk => (h5 i hi k (.inr hk)).1).mono ?_
  rintro e w' ⟨rfl, F', cv, hk, hF, hb, hcv, ho⟩
  refine ⟨rfl, ⟨F', _, _, VJ, UJ, fun i => if i = mL then l else LL i, LJ, hk.congr (fun i _ => ?_) (fun i _ => ?_), h2.other ho hk.1 (hF _ (by decide) (by decide)) (hF _ (by decide) (by decide)) (by decide) (by decide), fun i hi => ?_, h4, fun i hi k hS => ?_, fun i hi k hS => h5' i hi k (.inl hS), fun k hk a8 a9 a10 a11 => ?_⟩, hb, ho⟩
  · by_cases e : i = mL <;> simp [e, hl]
  · by_cases e : i = mL <;> simp [e]
  · by_cases e : i = mL
    · simp [e, hl]; omega
    · simp only [e, if_false]; exact h3 i (by omega)
  · by_cases e : i = mL
    · subst e
      rw [upd_same, upd_same]
      exact ⟨(hs k hS).2, fun e => by have := hcv k e; have := (hs k hS).1; omega⟩
    · rw [upd_other _ _ e, upd_other _ _ e]
      exact h5 i (by omega) k (.inl hS)
  · rw [hF k a8 a9]; exact h6 k hk a8 a9 a10 a11

theorem keepPairs_any (b B mL mJ n cl H : Nat) (S : Nat → Prop) (Al : Option Addr) (l : List Pair) (w : World) (h : KeptBP w B b (fun k => S k ∨ (Value.slice Al n cl).ownBlock = some k) mL mJ) (hm : mJ < 250) (hlv : w.ownsRow H 177 2 (.slice Al n cl) n (pairs l)) (hn : n ≤ 900000) (hBH : B ≤ H) (hs : ∀ k, S k → k < w.heap.size ∧ (Value.slice Al n cl).ownBlock ≠ some k) :
    Calls Tryz.prog 37 #[.pointer (some ⟨b, 0, none⟩), .slice Al n cl] w fun e w' => e = .returned (.tuple #[]) ∧ KeptBP w' B b S mL (mJ + 1) ∧ Below B w w' ∧ Only [kPairs.t, 45] w w' := by
  obtain ⟨F, VL, UL, VJ, UJ, LL, LJ, h1, h2, h3, h4, h5, h5', h6⟩ := h
  have hl : l.length = n := by have := hlv.1; rw [pairs_len] at this; omega
  refine (bookPairs_any b B mJ n cl F VJ UJ _ _ Al l w h2 hm (own_base hlv hBH) (by omega) fun i hi k hk => (h5' i hi k (.inr hk)).1).mono ?_
  rintro e w' ⟨rfl, F', cv, hk, hF, hb, hcv, ho⟩
  refine ⟨rfl, ⟨F', VL, UL, _, _, LL, fun i => if i = mJ then l else LJ i, h1.other ho hk.1 (hF _ (by decide) (by decide)) (hF _ (by decide) (by decide)) (by decide) (by decide), hk.congr (fun i _ => ?_) (fun i _ => ?_), h3, fun i hi => ?_, fun i hi k hS => h5 i hi k (.inl hS), fun i hi k hS => ?_, fun k hk a8 a9 a10 a11 => ?_⟩, hb, ho⟩
  · by_cases e : i = mJ <;> simp [e, hl]
  · by_cases e : i = mJ <;> simp [e]
  · by_cases e : i = mJ
    · simp [e, hl]; omega
    · simp only [e, if_false]; exact h4 i (by omega)
  · by_cases e : i = mJ
    · subst e
      rw [upd_same, upd_same]
      exact ⟨(hs k hS).2, fun e => by have := hcv k e; have := (hs k hS).1; omega⟩
    · rw [upd_other _ _ e, upd_other _ _ e]
      exact h5' i (by omega) k (.inl hS)
  · rw [hF k a10 a11]; exact h6 k hk a8 a9 a10 a11
theorem apartBP_any (b B mL mJ : Nat) (S : Nat → Prop) (w : World) (h : KeptBP w B b S mL mJ) (hm : mL ≤ 250) (hm2 : mJ ≤ 250) :
    Calls Tryz.prog 23 #[.pointer (some ⟨b, 0, none⟩)] w fun e w' => e = .returned (.bool true) ∧ Below B w w' := by
  obtain ⟨F, VL, UL, VJ, UJ, LL, LJ, h1, h2, h3, h4, h5, h5', h6⟩ := h
  exact apartBalancesPairs_any b B F w mL VL UL LL h1 hm h3 mJ VJ UJ LJ h2 hm2 h4 h6
end Go.Proofs.YtjlokkjbdgcooaaGreat
