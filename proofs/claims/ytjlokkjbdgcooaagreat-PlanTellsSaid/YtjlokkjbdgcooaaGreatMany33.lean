/-
  Several texts, one behind the other: what each holds stands ahead of it.
-/
import Derived.Test.YtjlokkjbdgcooaaGreatJrnsBook
import Derived.Test.YtjlokkjbdgcooaaGreatMany32
import Derived.Test.YtjlokkjbdgcooaaGreatApartIntsJournals

/-
  One more list of journals in a book.
-/
namespace Go.Proofs.YtjlokkjbdgcooaaGreat
open Go.RowKit

set_option maxRecDepth 100000 in
set_option maxHeartbeats 1000000 in
theorem bookJournals_any (b B m n cl : Nat) (F V U : Nat → Value) (N : Nat → Nat) (L LU : Nat → List Value) (Al : Option Addr) (l : List JR) (w : World) (h : kJournals.KeptD w B b F m V U N L LU) (hm : m < 250) (hlv : w.ownsRow B 111 6 (.slice Al n cl) n (jrs l)) (hj : JlRd w w.heap.size Al n l) (hlin : ∀ a ∈ l, w.ownsRow B 113 3 a.lv a.j.lines.length (lins a.j.lines)) (hs : ∀ a ∈ l, a.j.lines.length ≤ 100000) (hn : n ≤ 10000)
    (hd : ∀ i, i < m → ∀ k, (Value.slice Al n cl).ownBlock = some k → (V i).ownBlock ≠ some k) :
    Calls Tryz.prog 18 #[.pointer (some ⟨b, 0, none⟩), .slice Al n cl] w fun e w' => e = .returned (.tuple #[]) ∧
      ∃ F' cv l', l'.map JR.j = l.map JR.j ∧ (∀ a ∈ l', w'.ownsRow w.heap.size 113 3 a.lv a.j.lines.length (lins a.j.lines)) ∧ kJournals.KeptD w' B b F' (m + 1) (upd V m (.slice Al n cl)) (upd U m cv) (fun k => if k = m then n else N k) (fun k => if k = m then jrs l else L k) (fun k => if k = m then jrs l' else LU k) ∧ (∀ k, k ≠ 10 → k ≠ 11 → F' k = F k) ∧ Below B w w' ∧ (∀ k, cv.ownBlock = some k → w.heap.size ≤ k) ∧ Only [kJournals.t, 45] w w' := by
  have HK := Lib.hid h
  have HS := Lib.hid hs
  have HJJ : Hid (∀ w', w'.ownsRow B 111 6 (.slice Al n cl) n (jrs l) → Only [kJournals.t, 45] w w' → JlRd w' w'.heap.size Al n l) := fun w' ho hon => ⟨rd_of_own ho, fun a ha => rd_of_own (hon.own (hlin a ha) (by decide)), hj.nil, hj.size⟩
  obtain ⟨h1, h2, h3, h4, h5, h6, h7⟩ := h
  have hbl := h1.lt
  have hBs : B ≤ w.heap.size := by omega
  obtain ⟨A2, c2, e2⟩ := own_form h3
  obtain ⟨A3, c3, e3⟩ := own_form h4
  have hc2 : w.cell? ⟨b, 10, none⟩ = some (F 10) := h1.cell (i := 10) (by omega)
  obtain ⟨v1, w1, hrun1, ht1, hsz1, hk1, hv1, ho1, ho2, ho3⟩ := Kind.push (T := 39) h3 infoJournals Tryz.underlying39 (.slice Al n cl) rfl (by omega) hBs
  obtain ⟨k1, k2, k3, k4, k5, k6, k7, k8, k9⟩ := Kind.first HK.out _ ht1 hk1 hv1
  obtain ⟨A1, c1, e1⟩ := own_form ht1
  have hc3 : (w1.setCell ⟨b, 10, none⟩ v1).cell? ⟨b, 11, none⟩ = some (F 11) := by
    have := k1.cell (i := 11) (by omega)
    rwa [upd_other _ _ (by decide)] at this
  have hne : ¬ kJournals.e ∈ [kJournals.t, 45] := by decide
  have hown2 := k9.own hlv hne
  have K9 := Lib.hid k9
  have hB1 : Below B w (w1.setCell ⟨b, 10, none⟩ v1) := by
    have hx : Below B w w1 := ⟨ho1, ho2, ho3, by omega, fun k hk => hk1 k (by omega) (fun e => by have := own_ge h3 k e; omega)⟩
    exact hx.setCell h2 _
  have hz1 : w.heap.size + 1 ≤ w1.heap.size := hsz1
  have k7' : w1.cell? ⟨b, 10, none⟩ = some (F 10) := k7
  have k8' : w1.frozen? ⟨b, 10, none⟩ = false := k8
  have e2' : F 10 = .slice A2 m c2 := e2
  have e3' : F 11 = .slice A3 m c3 := e3
  rw [e2'] at hc2 k7'
  rw [e2] at hrun1
  rw [e3'] at hc3
  subst e1
  have HR1 : Hid ((Builtin.append_ #[39, 39] 39 #[.slice A2 m c2, .slice (some ⟨w.heap.size, 0, none⟩) 1 1]).run Tryz.prog (w.alloc (.cells #[.slice Al n cl] 48)) = .ok (.slice A1 (m + 1) c1) w1) := hrun1
  have K1 : Hid (BookAt (w1.setCell ⟨b, 10, none⟩ (.slice A1 (m + 1) c1)) b (upd F 10 (.slice A1 (m + 1) c1))) := k1
  have K2 : Hid (kJournals.Tab (w1.setCell ⟨b, 10, none⟩ (.slice A1 (m + 1) c1)) B (.slice A1 (m + 1) c1) (m + 1) (upd V m (.slice Al n cl))) := k2
  have K3 : Hid (kJournals.Tab (w1.setCell ⟨b, 10, none⟩ (.slice A1 (m + 1) c1)) B (F 11) m U) := k3
  have K4 : Hid (∀ k, (Value.slice A1 (m + 1) c1).ownBlock = some k → (F 11).ownBlock ≠ some k) := k4
  have K5 : Hid (kJournals.Rows (w1.setCell ⟨b, 10, none⟩ (.slice A1 (m + 1) c1)) B m V N L) := k5
  have K6 : Hid (kJournals.Rows (w1.setCell ⟨b, 10, none⟩ (.slice A1 (m + 1) c1)) B m U N LU) := k6
  have HE3 := Lib.hid e3'
  have HO2 : Hid ((w1.setCell ⟨b, 10, none⟩ (.slice A1 (m + 1) c1)).ownsRow B 111 6 (.slice Al n cl) n (jrs l)) := hown2
  have K9' : Hid (Only [kJournals.t, 45] w (w1.setCell ⟨b, 10, none⟩ (.slice A1 (m + 1) c1))) := k9
  have hB1' : Below B w (w1.setCell ⟨b, 10, none⟩ (.slice A1 (m + 1) c1)) := hB1
  clear hrun1 k1 k2 k3 k4 k5 k6 k7 k8 k9 e2 e3 e2' e3' h1 h3 h4 h5 h6 h7 ht1 hk1 hv1 ho1 ho2 ho3 hown2 hB1 K9 hne
  go_enter Tryz.func18, Tryz.ntmps18
  go_wp2_with (at_builtin; refine wpList_append_run rfl _ _ _ rfl _ _ _ _ rfl rfl HR1.out ?_)
  have HJ2 : Hid (JlRd (w1.setCell ⟨b, 10, none⟩ (Value.slice A1 (m + 1) c1)) (w1.setCell ⟨b, 10, none⟩ (Value.slice A1 (m + 1) c1)).heap.size Al n l) := HJJ.out _ HO2.out K9'.out
  generalize w1.setCell ⟨b, 10, none⟩ (Value.slice A1 (m + 1) c1) = w2 at *
  have hbl2 : b < w2.heap.size := by have := hB1'.size; omega
  have HD := Lib.hid hd
  clear hd
  go_region_law (first
    | (obtain ⟨v4, w4, hrun4, ht4, hsz4, hk4, hv4, hp1, hp2, hp3⟩ := Kind.push (T := 39) (w := w3) (own_kept K3.out fun k hk _ => hb3.block k hk) infoJournals Tryz.underlying39 (.slice A5 n c5) rfl (by omega) (Nat.le_trans (Nat.le_trans h2 (Nat.le_of_lt hbl2)) hb3.size)
       rw [HE3.out] at hrun4 hk4 hv4
       obtain ⟨A4, c4, rfl⟩ := own_form ht4
       refine step_append_run rfl (.tmp 24) (.tmp 27) 39 rfl (.slice A3 m c3) (.slice (some ⟨w3.heap.size, 0, none⟩) 1 1) (.slice A4 (m + 1) c4) w4 (by simp [Act.eval]) (by simp [Act.eval]) hrun4 ?_
       obtain ⟨hfin, hx1, hx2, hx3⟩ := Kind.second (K := kJournals) (F := F) K1.out h2 K2.out K3.out K4.out K5.out K6.out HO2.out HD.out ⟨hb3.os, hb3.tape, hb3.output, hb3.size, hb3.block⟩ hcv ht4 (by show ∀ k, k < w3.heap.size → (F 11).ownBlock ≠ some k → _; rw [HE3.out]; exact hk4) (by show _ = (F 11).ownBlock ∨ _; rw [HE3.out]; exact hv4) (Nat.le_trans h2 (Nat.le_of_lt hbl2))
       have hy1 : w4.cell? ⟨b, 11, none⟩ = some (F 11) := hx1
       have hy2 : w4.frozen? ⟨b, 11, none⟩ = false := hx2
       rw [HE3.out] at hy1
       have hox : Only [kJournals.t, 45] w3 (w4.setCell ⟨b, 11, none⟩ (.slice A4 (m + 1) c4)) := Kind.second_only (K := kJournals) (K1.out.kept (hb3.block b hbl2)) (by have := (own_kept K3.out fun k hk _ => hb3.block k hk : kJournals.Tab w3 B (F 11) m U); rw [HE3.out] at this; exact this) hk4)
    | (go_simp; go_at_call 60; refine (copyJournals_any l Al n cl _ w2.drew (HJ2.out.far (Below.refl _ w2).drew (Nat.le_refl _)) (Nat.le_refl _) (by omega) HS.out).mono ?_; rintro e w3 ⟨A5, c5, l5, rfl, hmp5, hown5, hb3⟩; have hcv := hown5.own; have hc3b := (hb3.cell (p := ⟨b, 11, none⟩) hbl2).trans hc3; have hbl3 : b < w3.heap.size := Nat.lt_of_lt_of_le hbl2 hb3.size))
  all_goals
    go_end0
    refine ⟨rfl, _, _, l5, hmp5, fun a ha => ?_, hfin, fun k e2 e3 => ?_, ?_, fun k hk => Nat.le_trans hB1'.size (own_ge hcv k hk), K9'.out.trans hx3⟩
    · exact own_base ((Only.own (S := [kJournals.t, 45]) hox (hown5.lines a ha) (by decide))) hB1'.size
    · show upd (upd F 10 _) 11 _ k = F k
      rw [upd_other _ _ e3, upd_other _ _ e2]
    · have hx4 : Below B w3 w4 := ⟨hp1, hp2, hp3, by omega, fun k hk => hk4 k (Nat.lt_of_lt_of_le hk (Nat.le_trans (Nat.le_trans h2 (Nat.le_of_lt hbl2)) hb3.size)) (fun e => by have := own_ge K3.out k (by rw [HE3.out]; exact e); omega)⟩
      exact ((hB1'.drew.trans (hb3.mono (Nat.le_trans h2 (Nat.le_of_lt hbl2)))).trans hx4).setCell h2 _
end Go.Proofs.YtjlokkjbdgcooaaGreat

/-
  A book that keeps ints and journals.
-/
namespace Go.Proofs.YtjlokkjbdgcooaaGreat
open Go.RowKit

/-- What the book keeps; none of its lists lies in a block of S. -/
def KeptIJ (w : World) (B b : Nat) (S : Nat → Prop) (mL mJ : Nat) : Prop :=
  ∃ (F VL UL VJ UJ : Nat → Value) (LL : Nat → List Int) (LV LU : Nat → List JR),
    kInts.Kept w B b F mL VL UL (fun i => (LL i).length) (fun i => ints .i64 (LL i)) ∧
    KeptJ w B b F mJ VJ UJ LV LU ∧
    (∀ i, i < mL → (LL i).length ≤ 900000) ∧ (∀ i, i < mJ → (LV i).length ≤ 700000) ∧
    (∀ i, i < mL → ∀ k, S k → (VL i).ownBlock ≠ some k ∧ (UL i).ownBlock ≠ some k) ∧
    (∀ i, i < mJ → ∀ k, S k → (VJ i).ownBlock ≠ some k ∧ (UJ i).ownBlock ≠ some k) ∧
    (∀ k, k < 20 → k ≠ 2 → k ≠ 3 → k ≠ 10 → k ≠ 11 → F k = .slice none 0 0)

section
variable {w w' : World} {B b : Nat} {S S' : Nat → Prop} {mL mJ : Nat}
theorem KeptIJ.below (h : KeptIJ w B b S mL mJ) (hb : Below w.heap.size w w') : KeptIJ w' B b S mL mJ := by
  obtain ⟨F, VL, UL, VJ, UJ, LL, LV, LU, h1, h2, h3, h4, h5, h5', h6⟩ := h
  exact ⟨F, VL, UL, VJ, UJ, LL, LV, LU, h1.below hb, h2.below hb, h3, h4, h5, h5', h6⟩
theorem KeptIJ.more (h : KeptIJ w B b S mL mJ) (hs : ∀ k, S' k → S k ∨ w.heap.size ≤ k) : KeptIJ w B b S' mL mJ := by
  obtain ⟨F, VL, UL, VJ, UJ, LL, LV, LU, h1, h2, h3, h4, h5, h5', h6⟩ := h
  refine ⟨F, VL, UL, VJ, UJ, LL, LV, LU, h1, h2, h3, h4, fun i hi k hk => ?_, fun i hi k hk => ?_, h6⟩
  · rcases hs k hk with h | h
    · exact h5 i hi k h
    · constructor
      · intro e; have := own_lt (h1.2.2.2.2.2.1.1 i hi) k e; omega
      · intro e; have := own_lt (h1.2.2.2.2.2.2.1 i hi) k e; omega
  · rcases hs k hk with h | h
    · exact h5' i hi k h
    · constructor
      · intro e; have := own_lt (h2.kept.2.2.2.2.2.1.1 i hi) k e; omega
      · intro e; have := own_lt (h2.kept.2.2.2.2.2.2.1 i hi) k e; omega
theorem KeptIJ.new (hB : BookAt w b fun _ => .slice none 0 0) (hb : B ≤ b) : KeptIJ w B b S 0 0 :=
  ⟨_, fun _ => .bool false, fun _ => .bool false, fun _ => .bool false, fun _ => .bool false, fun _ => [], fun _ => [], fun _ => [], Kind.Kept.new _ _ _ _ _ hB hb rfl rfl _ _ _ _, ⟨Kind.Kept.new _ _ _ _ _ hB hb rfl rfl _ _ _ _, by omega, by omega, by omega, by omega⟩, by omega, by omega, by omega, by omega, fun _ _ _ _ _ _ => rfl⟩
theorem KeptIJ.lt (h : KeptIJ w B b S mL mJ) : b < w.heap.size := by
  obtain ⟨F, VL, UL, VJ, UJ, LL, LV, LU, h1, _⟩ := h
  exact h1.1.lt
end

theorem keepInts_any (b B mL mJ n cl H : Nat) (S : Nat → Prop) (Al : Option Addr) (l : List Int) (w : World) (h : KeptIJ w B b (fun k => S k ∨ (Value.slice Al n cl).ownBlock = some k) mL mJ) (hm : mL < 250) (hlv : w.ownsRow H 3 1 (.slice Al n cl) n (ints .i64 l)) (hn : n ≤ 900000) (hBH : B ≤ H) (hs : ∀ k, S k → k < w.heap.size ∧ (Value.slice Al n cl).ownBlock ≠ some k) :
    Calls Tryz.prog 15 #[.pointer (some ⟨b, 0, none⟩), .slice Al n cl] w fun e w' => e = .returned (.tuple #[]) ∧ KeptIJ w' B b S (mL + 1) mJ ∧ Below B w w' ∧ Only [kInts.t, 45] w w' := by
  obtain ⟨F, VL, UL, VJ, UJ, LL, LV, LU, h1, h2, h3, h4, h5, h5', h6⟩ := h
  have hl : l.length = n := by have := hlv.1; simp [ints] at this; omega
  refine (bookKInts_any b B mL n cl F VL UL _ _ Al l w h1 hm (own_base hlv hBH) (by omega) fun i hi k hk => (h5 i hi k (.inr hk)).1).mono ?_
  rintro e w' ⟨rfl, F', cv, hk, hF, hb, hcv, ho⟩
  refine ⟨rfl, ⟨F', _, _, VJ, UJ, fun i => if i = mL then l else LL i, LV, LU, hk.congr (fun i _ => ?_) (fun i _ => ?_), ⟨h2.kept.other ho hk.1 (hF _ (by decide) (by decide)) (hF _ (by decide) (by decide)) (by decide) (by decide), h2.same, fun i hi a ha => ho.own (h2.lv i hi a ha) (by decide), fun i hi a ha => ho.own (h2.lu i hi a ha) (by decide), h2.size⟩, fun i hi => ?_, h4, fun i hi k hS => ?_, fun i hi k hS => h5' i hi k (.inl hS), fun k hk a8 a9 a10 a11 => ?_⟩, hb, ho⟩
  · by_cases e : i = mL <;> simp [e, hl]
  · by_cases e : i = mL <;> simp [e]
  · by_cases e : i = mL
    · simp [e, hl]; omega
    · simp only [e, if_false]; exact h3 i (by omega)
  · by_cases e : i = mL
    · subst e
      rw [upd_same, upd_same]
      exact ⟨(hs k hS).2, fun e => by have := hcv k e; have := (hs k hS).1; omega⟩
    · rw [upd_other _ _ e, upd_other _ _ e]
      exact h5 i (by omega) k (.inl hS)
  · rw [hF k a8 a9]; exact h6 k hk a8 a9 a10 a11

theorem keepJournalsI_any (b B mL mJ n cl H : Nat) (S : Nat → Prop) (Al : Option Addr) (l : List JR) (w : World) (h : KeptIJ w B b (fun k => S k ∨ (Value.slice Al n cl).ownBlock = some k) mL mJ) (hm : mJ < 250) (hlv : OwnJl w H Al n cl l) (hsz : ∀ a ∈ l, a.j.ref.size ≤ maxLen ∧ a.j.lines.length ≤ 100000) (hn : n ≤ 10000) (hBH : B ≤ H) (hs : ∀ k, S k → k < w.heap.size ∧ (Value.slice Al n cl).ownBlock ≠ some k) :
    Calls Tryz.prog 18 #[.pointer (some ⟨b, 0, none⟩), .slice Al n cl] w fun e w' => e = .returned (.tuple #[]) ∧ KeptIJ w' B b S mL (mJ + 1) ∧ Below B w w' ∧ Only [kJournals.t, 45] w w' := by
  obtain ⟨F, VL, UL, VJ, UJ, LL, LV, LU, h1, h2, h3, h4, h5, h5', h6⟩ := h
  have hl : l.length = n := by have := hlv.own.1; rw [jrs_len] at this; omega
  have hsm : ∀ a ∈ l, a.j.ref.size ≤ maxLen ∧ a.j.lines.length ≤ maxLen := fun a ha => ⟨(hsz a ha).1, by have := (hsz a ha).2; unfold maxLen; omega⟩
  refine (bookJournals_any b B mJ n cl F VJ UJ _ _ _ Al l w h2.kept hm (own_base hlv.own hBH) (hlv.rd hsm) (fun a ha => own_base (hlv.lines a ha) hBH) (fun a ha => (hsz a ha).2) hn fun i hi k hk => (h5' i hi k (.inr hk)).1).mono ?_
  rintro e w' ⟨rfl, F', cv, l', hmap, hlin, hk, hF, hb, hcv, ho⟩
  have hbl := h1.1.lt
  have hlo := h1.2.1
  refine ⟨rfl, ⟨F', VL, UL, _, _, LL, fun i => if i = mJ then l else LV i, fun i => if i = mJ then l' else LU i, h1.other ho hk.1 (hF _ (by decide) (by decide)) (hF _ (by decide) (by decide)) (by decide) (by decide), ⟨hk.congr (fun i _ => ?_) (fun i _ => ?_) (fun i _ => ?_), fun i hi => ?_, fun i hi a ha => ?_, fun i hi a ha => ?_, fun i hi a ha => ?_⟩, h3, fun i hi => ?_, fun i hi k hS => h5 i hi k (.inl hS), fun i hi k hS => ?_, fun k hk a8 a9 a10 a11 => ?_⟩, hb, ho⟩
  · by_cases e : i = mJ <;> simp [e, hl]
  · by_cases e : i = mJ <;> simp [e]
  · by_cases e : i = mJ <;> simp [e]
  · by_cases e : i = mJ
    · simp only [e, if_true]; exact hmap.symm
    · simp only [e, if_false]; exact h2.same i (by omega)
  · by_cases e : i = mJ
    · simp only [e, if_true] at ha
      exact ho.own (own_base (hlv.lines a ha) hBH) (by decide)
    · simp only [e, if_false] at ha
      exact ho.own (h2.lv i (by omega) a ha) (by decide)
  · by_cases e : i = mJ
    · simp only [e, if_true] at ha
      exact own_base (hlin a ha) (by omega)
    · simp only [e, if_false] at ha
      exact ho.own (h2.lu i (by omega) a ha) (by decide)
  · by_cases e : i = mJ
    · simp only [e, if_true] at ha
      exact hsm a ha
    · simp only [e, if_false] at ha
      exact h2.size i (by omega) a ha
  · by_cases e : i = mJ
    · simp [e, hl]; omega
    · simp only [e, if_false]; exact h4 i (by omega)
  · by_cases e : i = mJ
    · subst e
      rw [upd_same, upd_same]
      exact ⟨(hs k hS).2, fun e => by have := hcv k e; have := (hs k hS).1; omega⟩
    · rw [upd_other _ _ e, upd_other _ _ e]
      exact h5' i (by omega) k (.inl hS)
  · rw [hF k a10 a11]; exact h6 k hk a8 a9 a10 a11
theorem apartIJ_any (b B mL mJ : Nat) (S : Nat → Prop) (w : World) (h : KeptIJ w B b S mL mJ) (hm : mL ≤ 250) (hm2 : mJ ≤ 250) :
    Calls Tryz.prog 23 #[.pointer (some ⟨b, 0, none⟩)] w fun e w' => e = .returned (.bool true) ∧ Below B w w' := by
  obtain ⟨F, VL, UL, VJ, UJ, LL, LV, LU, h1, h2, h3, h4, h5, h5', h6⟩ := h
  exact apartIntsJournals_any b B F w mL VL UL LL h1 hm h3 mJ VJ UJ LV LU h2 hm2 h4 h6
end Go.Proofs.YtjlokkjbdgcooaaGreat
