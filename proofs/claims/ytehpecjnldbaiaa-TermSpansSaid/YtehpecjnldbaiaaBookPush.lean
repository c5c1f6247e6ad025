/-
  The statements' book: the contract of Ints.
-/
import Derived.Test.YtehpecjnldbaiaaBookKeep
namespace Go.Proofs.Ytehpecjnldbaiaa
open Go.RowKit

/-- One more list in a table. -/
theorem table_push {w : World} {B m : Nat} {v : Value} {V : Nat → Value} (hT : Table w B v m V) (x : Value) (hx : x.oneCell' = true) (hm : m < 1000000) (hB : B ≤ w.heap.size) :
    ∃ v' w', (Builtin.append_ #[36, 36] 36 #[v, .slice (some ⟨w.heap.size, 0, none⟩) 1 1]).run Try.prog (w.alloc (.cells #[x] 47)) = .ok v' w' ∧ Table w' B v' (m + 1) (upd V m x) ∧
      (w.alloc (.cells #[x] 47)).heap.size ≤ w'.heap.size ∧ (∀ k, k < w.heap.size → v.ownBlock ≠ some k → w'.heap[k]? = w.heap[k]?) ∧ (v'.ownBlock = v.ownBlock ∨ v'.ownBlock = some (w.heap.size + 1)) ∧
      w'.os = w.os ∧ w'.tape = w.tape ∧ w'.output = w.output := by
  have hT' : (w.alloc (.cells #[x] 47)).ownsRow B 47 1 v m ((List.range m).map V) := own_kept hT fun k hk _ => Below.heap_alloc _ _ _ hk
  obtain ⟨v', w', hrun, h1, h2, h3, _⟩ := append_strong (P := Try.prog) (ty := 36) (c := 1) infoInts Try.underlying36 rfl (by omega) B v m _ hT' (rd_one w x 47) (fun u hu => by simp at hu; subst hu; exact hx) (by unfold maxLen; omega) (by omega) (by simp; omega)
  refine ⟨v', w', hrun, ?_, h2.size, fun k hk hne => ?_, by simpa using h3, h2.os, h2.tape, h2.output⟩
  · unfold Table
    rw [range_upd]
    exact h1
  · rw [h2.block k (by simp; omega) (fun e => hne e.symm), Below.heap_alloc _ _ _ hk]

/-- The first half of Ints: the list itself. -/
theorem keep_first {w w1 : World} {B b m : Nat} {F V U : Nat → Value} {L : Nat → List Int} {v1 : Value} (h : KeptInts w B b F m V U L) (lv : Value)
    (ht : Table w1 B v1 (m + 1) (upd V m lv)) (hk : ∀ k, k < w.heap.size → (F 2).ownBlock ≠ some k → w1.heap[k]? = w.heap[k]?) (hc : v1.ownBlock = (F 2).ownBlock ∨ v1.ownBlock = some (w.heap.size + 1)) :
    BookAt (w1.setCell ⟨b, 2, none⟩ v1) b (upd F 2 v1) ∧ Table (w1.setCell ⟨b, 2, none⟩ v1) B v1 (m + 1) (upd V m lv) ∧ Table (w1.setCell ⟨b, 2, none⟩ v1) B (F 3) m U ∧ (∀ k, v1.ownBlock = some k → (F 3).ownBlock ≠ some k) ∧
      Lists (w1.setCell ⟨b, 2, none⟩ v1) B m V L ∧ Lists (w1.setCell ⟨b, 2, none⟩ v1) B m U L ∧ w1.cell? ⟨b, 2, none⟩ = some (F 2) ∧ w1.frozen? ⟨b, 2, none⟩ = false ∧
      ∀ (B0 : Nat) (v : Value) (n : Nat) (xs : List Value), w.ownsRow B0 3 1 v n xs → (w1.setCell ⟨b, 2, none⟩ v1).ownsRow B0 3 1 v n xs := by
  obtain ⟨h1, h2, h3, h4, h5, h6, h7⟩ := h
  have hb1 : w1.heap[b]? = w.heap[b]? := hk b h1.lt (own_ne h3 h1 (by decide))
  have hB1 := h1.kept hb1
  have hint : ∀ (B0 : Nat) (v : Value) (n : Nat) (xs : List Value), w.ownsRow B0 3 1 v n xs → (w1.setCell ⟨b, 2, none⟩ v1).ownsRow B0 3 1 v n xs := by
    intro B0 v n xs hv
    refine own_kept hv fun k hk1 hk2 => ?_
    rw [Below.heap_setCell _ _ _ _ (fun e => own_ne hv h1 (by decide) (by rw [hk2]; exact congrArg some e))]
    exact hk k hk1 (fun e => own_own_ne h3 hv (by decide) k e hk2)
  refine ⟨hB1.set (by omega) v1, ?_, ?_, ?_, ⟨fun i hi => hint _ _ _ _ (h6.1 i hi), h6.2⟩, ⟨fun i hi => hint _ _ _ _ (h7.1 i hi), h7.2⟩, hB1.cell (by omega), hB1.warm 2, hint⟩
  · exact own_kept ht fun k _ hk2 => Below.heap_setCell _ _ _ _ (fun e => own_ne ht hB1 (by decide) (by rw [hk2]; exact congrArg some e))
  · refine own_kept h4 fun k hk1 hk2 => ?_
    rw [Below.heap_setCell _ _ _ _ (fun e => own_ne h4 h1 (by decide) (by rw [hk2]; exact congrArg some e))]
    exact hk k hk1 (fun e => h5 k e hk2)
  · intro k hk1 hk2
    rcases hc with hc | hc
    · exact h5 k (by rw [← hc]; exact hk1) hk2
    · have := own_lt h4 k hk2
      rw [hc] at hk1
      injection hk1 with hk1
      omega

theorem own_base {w : World} {B B' : Nat} {e : TypeId} {size n : Nat} {v : Value} {xs : List Value} (h : w.ownsRow B e size v n xs) (hB : B' ≤ B) : w.ownsRow B' e size v n xs := by
  refine ⟨h.1, ?_⟩
  rcases h.2 with h2 | ⟨g, cap, cur, hv, hg, r⟩
  · exact .inl h2
  · exact .inr ⟨g, cap, cur, hv, by omega, r⟩

/-- The second half of Ints: the copy. -/
theorem keep_second {w2 w3 w4 : World} {B b m n : Nat} {F V U : Nat → Value} {L : Nat → List Int} {lv cv v1 v4 : Value} {l : List Int} (hl : l.length = n)
    (hBA : BookAt w2 b (upd F 2 v1)) (hBb : B ≤ b) (ht1 : Table w2 B v1 (m + 1) (upd V m lv)) (ht2 : Table w2 B (F 3) m U) (hsep : ∀ k, v1.ownBlock = some k → (F 3).ownBlock ≠ some k) (hLV : Lists w2 B m V L) (hLU : Lists w2 B m U L)
    (hlv : w2.ownsRow B 3 1 lv n (ints .i64 l)) (hd : ∀ i, i < m → ∀ k, lv.ownBlock = some k → (V i).ownBlock ≠ some k)
    (hb3 : Below w2.heap.size w2 w3) (hcv : w3.ownsRow w2.heap.size 3 1 cv n (ints .i64 l))
    (ht4 : Table w4 B v4 (m + 1) (upd U m cv)) (hk : ∀ k, k < w3.heap.size → (F 3).ownBlock ≠ some k → w4.heap[k]? = w3.heap[k]?) (hc : v4.ownBlock = (F 3).ownBlock ∨ v4.ownBlock = some (w3.heap.size + 1)) (hBs : B ≤ w2.heap.size) :
    KeptInts (w4.setCell ⟨b, 3, none⟩ v4) B b (upd (upd F 2 v1) 3 v4) (m + 1) (upd V m lv) (upd U m cv) (fun k => if k = m then l else L k) ∧ w4.cell? ⟨b, 3, none⟩ = some (F 3) ∧ w4.frozen? ⟨b, 3, none⟩ = false ∧
      ∀ (B0 : Nat) (v : Value) (n : Nat) (xs : List Value), w2.ownsRow B0 3 1 v n xs → (w4.setCell ⟨b, 3, none⟩ v4).ownsRow B0 3 1 v n xs := by
  have hz := hb3.size
  have hbl := hBA.lt
  have ht2b : Table w3 B (F 3) m U := own_kept ht2 fun k hk _ => hb3.block k hk
  have ht1b : Table w3 B v1 (m + 1) (upd V m lv) := own_kept ht1 fun k hk _ => hb3.block k hk
  have hB3 : BookAt w3 b (upd F 2 v1) := hBA.kept (hb3.block b hbl)
  have hB4 : BookAt w4 b (upd F 2 v1) := hB3.kept (hk b (by omega) (own_ne ht2b hB3 (by decide)))
  have hint : ∀ (B0 : Nat) (v : Value) (n : Nat) (xs : List Value), w3.ownsRow B0 3 1 v n xs → (w4.setCell ⟨b, 3, none⟩ v4).ownsRow B0 3 1 v n xs := by
    intro B0 v n xs hv
    refine own_kept hv fun k hk1 hk2 => ?_
    rw [Below.heap_setCell _ _ _ _ (fun e => own_ne hv hB3 (by decide) (by rw [hk2]; exact congrArg some e))]
    exact hk k hk1 (fun e => own_own_ne ht2b hv (by decide) k e hk2)
  have hold : ∀ (B0 : Nat) (v : Value) (n : Nat) (xs : List Value), w2.ownsRow B0 3 1 v n xs → (w4.setCell ⟨b, 3, none⟩ v4).ownsRow B0 3 1 v n xs := fun B0 v n xs hv => hint _ _ _ _ (own_kept hv fun k hk _ => hb3.block k hk)
  subst hl
  refine ⟨⟨hB4.set (by omega) v4, hBb, ?_, ?_, ?_, Lists.more ⟨fun i hi => hold _ _ _ _ (hLV.1 i hi), hLV.2⟩ (hold _ _ _ _ hlv) hd, Lists.more ⟨fun i hi => hold _ _ _ _ (hLU.1 i hi), hLU.2⟩ (hint _ _ _ _ (own_base hcv hBs)) ?_⟩, ?_, hB4.warm 3, hold⟩
  · show Table _ B (upd (upd F 2 v1) 3 v4 2) (m + 1) _
    rw [upd_other _ _ (by omega), upd_same]
    refine own_kept ht1b fun k hk1 hk2 => ?_
    rw [Below.heap_setCell _ _ _ _ (fun e => own_ne ht1b hB3 (by decide) (by rw [hk2]; exact congrArg some e))]
    exact hk k hk1 (fun e => hsep k hk2 e)
  · show Table _ B (upd (upd F 2 v1) 3 v4 3) (m + 1) _
    rw [upd_same]
    exact own_kept ht4 fun k _ hk2 => Below.heap_setCell _ _ _ _ (fun e => own_ne ht4 hB4 (by decide) (by rw [hk2]; exact congrArg some e))
  · intro k hk1
    rw [upd_other _ _ (by omega), upd_same] at hk1
    rw [upd_same]
    intro hk2
    rcases hc with hc | hc
    · exact hsep k hk1 (by rw [← hc]; exact hk2)
    · have := own_lt ht1b k hk1
      rw [hc] at hk2
      injection hk2 with hk2
      omega
  · intro i hi k hk1 hk2
    have h1 := own_ge hcv k hk1
    have h2 := own_lt (hLU.1 i hi) k hk2
    omega
  · have := hB4.cell (i := 3) (by omega)
    rwa [upd_other _ _ (by omega)] at this

set_option maxRecDepth 100000 in
set_option maxHeartbeats 1000000 in
theorem bookInts_any (b B m n cl : Nat) (F V U : Nat → Value) (L : Nat → List Int) (Al : Option Addr) (l : List Int) (w : World) (h : KeptInts w B b F m V U L) (hm : m < 250) (hlv : w.ownsRow B 3 1 (.slice Al n cl) n (ints .i64 l)) (hl : l.length = n) (hn : n ≤ 1000000)
    (hd : ∀ i, i < m → ∀ k, (Value.slice Al n cl).ownBlock = some k → (V i).ownBlock ≠ some k) :
    Calls Try.prog 20 #[.pointer (some ⟨b, 0, none⟩), .slice Al n cl] w fun e w' => e = .returned (.tuple #[]) ∧
      ∃ F' cv, KeptInts w' B b F' (m + 1) (upd V m (.slice Al n cl)) (upd U m cv) (fun k => if k = m then l else L k) ∧ (∀ k, k ≠ 2 → k ≠ 3 → F' k = F k) ∧ Below B w w' ∧ ∀ (B0 : Nat) (v : Value) (n : Nat) (xs : List Value), w.ownsRow B0 3 1 v n xs → w'.ownsRow B0 3 1 v n xs := by
  have HK := Lib.hid h
  obtain ⟨h1, h2, h3, h4, h5, h6, h7⟩ := h
  have hbl := h1.lt
  have hBs : B ≤ w.heap.size := by omega
  obtain ⟨A2, c2, e2⟩ := own_form h3
  obtain ⟨A3, c3, e3⟩ := own_form h4
  have hc2 := h1.cell (i := 2) (by omega)
  obtain ⟨v1, w1, hrun1, ht1, hsz1, hk1, hv1, ho1, ho2, ho3⟩ := table_push h3 (.slice Al n cl) rfl (by omega) hBs
  obtain ⟨k1, k2, k3, k4, k5, k6, k7, k8, k9⟩ := keep_first HK.out _ ht1 hk1 hv1
  obtain ⟨A1, c1, e1⟩ := own_form ht1
  have hc3 : (w1.setCell ⟨b, 2, none⟩ v1).cell? ⟨b, 3, none⟩ = some (F 3) := by
    have := k1.cell (i := 3) (by omega)
    rwa [upd_other _ _ (by omega)] at this
  have hown2 := k9 _ _ _ _ hlv
  have K9 := Lib.hid k9
  have hB1 : Below B w (w1.setCell ⟨b, 2, none⟩ v1) := by
    have hx : Below B w w1 := ⟨ho1, ho2, ho3, by simp at hsz1; omega, fun k hk => hk1 k (by omega) (fun e => by have := own_ge h3 k e; omega)⟩
    exact hx.setCell h2 _
  have hz1 : w.heap.size + 1 ≤ w1.heap.size := by simpa using hsz1
  rw [e2] at hc2 hrun1 k7
  rw [e3] at hc3
  subst e1
  have HR1 := Lib.hid hrun1
  have K1 := Lib.hid k1; have K2 := Lib.hid k2; have K3 := Lib.hid k3; have K4 := Lib.hid k4; have K5 := Lib.hid k5; have K6 := Lib.hid k6
  have HE3 := Lib.hid e3
  have HO2 := Lib.hid hown2
  clear hrun1 k1 k2 k3 k4 k5 k6 k9 e2 e3 h1 h3 h4 h5 h6 h7 ht1 hk1 hv1 ho1 ho2 ho3 hown2
  go_enter Try.func20, Try.ntmps20
  go_wp2_with (at_builtin; refine wpList_append_run rfl _ _ _ rfl _ _ _ _ rfl rfl HR1.out ?_)
  generalize w1.setCell ⟨b, 2, none⟩ (Value.slice A1 (m + 1) c1) = w2 at *
  have hbl2 : b < w2.heap.size := by have := hB1.size; omega
  have HD := Lib.hid hd
  clear hd
  go_region_law (first
    | (obtain ⟨v4, w4, hrun4, ht4, hsz4, hk4, hv4, hp1, hp2, hp3⟩ := table_push (w := w3) (own_kept K3.out fun k hk _ => hb3.block k hk) (.slice A5 n c5) rfl (by omega) (Nat.le_trans (Nat.le_trans h2 (Nat.le_of_lt hbl2)) hb3.size)
       rw [HE3.out] at hrun4 hk4 hv4
       obtain ⟨A4, c4, rfl⟩ := own_form ht4
       refine step_append_run rfl (.tmp 24) (.tmp 27) 36 rfl (.slice A3 m c3) (.slice (some ⟨w3.heap.size, 0, none⟩) 1 1) (.slice A4 (m + 1) c4) w4 (by simp [Act.eval]) (by simp [Act.eval]) hrun4 ?_
       obtain ⟨hfin, hx1, hx2, hx3⟩ := keep_second hl K1.out h2 K2.out K3.out K4.out K5.out K6.out HO2.out HD.out ⟨hb3.os, hb3.tape, hb3.output, hb3.size, hb3.block⟩ hcv ht4 (by rw [HE3.out]; exact hk4) (by rw [HE3.out]; exact hv4) (Nat.le_trans h2 (Nat.le_of_lt hbl2))
       rw [HE3.out] at hx1)
    | (go_simp; go_at_call 28; refine (copyInts_any l Al n cl _ w2.drew (rd_of_own HO2.out) (by omega)).mono ?_; rintro e w3 ⟨A5, c5, rfl, hcv, hb3⟩; have hc3b := (hb3.cell (p := ⟨b, 3, none⟩) hbl2).trans hc3; have hbl3 : b < w3.heap.size := Nat.lt_of_lt_of_le hbl2 hb3.size))
  all_goals
    go_end0
    refine ⟨rfl, _, _, hfin, fun k e2 e3 => by rw [upd_other _ _ e3, upd_other _ _ e2], ?_, fun B0 v n xs hv => hx3 _ _ _ _ (K9.out _ _ _ _ hv)⟩
    have hx4 : Below B w3 w4 := ⟨hp1, hp2, hp3, by simp at hsz4; omega, fun k hk => hk4 k (Nat.lt_of_lt_of_le hk (Nat.le_trans (Nat.le_trans h2 (Nat.le_of_lt hbl2)) hb3.size)) (fun e => by have := own_ge K3.out k (by rw [HE3.out]; exact e); omega)⟩
    exact ((hB1.drew.trans (hb3.mono (Nat.le_trans h2 (Nat.le_of_lt hbl2)))).trans hx4).setCell h2 _
end Go.Proofs.Ytehpecjnldbaiaa
