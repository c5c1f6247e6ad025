/-
  Contract of slices.Insert over journals: where there is room; all its ways in one.
-/
import Derived.Test.YtpbdmohccebhhaaGreatInsertJr
namespace Go.Proofs.YtpbdmohccebhhaaGreat
open Go.RowKit

set_option maxRecDepth 100000 in
set_option maxHeartbeats 4000000 in
theorem insert_shift (l : List JR) (a : JR) (B vb g i n c : Nat) (w : World) (hn : l.length = n) (hown : w.ownsRow B 43 6 (.slice (some ⟨g, 0, none⟩) n c) n (jrs l)) (hvb : w.heap[vb]? = some (.cells a.cells.toArray 43 (0, 0))) (hgv : vb ≠ g) (hn2 : n ≤ 1000000) (hi : i < n) (hroom : n + 1 ≤ c) :
    Calls Tryz.prog 60 #[.slice (some ⟨g, 0, none⟩) n c, .int .i64 i, .slice (some ⟨vb, 0, none⟩) 1 1] w fun e w' => ∃ v', e = .returned v' ∧ Inserted w B (.slice (some ⟨g, 0, none⟩) n c) (l.take i ++ a :: l.drop i) v' w' := by
  obtain ⟨cur, hh, hBg, hnc, hcm, hcs, hcl⟩ := own_blk hown
  obtain ⟨i0, hi0, hz0, hz1, hz2⟩ := info_parts infoJrn
  obtain ⟨junk, hjl, hown0⟩ := own_more hown hroom
  have hcells := hown.cells (g := g) rfl
  have hxl : (jrs l).length = n * 6 := hown.1
  have hinfo : (Tryz.prog.info? 43).map (·.size) = some 6 := by rw [hi0]; simp [hz1]
  have hsz : ∀ w, (Go.sizeOf 43).run Tryz.prog w = .ok 6 w := fun w => by simp [sizeOf, typeInfo, hi0, hz1]
  have hov : (callFunc 155 #[.slice (some ⟨vb, 0, none⟩) 1 1, .slice (some ⟨g, (i + 1) * 6, none⟩) (n - i) (c - (i + 1))]).run Tryz.prog w = .ok (.value (.bool false)) w := by
    rw [run_callFunc_extern Tryz.func155 (by kernel_rfl) (by kernel_rfl) (by kernel_rfl) (e := Extern.SlicesOverlaps.overlaps #[25, 25] #[4]) (by kernel_rfl),
      Lib.run_overlaps_apart w 25 4 43 Tryz.underlying25 6 hsz ⟨vb, 0, none⟩ ⟨g, (i + 1) * 6, none⟩ 1 1 (n - i) (c - (i + 1)) hgv 43 43 6 (c * 6) (by simp [World.shape?, hvb, JR.cells]) (by simp [World.shape?, hh, hcs]) (by omega) (warm_of hvb _) (warm_of hvb _)]
    rfl
  have hsrc : ∀ j u, ((jrs l).drop (i * 6))[j]? = some u → w.drew.cell? ((⟨g, i * 6, none⟩ : Addr).add j) = some u := by
    intro j u hu
    rw [List.getElem?_drop] at hu
    have := hcells _ u hu
    rw [Addr.add_lit] at this ⊢
    rw [Nat.zero_add] at this
    exact this
  have hcp1 : ∀ ty dc sc, _ := fun ty dc sc => copy_own (P := Tryz.prog) (w := w.drew) (ty := ty) hown0 Tryz.underlying25 hinfo (i + 1) (n - i) (n - i) dc (n + 1 - i) sc ⟨g, i * 6, none⟩ ((jrs l).drop (i * 6)) (by simp only [Nat.min_def]; split <;> omega) (by simp [hxl]; omega) (by omega) hsrc (fun u hu => jrs_one l u (List.mem_of_mem_drop hu))
  have hown1 := (hcp1 0 0 0).2
  generalize hW1 : w.drew.setCells g ((i + 1) * 6) ((jrs l).drop (i * 6)) = W1 at hcp1 hown1
  have hk1 : ∀ k, k ≠ g → W1.heap[k]? = w.heap[k]? := fun k hk => by rw [← hW1, setCells_other _ _ _ _ hk]; rfl
  have hcp2 : ∀ ty dc, _ := fun ty dc => copy_own (P := Tryz.prog) (w := W1) (ty := ty) hown1 Tryz.underlying25 hinfo i 1 (n + 1 - i) dc 1 1 ⟨vb, 0, none⟩ a.cells (by simp only [Nat.min_def]; split <;> omega) rfl (by omega) (rd_at ((hk1 vb hgv).trans hvb)) (cells_oneJ a)
  have hown2 := (hcp2 0 0).2
  rw [ins_here hxl (by omega) hjl rfl, ← jrs_ins] at hown2
  generalize hW2 : W1.setCells g (i * 6) a.cells = W2 at hcp2 hown2
  have HI : Hid (Inserted w B (.slice (some ⟨g, 0, none⟩) n c) (l.take i ++ a :: l.drop i) (.slice (some ⟨g, 0, none⟩) (n + 1) c) W2) := by
    have h1 := setCells_below (B := 0) (g := g) (Nat.zero_le _) ((jrs l).drop (i * 6)) w.drew ((i + 1) * 6)
    have h2 := setCells_below (B := 0) (g := g) (Nat.zero_le _) a.cells W1 (i * 6)
    rw [hW1] at h1
    rw [hW2] at h2
    refine ⟨?_, ⟨h2.os.trans h1.os, h2.tape.trans h1.tape, h2.output.trans h1.output, Nat.le_trans h1.size h2.size, fun k hk hne => ?_⟩, .inl rfl⟩
    · rw [show (l.take i ++ a :: l.drop i).length = n + 1 by simp; omega]; exact hown2
    · have hkg : k ≠ g := fun e => hne (by rw [e]; rfl)
      rw [← hW2, setCells_other _ _ _ _ hkg, hk1 k hkg]
  have HC1 := Lib.hid hcp1; have HC2 := Lib.hid hcp2
  have hc63 : c ≤ 9223372036854775807 := by unfold maxLen at hcm; omega
  clear hcp1 hcp2 hown hown0 hown1 hown2 hcells hsrc hh hcs hcl hz0 hz1 hz2 hi0 hinfo hxl hn hvb hk1 hW1 hW2 hcm hnc hjl hsz
  have hw1 : IntKind.i64.wrap ((i : Int) + 1) = (i : Int) + 1 := by rw [IntKind.wrap_i64]; omega
  have hb1 : (0 : Int) ≤ (i : Int) + 1 := by omega
  have htn : ((i : Int) + 1).toNat = i + 1 := by omega
  have hci : ¬ (c = i) := by omega
  have hci1 : ¬ (c = i + 1) := by omega
  have hin : i ≤ n := by omega
  have hb3 : (i : Int) ≤ (n : Int) + 1 := by omega
  have hb4 : i ≤ n + 1 := by omega
  have ht1 : ((i : Int) == (n : Int)) = false := by simp; omega
  have ht2 : decide ((c : Int) < (n : Int) + 1) = false := by simp; omega
  have hc2 := (HC2.out 3 (c - i)).1
  go_enter Tryz.func60, Tryz.ntmps60
  go_wp2_with fail
  go_region_law (refine step_copy_run rfl _ _ _ _ rfl (.slice (some ⟨g, (i + 1) * 6, none⟩) (n - i) (c - (i + 1))) (.slice (some ⟨g, i * 6, none⟩) (n + 1 - i) (c - i)) _ _ (by simp [Act.eval, Act.put]) (by simp [Act.eval, Act.put]) (HC1.out _ _ _).1 ?_)
  go_wp2
  go_ret
  exact ⟨_, rfl, HI.out⟩

theorem insert_any (l : List JR) (a : JR) (B vb i n c : Nat) (A : Option Addr) (w : World) (hn : l.length = n) (hown : w.ownsRow B 43 6 (.slice A n c) n (jrs l)) (hvb : w.heap[vb]? = some (.cells a.cells.toArray 43 (0, 0))) (hne : (Value.slice A n c).ownBlock ≠ some vb) (hn2 : n ≤ 1000000) (hB : B ≤ w.heap.size) (hi : i ≤ n) :
    Calls Tryz.prog 60 #[.slice A n c, .int .i64 i, .slice (some ⟨vb, 0, none⟩) 1 1] w fun e w' => ∃ v', e = .returned v' ∧ Inserted w B (.slice A n c) (l.take i ++ a :: l.drop i) v' w' := by
  by_cases he : i = n
  · subst he
    rw [List.take_of_length_le (by omega), List.drop_eq_nil_of_le (by omega)]
    exact insert_end l a B vb i c A w hn hown hvb hn2 hB
  · obtain ⟨g, cap, hv, _⟩ := hown.form (by omega)
    injection hv with hA _ hc
    subst hA hc
    by_cases hc : n + 1 ≤ c
    · exact insert_shift l a B vb g i n c w hn hown hvb (fun e => hne (by rw [e]; rfl)) hn2 (by omega) hc
    · exact insert_grow l a B vb g i n c w hn hown hvb hn2 hB (by omega) (by omega)
end Go.Proofs.YtpbdmohccebhhaaGreat
