/-
  Several texts, one behind the other: what each holds stands ahead of it.
-/
import Derived.Test.YthjpknipnmagkaaGreatMany12
import Derived.Test.YthjpknipnmagkaaGreatMany13
import Derived.Test.YthjpknipnmagkaaGreatInsertJr

/-
  Contracts of (*Book).live, Len, Void, Drop, Get.
-/
namespace Go.Proofs.YthjpknipnmagkaaGreat
open Go.RowKit

theorem find_jr (l : List JR) (x : Int) : findK Jrn.id (l.map JR.j) x = (findK JR.id l x).map JR.j := findK_map _ _ _
theorem liveE_none {l : List JR} {x : Int} (h : findK JR.id l x = none) : liveE (l.map JR.j) x = 9 := by unfold liveE; rw [find_jr, h]; rfl
theorem liveE_void {l : List JR} {x : Int} {a : JR} (h : findK JR.id l x = some a) (hv : a.j.void = true) : liveE (l.map JR.j) x = 11 := by unfold liveE; rw [find_jr, h]; simp [hv]
theorem liveE_ok {l : List JR} {x : Int} {a : JR} (h : findK JR.id l x = some a) (hv : a.j.void = false) : liveE (l.map JR.j) x = 0 := by unfold liveE; rw [find_jr, h]; simp [hv]

set_option maxRecDepth 100000 in
theorem len_any (B c : Nat) (v : Value) (l : List JR) (w : World) (h : TomeAt w B c v l) :
    Calls Tryz.prog 278 #[.pointer (some ⟨c, 0, none⟩)] w fun e w' => e = .returned (.int .i64 (l.length : Nat)) ∧ w = w' := by
  have hc := h.cell
  obtain ⟨A, cap, rfl⟩ := h.form
  have hlen := h.len
  clear h
  go_enter Tryz.func278, Tryz.ntmps278
  go_wp2
  go_ret
  exact ⟨rfl, rfl⟩
set_option maxRecDepth 100000 in
theorem len_nil (w : World) : Calls Tryz.prog 278 #[.pointer none] w fun e w' => e = .returned (.int .i64 0) ∧ w = w' := by
  go_enter Tryz.func278, Tryz.ntmps278
  go_wp2
  go_ret
  exact ⟨rfl, rfl⟩

/-- A row that was put in another one's place. -/
theorem TomeAt.place {w w' : World} {B c g cap : Nat} {l : List JR} {p : Nat} {a b : JR} (h : TomeAt w B c (.slice (some ⟨g, 0, none⟩) l.length cap) l) (hp : l[p]? = some a) (hid : b.j.id = a.j.id) (hok : checkE b.j = 0)
    (hown : w'.ownsRow B 104 6 (.slice (some ⟨g, 0, none⟩) l.length cap) l.length (jrs (l.set p b))) (hb : But (fun k => k = g) w w') (hline : w'.ownsRow B 106 3 b.lv b.j.lines.length (lins b.j.lines)) : TomeAt w' B c (.slice (some ⟨g, 0, none⟩) l.length cap) (l.set p b) := by
  have hcg : c ≠ g := fun e => h.apart (by rw [e]; rfl)
  refine ⟨(hb.block c h.lt hcg).trans h.blk, h.low, by rw [List.length_set]; exact hown, fun x hx => ?_, ?_, by rw [List.length_set]; exact h.len, fun x hx => ?_⟩
  · rcases List.mem_or_eq_of_mem_set hx with h1 | h1
    · refine own_kept (h.lines x h1) fun k hk ho => hb.block k hk fun e => ?_
      exact h.apartR h1 g rfl (by rw [← e]; exact ho)
    · rw [h1]; exact hline
  · have hl := (List.getElem?_eq_some_iff.1 hp).1
    unfold Rise
    rw [List.pairwise_iff_getElem]
    intro i j hi hj hij
    rw [List.length_set] at hi hj
    have h0 : ∀ (i : Nat) (hi : i < l.length), JR.id ((l.set p b)[i]'(by rw [List.length_set]; exact hi)) = JR.id l[i] := by
      intro i hi
      rw [List.getElem_set]
      split
      · rename_i e
        subst e
        have : l[p] = a := by rw [List.getElem?_eq_getElem hl] at hp; injection hp
        rw [this]; exact hid
      · rfl
    rw [h0 i hi, h0 j hj]
    exact List.pairwise_iff_getElem.1 h.rise i j hi hj hij
  · rcases List.mem_or_eq_of_mem_set hx with h1 | h1
    · exact h.ok x h1
    · rw [h1]; exact hok
theorem setJ_map {l : List JR} (h : Rise JR.id l) {x : Int} {a b : JR} (hf : findK JR.id l x = some a) (hid : b.j.id = a.j.id) : (l.set (posK JR.id l x) b).map JR.j = putK Jrn.id (l.map JR.j) b.j := by
  have hk := (findK_some h hf).2
  have hx : x = b.j.id := by rw [hid]; exact hk.symm
  have h1 : putK JR.id l b = l.set (posK JR.id l x) b := by
    have := putK_found h (a := b) (by show (findK JR.id l b.j.id).isSome = true; rw [← hx, hf]; rfl)
    rw [this, hx]; rfl
  rw [← h1]
  exact (putK_map (key := Jrn.id) JR.j l b).symm
theorem checkE_void (j : Jrn) (x : Bool) : checkE { j with void := x } = checkE j := rfl

end Go.Proofs.YthjpknipnmagkaaGreat

/-
  Contract of slices.Insert over journals: where there is room; all its ways in one.
-/
namespace Go.Proofs.YthjpknipnmagkaaGreat
open Go.RowKit

set_option maxRecDepth 100000 in
set_option maxHeartbeats 4000000 in
theorem insert_shift (l : List JR) (a : JR) (B vb g i n c : Nat) (w : World) (hn : l.length = n) (hown : w.ownsRow B 104 6 (.slice (some ⟨g, 0, none⟩) n c) n (jrs l)) (hvb : w.heap[vb]? = some (.cells a.cells.toArray 104 (0, 0))) (hgv : vb ≠ g) (hn2 : n ≤ 1000000) (hi : i < n) (hroom : n + 1 ≤ c) :
    Calls Tryz.prog 221 #[.slice (some ⟨g, 0, none⟩) n c, .int .i64 i, .slice (some ⟨vb, 0, none⟩) 1 1] w fun e w' => ∃ v', e = .returned v' ∧ Inserted w B (.slice (some ⟨g, 0, none⟩) n c) (l.take i ++ a :: l.drop i) v' w' := by
  obtain ⟨cur, hh, hBg, hnc, hcm, hcs, hcl⟩ := own_blk hown
  obtain ⟨i0, hi0, hz0, hz1, hz2⟩ := info_parts infoJrn
  obtain ⟨junk, hjl, hown0⟩ := own_more hown hroom
  have hcells := hown.cells (g := g) rfl
  have hxl : (jrs l).length = n * 6 := hown.1
  have hinfo : (Tryz.prog.info? 104).map (·.size) = some 6 := by rw [hi0]; simp [hz1]
  have hsz : ∀ w, (Go.sizeOf 104).run Tryz.prog w = .ok 6 w := fun w => by simp [sizeOf, typeInfo, hi0, hz1]
  have hov : (callFunc 246 #[.slice (some ⟨vb, 0, none⟩) 1 1, .slice (some ⟨g, (i + 1) * 6, none⟩) (n - i) (c - (i + 1))]).run Tryz.prog w = .ok (.value (.bool false)) w := by
    rw [run_callFunc_extern Tryz.func246 (by kernel_rfl) (by kernel_rfl) (by kernel_rfl) (e := Extern.SlicesOverlaps.overlaps #[48, 48] #[4]) (by kernel_rfl),
      Lib.run_overlaps_apart w 48 4 104 Tryz.underlying48 6 hsz ⟨vb, 0, none⟩ ⟨g, (i + 1) * 6, none⟩ 1 1 (n - i) (c - (i + 1)) hgv 104 104 6 (c * 6) (by simp [World.shape?, hvb, JR.cells]) (by simp [World.shape?, hh, hcs]) (by omega) (warm_of hvb _) (warm_of hvb _)]
    rfl
  have hsrc : ∀ j u, ((jrs l).drop (i * 6))[j]? = some u → w.drew.cell? ((⟨g, i * 6, none⟩ : Addr).add j) = some u := by
    intro j u hu
    rw [List.getElem?_drop] at hu
    have := hcells _ u hu
    rw [Addr.add_lit] at this ⊢
    rw [Nat.zero_add] at this
    exact this
  have hcp1 : ∀ ty dc sc, _ := fun ty dc sc => copy_own (P := Tryz.prog) (w := w.drew) (ty := ty) hown0 Tryz.underlying48 hinfo (i + 1) (n - i) (n - i) dc (n + 1 - i) sc ⟨g, i * 6, none⟩ ((jrs l).drop (i * 6)) (by simp only [Nat.min_def]; split <;> omega) (by simp [hxl]; omega) (by omega) hsrc (fun u hu => jrs_one l u (List.mem_of_mem_drop hu))
  have hown1 := (hcp1 0 0 0).2
  generalize hW1 : w.drew.setCells g ((i + 1) * 6) ((jrs l).drop (i * 6)) = W1 at hcp1 hown1
  have hk1 : ∀ k, k ≠ g → W1.heap[k]? = w.heap[k]? := fun k hk => by rw [← hW1, setCells_other _ _ _ _ hk]; rfl
  have hcp2 : ∀ ty dc, _ := fun ty dc => copy_own (P := Tryz.prog) (w := W1) (ty := ty) hown1 Tryz.underlying48 hinfo i 1 (n + 1 - i) dc 1 1 ⟨vb, 0, none⟩ a.cells (by simp only [Nat.min_def]; split <;> omega) rfl (by omega) (rd_at ((hk1 vb hgv).trans hvb)) (cells_oneJ a)
  have hown2 := (hcp2 0 0).2
  rw [ins_here hxl (by omega) hjl rfl, ← jrs_ins] at hown2
  generalize hW2 : W1.setCells g (i * 6) a.cells = W2 at hcp2 hown2
  have HI : Hid (Inserted w B (.slice (some ⟨g, 0, none⟩) n c) (l.take i ++ a :: l.drop i) (.slice (some ⟨g, 0, none⟩) (n + 1) c) W2) := by
    have h1 := setCells_below (B := 0) (g := g) (Nat.zero_le _) ((jrs l).drop (i * 6)) w.drew ((i + 1) * 6)
    have h2 := setCells_below (B := 0) (g := g) (Nat.zero_le _) a.cells W1 (i * 6)
    rw [hW1] at h1
    rw [hW2] at h2
    refine ⟨?_, ⟨h2.os.trans h1.os, h2.tape.trans h1.tape, h2.output.trans h1.output, Nat.le_trans h1.size h2.size, fun k hk hne => ?_⟩, .inl rfl⟩
    · rw [show (l.take i ++ a :: l.drop i).length = n + 1 by simp; omega]; exact hown2
    · have hkg : k ≠ g := fun e => hne (by rw [e]; rfl)
      rw [← hW2, setCells_other _ _ _ _ hkg, hk1 k hkg]
  have HC1 := Lib.hid hcp1; have HC2 := Lib.hid hcp2
  have hc63 : c ≤ 9223372036854775807 := by unfold maxLen at hcm; omega
  clear hcp1 hcp2 hown hown0 hown1 hown2 hcells hsrc hh hcs hcl hz0 hz1 hz2 hi0 hinfo hxl hn hvb hk1 hW1 hW2 hcm hnc hjl hsz
  have hw1 : IntKind.i64.wrap ((i : Int) + 1) = (i : Int) + 1 := by rw [IntKind.wrap_i64]; omega
  have hb1 : (0 : Int) ≤ (i : Int) + 1 := by omega
  have htn : ((i : Int) + 1).toNat = i + 1 := by omega
  have hci : ¬ (c = i) := by omega
  have hci1 : ¬ (c = i + 1) := by omega
  have hin : i ≤ n := by omega
  have hb3 : (i : Int) ≤ (n : Int) + 1 := by omega
  have hb4 : i ≤ n + 1 := by omega
  have ht1 : ((i : Int) == (n : Int)) = false := by simp; omega
  have ht2 : decide ((c : Int) < (n : Int) + 1) = false := by simp; omega
  have hc2 := (HC2.out 3 (c - i)).1
  go_enter Tryz.func221, Tryz.ntmps221
  go_wp2_with fail
  go_region_law (refine step_copy_run rfl _ _ _ _ rfl (.slice (some ⟨g, (i + 1) * 6, none⟩) (n - i) (c - (i + 1))) (.slice (some ⟨g, i * 6, none⟩) (n + 1 - i) (c - i)) _ _ (by simp [Act.eval, Act.put]) (by simp [Act.eval, Act.put]) (HC1.out _ _ _).1 ?_)
  go_wp2
  go_ret
  exact ⟨_, rfl, HI.out⟩

theorem insert_any (l : List JR) (a : JR) (B vb i n c : Nat) (A : Option Addr) (w : World) (hn : l.length = n) (hown : w.ownsRow B 104 6 (.slice A n c) n (jrs l)) (hvb : w.heap[vb]? = some (.cells a.cells.toArray 104 (0, 0))) (hne : (Value.slice A n c).ownBlock ≠ some vb) (hn2 : n ≤ 1000000) (hB : B ≤ w.heap.size) (hi : i ≤ n) :
    Calls Tryz.prog 221 #[.slice A n c, .int .i64 i, .slice (some ⟨vb, 0, none⟩) 1 1] w fun e w' => ∃ v', e = .returned v' ∧ Inserted w B (.slice A n c) (l.take i ++ a :: l.drop i) v' w' := by
  by_cases he : i = n
  · subst he
    rw [List.take_of_length_le (by omega), List.drop_eq_nil_of_le (by omega)]
    exact insert_end l a B vb i c A w hn hown hvb hn2 hB
  · obtain ⟨g, cap, hv, _⟩ := hown.form (by omega)
    injection hv with hA _ hc
    subst hA hc
    by_cases hc : n + 1 ≤ c
    · exact insert_shift l a B vb g i n c w hn hown hvb (fun e => hne (by rw [e]; rfl)) hn2 (by omega) hc
    · exact insert_grow l a B vb g i n c w hn hown hvb hn2 hB (by omega) (by omega)
end Go.Proofs.YthjpknipnmagkaaGreat
