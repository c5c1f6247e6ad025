/-
  Several texts, one behind the other: what each holds stands ahead of it.
-/
import Derived.Test.YtmgncoialppmpaaGreatMany21
import Derived.Lib.SliceRun
import Derived.Deep.RegionLaw

/-
  Contract of slices.Delete over rows, of one element.
-/
namespace Go.Proofs.YtmgncoialppmpaaGreat
open Go.RowKit

theorem run_clear_oneGt {P : Program} (w : World) (t e ty : TypeId) (z : Value) (zs : List Value) (ht : P.underlying t = some (.slice e)) (hv : ∀ w, (zeroValue e).run P w = .ok z w) (hz : (Builtin.zeroCells z.cells 1).toList = zs) (h1 : ∀ u ∈ zs, u.oneCell' = true) (b o c : Nat)
    (hc : ∀ j, j < zs.length → (w.cell? ⟨b, o + j, none⟩).isSome = true) (hf : ∀ j, j < zs.length → w.frozen? ⟨b, o + j, none⟩ = false) :
    (Builtin.clear_ #[t] ty #[.slice (some ⟨b, o, none⟩) 1 c]).run P w = .ok (.tuple #[]) (w.setCells b o zs) := by
  have hst := run_storeCells_cells (P := P) b o zs 0 w (by simpa using hc) (by simpa using hf) h1
  simp only [Nat.add_zero] at hst
  simp [Builtin.clear_, run_underlying ht, hv, hz, hst]
/-- A row, taken for fewer elements. -/
theorem own_lessGt {w : World} {B g n c size : Nat} {e : TypeId} {L : List Value} (h : w.ownsRow B e size (.slice (some ⟨g, 0, none⟩) n c) n L) {m : Nat} (hm : m ≤ n) : w.ownsRow B e size (.slice (some ⟨g, 0, none⟩) m c) m (L.take (m * size)) := by
  obtain ⟨cur, hh, hB, hnc, hcm, hsz, hL⟩ := own_blk h
  have hl := h.1
  have hms := Nat.mul_le_mul_right size hm
  refine ⟨by simp; omega, .inr ⟨g, c, cur, rfl, hB, hh, by omega, hcm, hsz, ?_⟩⟩
  rw [← hL, List.take_take, Nat.min_eq_left hms]
theorem del_coreGt (a m d zs : List Value) (hm : m.length = zs.length) : (setL (setL (a ++ (m ++ d)) a.length d) (a.length + d.length) zs).take (a.length + d.length) = a ++ d := by
  rw [setL_mid d a (m ++ d) (by simp)]
  have hr : ((m ++ d).drop d.length).length = m.length := by simp
  have hl : a.length + d.length = (a ++ d).length := by simp
  rw [hl, setL_mid zs (a ++ d) _ (by omega), List.append_assoc, List.take_left]
theorem del_trios (l : List Trio) (n i : Nat) (hn : l.length = n) (hi : i < n) (zs : List Value) (hz : zs.length = 3) :
    (setL (setL (trios l) (i * 3) (trios (l.drop (i + 1)))) ((n - 1) * 3) zs).take ((n - 1) * 3) = trios (l.take i ++ l.drop (i + 1)) := by
  obtain ⟨a, ha⟩ : ∃ a, l[i]? = some a := ⟨_, List.getElem?_eq_getElem (by omega)⟩
  have he : trios l = trios (l.take i) ++ (a.cells ++ trios (l.drop (i + 1))) := by
    conv => lhs; rw [← List.take_append_drop i l, List.drop_eq_getElem_cons (by omega : i < l.length)]
    rw [trios_append]
    have : l[i] = a := by rw [List.getElem?_eq_getElem (by omega)] at ha; injection ha
    rw [this]
    rfl
  have h1 : (trios (l.take i)).length = i * 3 := by rw [trios_len]; simp; omega
  have h2 : (trios (l.drop (i + 1))).length = (n - 1 - i) * 3 := by rw [trios_len]; simp; omega
  have := del_coreGt (trios (l.take i)) a.cells (trios (l.drop (i + 1))) zs (by rw [hz]; rfl)
  rw [h1, h2, ← he, show i * 3 + (n - 1 - i) * 3 = (n - 1) * 3 by omega] at this
  rw [this, trios_append]

set_option maxHeartbeats 4000000 in
set_option maxRecDepth 100000 in
theorem delete_anyGt (l : List Trio) (B g i n c : Nat) (w : World) (hn : l.length = n) (hown : w.ownsRow B 113 3 (.slice (some ⟨g, 0, none⟩) n c) n (trios l)) (hn2 : n ≤ 1000000) (hi : i < n) :
    Calls Tryz.prog 182 #[.slice (some ⟨g, 0, none⟩) n c, .int .i64 i, .int .i64 ((i : Int) + 1)] w fun e w' => e = .returned (.slice (some ⟨g, 0, none⟩) (n - 1) c) ∧ w'.ownsRow B 113 3 (.slice (some ⟨g, 0, none⟩) (n - 1) c) (n - 1) (trios (l.take i ++ l.drop (i + 1))) ∧ But (fun k => k = g) w w' := by
  obtain ⟨cur, hh, hBg, hnc, hcm, hcs, hcl0⟩ := own_blk hown
  obtain ⟨i0, hi0, hz0, hz1, hz2⟩ := info_parts infoTrio
  have hcells := hown.cells (g := g) rfl
  have hxl : (trios l).length = n * 3 := hown.1
  obtain ⟨news, hnews⟩ : ∃ news, news = trios (l.drop (i + 1)) := ⟨_, rfl⟩
  have hlen : news.length = (n - (i + 1)) * 3 := by rw [hnews, trios_len]; simp [hn]
  obtain ⟨A, hA, hsrc⟩ : ∃ A : Addr, (if c = i + 1 then some (⟨g, 0, none⟩ : Addr) else some ⟨g, (i + 1) * 3, none⟩) = some A ∧ Hid (∀ t u, news[t]? = some u → w.drew.cell? (A.add t) = some u) := by
    by_cases h : c = i + 1
    · refine ⟨⟨g, 0, none⟩, by simp [h], fun t u hu => ?_⟩
      have h0 : news.length = 0 := by rw [hlen]; omega
      rw [List.length_eq_zero_iff.1 h0] at hu
      simp at hu
    · refine ⟨⟨g, (i + 1) * 3, none⟩, by simp [h], fun t u hu => ?_⟩
      rw [hnews, ← trios_drop, List.getElem?_drop] at hu
      have := hcells _ u hu
      rw [Addr.add_lit] at this ⊢
      rw [Nat.zero_add] at this
      exact this
  have s1 : Hid (news.length = (n - (i + 1)) * 3) := hlen
  have s2 : Hid (∀ u ∈ news, u.oneCell' = true) := by rw [hnews]; exact trios_one _
  have hsome : ∀ j, j < n * 3 → (w.cell? ⟨g, j, none⟩).isSome = true := fun j hj => by
    obtain ⟨u, hu⟩ := own_some hown (j := j) (by omega)
    rw [hu]; rfl
  have s3 : Hid (∀ t, t < news.length → (w.drew.cell? ⟨g, 0 + i * 3 + t, none⟩).isSome = true ∧ w.drew.frozen? ⟨g, 0 + i * 3 + t, none⟩ = false) := by
    intro t ht
    rw [hlen] at ht
    exact ⟨hsome _ (by omega), own_warm hown _⟩
  obtain ⟨W1, hW1⟩ : ∃ W1, W1 = w.drew.setCells g (0 + i * 3) news := ⟨_, rfl⟩
  have hown1 : W1.ownsRow B 113 3 (.slice (some ⟨g, 0, none⟩) n c) n (setL (trios l) (i * 3) news) := by
    rw [hW1, Nat.zero_add]
    exact own_setL news w.drew _ _ hown
  have hsome1 : ∀ j, j < n * 3 → (W1.cell? ⟨g, j, none⟩).isSome = true := fun j hj => by
    obtain ⟨u, hu⟩ := own_some hown1 (j := j) (by rw [setL_len]; omega)
    rw [hu]; rfl
  have hcl : ∀ ty, (Builtin.clear_ #[23] ty #[.slice (some ⟨g, (n - 1) * 3, none⟩) 1 (c - (n - 1))]).run Tryz.prog W1 = .ok (.tuple #[]) (W1.setCells g ((n - 1) * 3) [.int .i64 0, .int .i64 0, .int .i64 0]) :=
    fun ty => run_clear_oneGt W1 _ _ ty (.agg #[.int .i64 0, .int .i64 0, .int .i64 0]) _ Tryz.underlying23 (fun w => by simp [zeroValue, typeInfo, hi0, hz0]) (by kernel_rfl) (by intro u hu; simp at hu; subst hu; rfl) g _ _ (fun j hj => hsome1 _ (by simp at hj; omega)) (fun j _ => own_warm hown1 _)
  have hown2 := own_lessGt (own_setL [.int .i64 0, .int .i64 0, .int .i64 0] W1 ((n - 1) * 3) _ hown1) (m := n - 1) (by omega)
  rw [hnews, del_trios l n i hn hi _ rfl] at hown2
  generalize hW2 : W1.setCells g ((n - 1) * 3) [.int .i64 0, .int .i64 0, .int .i64 0] = W2 at hcl hown2
  have HI : Hid (W2.ownsRow B 113 3 (.slice (some ⟨g, 0, none⟩) (n - 1) c) (n - 1) (trios (l.take i ++ l.drop (i + 1))) ∧ But (fun k => k = g) w W2) := by
    have h1 := setCells_below (B := 0) (g := g) (Nat.zero_le _) news w.drew (0 + i * 3)
    have h2 := setCells_below (B := 0) (g := g) (Nat.zero_le _) [.int .i64 0, .int .i64 0, .int .i64 0] W1 ((n - 1) * 3)
    rw [← hW1] at h1
    rw [hW2] at h2
    refine ⟨hown2, h2.os.trans h1.os, h2.tape.trans h1.tape, h2.output.trans h1.output, Nat.le_trans h1.size h2.size, fun k hk hne => ?_⟩
    rw [← hW2, setCells_other _ _ _ _ hne, hW1, setCells_other _ _ _ _ hne]
    rfl
  have em : i + (n - (i + 1)) = n - 1 := by omega
  have hm1 : n - (n - 1) = 1 := by omega
  replace hcl : ∀ ty, (Builtin.clear_ #[23] ty #[.slice (some ⟨g, (i + (n - (i + 1))) * 3, none⟩) (n - (i + (n - (i + 1)))) (c - (i + (n - (i + 1))))]).run Tryz.prog W1 = .ok (.tuple #[]) W2 := by rw [em, hm1]; exact hcl
  have hcm1 : ¬ c = i + (n - (i + 1)) := by omega
  have HEM := Lib.hid em
  clear em hm1
  have hW : Hid (W1 = w.drew.setCells g (0 + i * 3) news) := hW1
  have hic : i ≤ c := by omega
  have hb1 : (0 : Int) ≤ (i : Int) + 1 := by omega
  have hb2 : (i : Int) + 1 ≤ (n : Int) := by omega
  have htn : ((i : Int) + 1).toNat = i + 1 := by omega
  have hjc : i + 1 ≤ c := by omega
  have hb4 : i + (n - (i + 1)) ≤ n := by omega
  have hb5 : (i : Int) + ((n - (i + 1) : Nat) : Int) ≤ (n : Int) := by omega
  have hc63 : c ≤ 9223372036854775807 := by unfold maxLen at hcm; omega
  clear hW1 hW2 hown hown1 hown2 hcells hsome hsome1 hnews hlen hh hcs hxl hBg hz0 hz2 hcl0
  go_enter Tryz.func182, Tryz.ntmps182
  go_wp2_with fail
  go_region_law (refine step_append_room rfl (.tmp 22) (.tmp 25) 23 rfl 113 i0 3 Tryz.underlying23 hi0 hz1 g 0 i c (by simp [Act.eval, Act.put]) A (n - (i + 1)) (c - (i + 1)) news (by simp [Act.eval, Act.put]) s1.out hsrc.out s2.out (by omega) s3.out ?_; rw [← hW.out])
  go_wp2_with fail
  go_ret
  exact ⟨by rw [← HEM.out]; rfl, HI.out⟩
end Go.Proofs.YtmgncoialppmpaaGreat

/-
  Contract of slices.Insert over rows: where there is room; all its ways in one.
-/
namespace Go.Proofs.YtmgncoialppmpaaGreat
open Go.RowKit

set_option maxRecDepth 100000 in
set_option maxHeartbeats 4000000 in
theorem insert_shiftGt (l : List Trio) (a : Trio) (B vb g i n c : Nat) (w : World) (hn : l.length = n) (hown : w.ownsRow B 113 3 (.slice (some ⟨g, 0, none⟩) n c) n (trios l)) (hvb : w.heap[vb]? = some (.cells a.cells.toArray 113 (0, 0))) (hgv : vb ≠ g) (hn2 : n ≤ 1000000) (hi : i < n) (hroom : n + 1 ≤ c) :
    Calls Tryz.prog 183 #[.slice (some ⟨g, 0, none⟩) n c, .int .i64 i, .slice (some ⟨vb, 0, none⟩) 1 1] w fun e w' => ∃ v', e = .returned v' ∧ InsertedGt w B (.slice (some ⟨g, 0, none⟩) n c) (l.take i ++ a :: l.drop i) v' w' := by
  obtain ⟨cur, hh, hBg, hnc, hcm, hcs, hcl⟩ := own_blk hown
  obtain ⟨i0, hi0, hz0, hz1, hz2⟩ := info_parts infoTrio
  obtain ⟨junk, hjl, hown0⟩ := own_more hown hroom
  have hcells := hown.cells (g := g) rfl
  have hxl : (trios l).length = n * 3 := hown.1
  have hinfo : (Tryz.prog.info? 113).map (·.size) = some 3 := by rw [hi0]; simp [hz1]
  have hsz : ∀ w, (Go.sizeOf 113).run Tryz.prog w = .ok 3 w := fun w => by simp [sizeOf, typeInfo, hi0, hz1]
  have hov : (callFunc 229 #[.slice (some ⟨vb, 0, none⟩) 1 1, .slice (some ⟨g, (i + 1) * 3, none⟩) (n - i) (c - (i + 1))]).run Tryz.prog w = .ok (.value (.bool false)) w := by
    rw [run_callFunc_extern Tryz.func229 (by kernel_rfl) (by kernel_rfl) (by kernel_rfl) (e := Extern.SlicesOverlaps.overlaps #[23, 23] #[4]) (by kernel_rfl),
      Lib.run_overlaps_apart w 23 4 113 Tryz.underlying23 3 hsz ⟨vb, 0, none⟩ ⟨g, (i + 1) * 3, none⟩ 1 1 (n - i) (c - (i + 1)) hgv 113 113 3 (c * 3) (by simp [World.shape?, hvb, Trio.cells]) (by simp [World.shape?, hh, hcs]) (by omega) (warm_of hvb _) (warm_of hvb _)]
    rfl
  have hsrc : ∀ j u, ((trios l).drop (i * 3))[j]? = some u → w.drew.cell? ((⟨g, i * 3, none⟩ : Addr).add j) = some u := by
    intro j u hu
    rw [List.getElem?_drop] at hu
    have := hcells _ u hu
    rw [Addr.add_lit] at this ⊢
    rw [Nat.zero_add] at this
    exact this
  have hcp1 : ∀ ty dc sc, _ := fun ty dc sc => copy_own (P := Tryz.prog) (w := w.drew) (ty := ty) hown0 Tryz.underlying23 hinfo (i + 1) (n - i) (n - i) dc (n + 1 - i) sc ⟨g, i * 3, none⟩ ((trios l).drop (i * 3)) (by simp only [Nat.min_def]; split <;> omega) (by simp [hxl]; omega) (by omega) hsrc (fun u hu => trios_one l u (List.mem_of_mem_drop hu))
  have hown1 := (hcp1 0 0 0).2
  generalize hW1 : w.drew.setCells g ((i + 1) * 3) ((trios l).drop (i * 3)) = W1 at hcp1 hown1
  have hk1 : ∀ k, k ≠ g → W1.heap[k]? = w.heap[k]? := fun k hk => by rw [← hW1, setCells_other _ _ _ _ hk]; rfl
  have hcp2 : ∀ ty dc, _ := fun ty dc => copy_own (P := Tryz.prog) (w := W1) (ty := ty) hown1 Tryz.underlying23 hinfo i 1 (n + 1 - i) dc 1 1 ⟨vb, 0, none⟩ a.cells (by simp only [Nat.min_def]; split <;> omega) rfl (by omega) (rd_atGt ((hk1 vb hgv).trans hvb)) (cells_oneT a)
  have hown2 := (hcp2 0 0).2
  rw [ins_here hxl (by omega) hjl rfl, ← trios_ins] at hown2
  generalize hW2 : W1.setCells g (i * 3) a.cells = W2 at hcp2 hown2
  have HI : Hid (InsertedGt w B (.slice (some ⟨g, 0, none⟩) n c) (l.take i ++ a :: l.drop i) (.slice (some ⟨g, 0, none⟩) (n + 1) c) W2) := by
    have h1 := setCells_below (B := 0) (g := g) (Nat.zero_le _) ((trios l).drop (i * 3)) w.drew ((i + 1) * 3)
    have h2 := setCells_below (B := 0) (g := g) (Nat.zero_le _) a.cells W1 (i * 3)
    rw [hW1] at h1
    rw [hW2] at h2
    refine ⟨?_, ⟨h2.os.trans h1.os, h2.tape.trans h1.tape, h2.output.trans h1.output, Nat.le_trans h1.size h2.size, fun k hk hne => ?_⟩, .inl rfl⟩
    · rw [show (l.take i ++ a :: l.drop i).length = n + 1 by simp; omega]; exact hown2
    · have hkg : k ≠ g := fun e => hne (by rw [e]; rfl)
      rw [← hW2, setCells_other _ _ _ _ hkg, hk1 k hkg]
  have HC1 := Lib.hid hcp1; have HC2 := Lib.hid hcp2
  have hc63 : c ≤ 9223372036854775807 := by unfold maxLen at hcm; omega
  clear hcp1 hcp2 hown hown0 hown1 hown2 hcells hsrc hh hcs hcl hz0 hz1 hz2 hi0 hinfo hxl hn hvb hk1 hW1 hW2 hcm hnc hjl hsz
  have hw1 : IntKind.i64.wrap ((i : Int) + 1) = (i : Int) + 1 := by rw [IntKind.wrap_i64]; omega
  have hb1 : (0 : Int) ≤ (i : Int) + 1 := by omega
  have htn : ((i : Int) + 1).toNat = i + 1 := by omega
  have hci : ¬ (c = i) := by omega
  have hci1 : ¬ (c = i + 1) := by omega
  have hin : i ≤ n := by omega
  have hb3 : (i : Int) ≤ (n : Int) + 1 := by omega
  have hb4 : i ≤ n + 1 := by omega
  have ht1 : ((i : Int) == (n : Int)) = false := by simp; omega
  have ht2 : decide ((c : Int) < (n : Int) + 1) = false := by simp; omega
  have hc2 := (HC2.out 3 (c - i)).1
  go_enter Tryz.func183, Tryz.ntmps183
  go_wp2_with fail
  go_region_law (refine step_copy_run rfl _ _ _ _ rfl (.slice (some ⟨g, (i + 1) * 3, none⟩) (n - i) (c - (i + 1))) (.slice (some ⟨g, i * 3, none⟩) (n + 1 - i) (c - i)) _ _ (by simp [Act.eval, Act.put]) (by simp [Act.eval, Act.put]) (HC1.out _ _ _).1 ?_)
  go_wp2
  go_ret
  exact ⟨_, rfl, HI.out⟩

theorem insert_anyGt (l : List Trio) (a : Trio) (B vb i n c : Nat) (A : Option Addr) (w : World) (hn : l.length = n) (hown : w.ownsRow B 113 3 (.slice A n c) n (trios l)) (hvb : w.heap[vb]? = some (.cells a.cells.toArray 113 (0, 0))) (hne : (Value.slice A n c).ownBlock ≠ some vb) (hn2 : n ≤ 1000000) (hB : B ≤ w.heap.size) (hi : i ≤ n) :
    Calls Tryz.prog 183 #[.slice A n c, .int .i64 i, .slice (some ⟨vb, 0, none⟩) 1 1] w fun e w' => ∃ v', e = .returned v' ∧ InsertedGt w B (.slice A n c) (l.take i ++ a :: l.drop i) v' w' := by
  by_cases he : i = n
  · subst he
    rw [List.take_of_length_le (by omega), List.drop_eq_nil_of_le (by omega)]
    exact insert_endGt l a B vb i c A w hn hown hvb hn2 hB
  · obtain ⟨g, cap, hv, _⟩ := hown.form (by omega)
    injection hv with hA _ hc
    subst hA hc
    by_cases hc : n + 1 ≤ c
    · exact insert_shiftGt l a B vb g i n c w hn hown hvb (fun e => hne (by rw [e]; rfl)) hn2 (by omega) hc
    · exact insert_growGt l a B vb g i n c w hn hown hvb hn2 hB (by omega) (by omega)
end Go.Proofs.YtmgncoialppmpaaGreat
