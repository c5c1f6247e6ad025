/-
  Several texts, one behind the other: what each holds stands ahead of it.
-/
import Derived.Test.YtmgncoialppmpaaGreatMany6
import Derived.Lib.SliceRun
import Derived.Deep.RegionLaw
import Derived.Test.YtmgncoialppmpaaGreatMany3
import Derived.Test.YtmgncoialppmpaaGreatMany5
import Derived.LoopN
import Derived.Laws.EntriesVeiled

/-
  Contract of slices.Insert over journals, of one element.
-/
namespace Go.Proofs.YtmgncoialppmpaaGreat
open Go.RowKit

theorem rd_at {w : World} {b : Nat} {cs : List Value} {T : TypeId} (h : w.heap[b]? = some (.cells cs.toArray T (0, 0))) : ∀ j u, cs[j]? = some u → w.cell? ((⟨b, 0, none⟩ : Addr).add j) = some u := by
  intro j u hu
  rw [Addr.add_lit, Nat.zero_add, cell_of h]
  simpa using hu

/-- What comes of an insertion. -/
def Inserted (w : World) (B : Nat) (v : Value) (l : List JR) (v' : Value) (w' : World) : Prop :=
  w'.ownsRow B 29 6 v' l.length (jrs l) ∧ But (fun k => v.ownBlock = some k) w w' ∧ (v'.ownBlock = v.ownBlock ∨ v'.ownBlock = some w.heap.size)

set_option maxRecDepth 100000 in
set_option maxHeartbeats 1000000 in
theorem insert_end (l : List JR) (a : JR) (B vb n c : Nat) (A : Option Addr) (w : World) (hn : l.length = n) (hown : w.ownsRow B 29 6 (.slice A n c) n (jrs l)) (hvb : w.heap[vb]? = some (.cells a.cells.toArray 29 (0, 0))) (hn2 : n ≤ 1000000) (hB : B ≤ w.heap.size) :
    Calls Tryz.prog 94 #[.slice A n c, .int .i64 n, .slice (some ⟨vb, 0, none⟩) 1 1] w fun e w' => ∃ v', e = .returned v' ∧ Inserted w B (.slice A n c) (l ++ [a]) v' w' := by
  have hr : Rd w (vb + 1) 6 (some ⟨vb, 0, none⟩) 1 a.cells := ⟨rfl, fun _ => ⟨_, rfl, by simp, rd_at hvb⟩⟩
  obtain ⟨v', w', hrun, hown', hg, hp⟩ := append_fresh (P := Tryz.prog) (ty := 24) (c := 1) infoJrn Tryz.underlying24 rfl (by omega) B _ n _ hown hr (cells_oneJ a) (by unfold maxLen; omega) (by omega) hB
  have HI : Hid (Inserted w B (.slice A n c) (l ++ [a]) v' w') := by
    refine ⟨?_, But.of_grown hg, hp⟩
    rw [jrs_append, List.length_append, hn]
    exact hown'
  have HR := Lib.hid hrun
  have hcap : n ≤ c := by
    rcases hown.2 with ⟨h1, rfl⟩ | ⟨g, cap, cur, h1, _, _, h2, _⟩
    · injection h1 with _ _ h3; omega
    · injection h1 with _ _ h3; omega
  have hc63 : c ≤ 9223372036854775807 := by
    rcases hown.2 with ⟨h1, rfl⟩ | ⟨g, cap, cur, h1, _, _, h2, h3, _⟩
    · injection h1 with _ _ h3; omega
    · injection h1 with _ _ h4; subst h4; unfold maxLen at h3; omega
  clear hown hvb hr hown' hg hp hn hrun
  obtain ⟨A', c', n', rfl⟩ : ∃ A' c' n', v' = .slice A' n' c' := by
    obtain ⟨A', c', e⟩ := own_form HI.out.1
    exact ⟨A', c', _, e⟩
  rcases A with _ | ad
  all_goals
    by_cases hcn : c = n
    all_goals
      go_enter Tryz.func94, Tryz.ntmps94
      go_wp2_with (at_builtin; refine wpList_append_run rfl _ _ _ rfl _ _ _ _ rfl rfl HR.out ?_)
      go_ret
      exact ⟨_, rfl, HI.out⟩

set_option maxRecDepth 100000 in
set_option maxHeartbeats 4000000 in
theorem insert_grow (l : List JR) (a : JR) (B vb g i n c : Nat) (w : World) (hn : l.length = n) (hown : w.ownsRow B 29 6 (.slice (some ⟨g, 0, none⟩) n c) n (jrs l)) (hvb : w.heap[vb]? = some (.cells a.cells.toArray 29 (0, 0))) (hn2 : n ≤ 1000000) (hB : B ≤ w.heap.size) (hi : i < n) (hroom : c < n + 1) :
    Calls Tryz.prog 94 #[.slice (some ⟨g, 0, none⟩) n c, .int .i64 i, .slice (some ⟨vb, 0, none⟩) 1 1] w fun e w' => ∃ v', e = .returned v' ∧ Inserted w B (.slice (some ⟨g, 0, none⟩) n c) (l.take i ++ a :: l.drop i) v' w' := by
  obtain ⟨cur, hh, hBg, hnc, hcm, hcs, hcl⟩ := own_blk hown
  obtain rfl : c = n := by omega
  obtain ⟨i0, hi0, hz0, hz1, hz2⟩ := info_parts infoJrn
  have hcells := hown.cells (g := g) rfl
  have hxl : (jrs l).length = c * 6 := hown.1
  -- append(s[:i], make(..)...)
  have hold : (Builtin.firstCells i0.size i (.slice (some ⟨g, 0, none⟩) i c)).run Tryz.prog w.drew = .ok ((jrs l).take (i * 6)).toArray w.drew := by
    rw [hz1]
    refine run_firstCells_some w.drew 6 i ⟨g, 0, none⟩ i c _ (by simp [hxl]; omega) (fun j v hj => ?_)
    rw [List.getElem?_take] at hj
    split at hj
    · exact hcells j v hj
    · cases hj
  have hrz : ∀ ty, (Builtin.append_ #[24, 3] ty #[.slice (some ⟨g, 0, none⟩) i c, .int .i64 ((c + 1 - i : Nat) : Int)]).run Tryz.prog w = _ := fun ty =>
    Lib.run_append_grow_zeros w 24 3 ty 29 i0 _ .i64 .i64 Tryz.underlying24 Tryz.underlying3 hi0 hz0 (some ⟨g, 0, none⟩) i c _ hold (c + 1 - i) (by omega) (by omega) (by omega) (by omega) (by rw [hz2]; omega) (by rw [hz2, show i + (c + 1 - i) = c + 1 by omega]; exact growslice_fits (by omega) (by omega))
  rw [show i + (c + 1 - i) = c + 1 by omega] at hrz
  generalize hG : grownCap w (c + 1) c 29 = G at hrz
  have hGn : c + 1 ≤ G := by rw [← hG]; exact grownCap_ge w _ _ _
  have hG63 : G ≤ maxLen := by rw [← hG]; exact grownCap_le_maxLen w (c + 1) c _ (by unfold maxLen; omega)
  generalize hZ : (Builtin.zeroCells (Value.agg #[.int .i64 0, .int .i64 0, .int .i64 0, .string ⟨#[]⟩, .slice none 0 0, .bool false]).cells (c + 1 - i)) = Z at hrz
  have hZl : Z.size = (c + 1 - i) * 6 := by rw [← hZ, size_zeroCells]; rfl
  generalize hY : (Builtin.zeroCells (Value.agg #[.int .i64 0, .int .i64 0, .int .i64 0, .string ⟨#[]⟩, .slice none 0 0, .bool false]).cells (G - (c + 1))) = Y at hrz
  have hYl : Y.size = (G - (c + 1)) * 6 := by rw [← hY, size_zeroCells]; rfl
  have hown0 : (w.drew.alloc (.cells (((jrs l).take (i * 6)).toArray ++ Z ++ Y) 29)).ownsRow B 29 6 (.slice (some ⟨w.heap.size, 0, none⟩) (c + 1) G) (c + 1) ((jrs l).take (i * 6) ++ Z.toList) := by
    have hlen : ((jrs l).take (i * 6) ++ Z.toList).length = (c + 1) * 6 := by simp [hxl, hZl]; omega
    refine ⟨hlen, .inr ⟨w.heap.size, G, _, rfl, hB, heap_new w.drew _, hGn, hG63, by simp [hxl, hZl, hYl]; omega, ?_⟩⟩
    rw [Array.toList_append, Array.toList_append, ← hlen]
    exact List.take_left
  generalize hW0 : w.drew.alloc (.cells (((jrs l).take (i * 6)).toArray ++ Z ++ Y) 29) = W0 at hrz hown0
  have hk0 : ∀ k, k < w.heap.size → W0.heap[k]? = w.heap[k]? := fun k hk => by rw [← hW0]; exact Below.heap_alloc w.drew _ _ hk
  have hz0' : W0.heap.size = w.heap.size + 1 := by rw [← hW0]; simp
  have hinfo : (Tryz.prog.info? 29).map (·.size) = some 6 := by rw [hi0]; simp [hz1]
  have hvlt := lt_of_blk hvb
  have hglt := lt_of_blk hh
  -- copy(s2[i:], v)
  have hcp1 : ∀ ty dc, _ := fun ty dc => copy_own (P := Tryz.prog) (ty := ty) hown0 Tryz.underlying24 hinfo i 1 (c + 1 - i) dc 1 1 ⟨vb, 0, none⟩ a.cells (by simp only [Nat.min_def]; split <;> omega) rfl (by omega) (rd_at ((hk0 vb hvlt).trans hvb)) (cells_oneJ a)
  have hown1 := (hcp1 0 0).2
  generalize hW1 : W0.setCells w.heap.size (i * 6) a.cells = W1 at hcp1 hown1
  have hk1 : ∀ k, k < w.heap.size → W1.heap[k]? = w.heap[k]? := fun k hk => by rw [← hW1, setCells_other _ _ _ _ (by omega)]; exact hk0 k hk
  -- copy(s2[i+1:], s[i:])
  have hsrc : ∀ j u, ((jrs l).drop (i * 6))[j]? = some u → W1.cell? ((⟨g, i * 6, none⟩ : Addr).add j) = some u := by
    intro j u hu
    rw [List.getElem?_drop] at hu
    have := hcells _ u hu
    rw [Addr.add_lit] at this ⊢
    rw [Nat.zero_add] at this
    rw [← this]
    unfold World.cell?
    rw [hk1 g hglt]
  have hcp2 : ∀ ty dc sc, _ := fun ty dc sc => copy_own (P := Tryz.prog) (w := W1.drew) (ty := ty) hown1 Tryz.underlying24 hinfo (i + 1) (c - i) (c + 1 - (i + 1)) dc (c - i) sc ⟨g, i * 6, none⟩ ((jrs l).drop (i * 6)) (by simp only [Nat.min_def]; split <;> omega) (by simp [hxl]; omega) (by omega) hsrc (fun u hu => jrs_one l u (List.mem_of_mem_drop hu))
  have hown2 := (hcp2 0 0 0).2
  rw [ins_new hxl (by omega) (by simp [hZl]) rfl, ← jrs_ins] at hown2
  generalize hW2 : W1.drew.setCells w.heap.size ((i + 1) * 6) ((jrs l).drop (i * 6)) = W2 at hcp2 hown2
  have hkk : (c : Int) + 1 - (i : Int) = ((c + 1 - i : Nat) : Int) := by omega
  have HI : Hid (Inserted w B (.slice (some ⟨g, 0, none⟩) c c) (l.take i ++ a :: l.drop i) (.slice (some ⟨w.heap.size, 0, none⟩) (c + 1) G) W2) := by
    refine ⟨?_, ⟨?_, ?_, ?_, ?_, fun k hk _ => ?_⟩, .inr rfl⟩
    · rw [show (l.take i ++ a :: l.drop i).length = c + 1 by simp; omega]; exact hown2
    · rw [← hW2, (setCells_below (B := 0) (Nat.zero_le _) _ _ _).os, show W1.drew.os = W1.os from rfl, ← hW1, (setCells_below (B := 0) (Nat.zero_le _) _ _ _).os, ← hW0]; rfl
    · rw [← hW2, (setCells_below (B := 0) (Nat.zero_le _) _ _ _).tape, show W1.drew.tape = W1.tape from rfl, ← hW1, (setCells_below (B := 0) (Nat.zero_le _) _ _ _).tape, ← hW0]; rfl
    · rw [← hW2, (setCells_below (B := 0) (Nat.zero_le _) _ _ _).output, show W1.drew.output = W1.output from rfl, ← hW1, (setCells_below (B := 0) (Nat.zero_le _) _ _ _).output, ← hW0]; rfl
    · have h1 := (setCells_below (B := 0) (g := w.heap.size) (Nat.zero_le _) ((jrs l).drop (i * 6)) W1.drew ((i + 1) * 6)).size
      have h2 := (setCells_below (B := 0) (g := w.heap.size) (Nat.zero_le _) a.cells W0 (i * 6)).size
      rw [hW2] at h1
      rw [hW1] at h2
      have h3 : W1.drew.heap.size = W1.heap.size := rfl
      omega
    · rw [← hW2, setCells_other _ _ _ _ (by omega)]
      exact hk1 k hk
  have HRZ := Lib.hid hrz; have HC1 := Lib.hid hcp1; have HC2 := Lib.hid hcp2
  have hG63' : G ≤ 9223372036854775807 := by unfold maxLen at hG63; omega
  clear hrz hcp1 hcp2 hown hown0 hown1 hown2 hcells hsrc hold hh hcs hcl hG hZ hZl hY hYl hz0 hz1 hz2 hi0 hinfo hxl hn hvb hk0 hk1 hz0' hW0 hW1 hW2 hG63 hcm hnc
  have hw1 : IntKind.i64.wrap ((i : Int) + 1) = (i : Int) + 1 := by rw [IntKind.wrap_i64]; omega
  have hb1 : (0 : Int) ≤ (i : Int) + 1 := by omega
  have htn : ((i : Int) + 1).toNat = i + 1 := by omega
  have hGi : ¬ (G = i) := by omega
  have hGim : ¬ (G = i + 1) := by omega
  have hci : ¬ (c = i) := by omega
  have hin : i ≤ c := by omega
  go_enter Tryz.func94, Tryz.ntmps94
  have hc1 := (HC1.out 3 (G - i)).1
  go_wp2_with (at_builtin; refine wpList_append_run2 rfl _ _ _ _ rfl _ _ _ _ rfl rfl (HRZ.out _) ?_)
  go_region_law (refine step_copy_run rfl _ _ _ _ rfl (.slice (some ⟨w.heap.size, (i + 1) * 6, none⟩) (c + 1 - (i + 1)) (G - (i + 1))) (.slice (some ⟨g, i * 6, none⟩) (c - i) (c - i)) _ _ (by simp [Act.eval, Act.put]) (by simp [Act.eval, Act.put]) (HC2.out _ _ _).1 ?_)
  go_wp2
  go_ret
  exact ⟨_, rfl, HI.out⟩
end Go.Proofs.YtmgncoialppmpaaGreat

/-
  Contract of slices.Delete over journals, of one element.
-/
namespace Go.Proofs.YtmgncoialppmpaaGreat
open Go.RowKit

theorem run_clear_one {P : Program} (w : World) (t e ty : TypeId) (z : Value) (zs : List Value) (ht : P.underlying t = some (.slice e)) (hv : ∀ w, (zeroValue e).run P w = .ok z w) (hz : (Builtin.zeroCells z.cells 1).toList = zs) (h1 : ∀ u ∈ zs, u.oneCell' = true) (b o c : Nat)
    (hc : ∀ j, j < zs.length → (w.cell? ⟨b, o + j, none⟩).isSome = true) (hf : ∀ j, j < zs.length → w.frozen? ⟨b, o + j, none⟩ = false) :
    (Builtin.clear_ #[t] ty #[.slice (some ⟨b, o, none⟩) 1 c]).run P w = .ok (.tuple #[]) (w.setCells b o zs) := by
  have hst := run_storeCells_cells (P := P) b o zs 0 w (by simpa using hc) (by simpa using hf) h1
  simp only [Nat.add_zero] at hst
  simp [Builtin.clear_, run_underlying ht, hv, hz, hst]
/-- A row, taken for fewer elements. -/
theorem own_less {w : World} {B g n c size : Nat} {e : TypeId} {L : List Value} (h : w.ownsRow B e size (.slice (some ⟨g, 0, none⟩) n c) n L) {m : Nat} (hm : m ≤ n) : w.ownsRow B e size (.slice (some ⟨g, 0, none⟩) m c) m (L.take (m * size)) := by
  obtain ⟨cur, hh, hB, hnc, hcm, hsz, hL⟩ := own_blk h
  have hl := h.1
  have hms := Nat.mul_le_mul_right size hm
  refine ⟨by simp; omega, .inr ⟨g, c, cur, rfl, hB, hh, by omega, hcm, hsz, ?_⟩⟩
  rw [← hL, List.take_take, Nat.min_eq_left hms]
theorem del_core (a m d zs : List Value) (hm : m.length = zs.length) : (setL (setL (a ++ (m ++ d)) a.length d) (a.length + d.length) zs).take (a.length + d.length) = a ++ d := by
  rw [setL_mid d a (m ++ d) (by simp)]
  have hr : ((m ++ d).drop d.length).length = m.length := by simp
  have hl : a.length + d.length = (a ++ d).length := by simp
  rw [hl, setL_mid zs (a ++ d) _ (by omega), List.append_assoc, List.take_left]
theorem del_jrs (l : List JR) (n i : Nat) (hn : l.length = n) (hi : i < n) (zs : List Value) (hz : zs.length = 6) :
    (setL (setL (jrs l) (i * 6) (jrs (l.drop (i + 1)))) ((n - 1) * 6) zs).take ((n - 1) * 6) = jrs (l.take i ++ l.drop (i + 1)) := by
  obtain ⟨a, ha⟩ : ∃ a, l[i]? = some a := ⟨_, List.getElem?_eq_getElem (by omega)⟩
  have he : jrs l = jrs (l.take i) ++ (a.cells ++ jrs (l.drop (i + 1))) := by
    conv => lhs; rw [← List.take_append_drop i l, List.drop_eq_getElem_cons (by omega : i < l.length)]
    rw [jrs_append]
    have : l[i] = a := by rw [List.getElem?_eq_getElem (by omega)] at ha; injection ha
    rw [this]
    rfl
  have h1 : (jrs (l.take i)).length = i * 6 := by rw [jrs_len]; simp; omega
  have h2 : (jrs (l.drop (i + 1))).length = (n - 1 - i) * 6 := by rw [jrs_len]; simp; omega
  have := del_core (jrs (l.take i)) a.cells (jrs (l.drop (i + 1))) zs (by rw [hz]; rfl)
  rw [h1, h2, ← he, show i * 6 + (n - 1 - i) * 6 = (n - 1) * 6 by omega] at this
  rw [this, jrs_append]

end Go.Proofs.YtmgncoialppmpaaGreat

/-
  Contracts of LentLines, StaysLines.
-/
namespace Go.Proofs.YtmgncoialppmpaaGreat
open Go.RowKit

theorem linsOne (l : List Lin) : ∀ u ∈ lins l, u.oneCell' = true := by
  intro u hu
  obtain ⟨a, _, hu⟩ := List.mem_flatMap.1 hu
  simp [Lin.cells] at hu
  rcases hu with rfl | rfl | rfl <;> rfl
end Go.Proofs.YtmgncoialppmpaaGreat

/-
  Contracts of slices.Clone over lines, entry.Copy.
-/
namespace Go.Proofs.YtmgncoialppmpaaGreat
open Go.RowKit

theorem own_empty (w : World) (T : TypeId) (size : Nat) : (w.alloc (.cells #[] T)).ownsRow w.heap.size T size (.slice (some ⟨w.heap.size, 0, none⟩) 0 0) 0 [] :=
  ⟨by simp, .inr ⟨w.heap.size, 0, #[], rfl, Nat.le_refl _, heap_new _ _, Nat.le_refl _, Nat.zero_le _, by simp, by simp⟩⟩

set_option maxRecDepth 100000 in
set_option maxHeartbeats 400000 in
theorem cloneLins_any (n c B : Nat) (A : Option Addr) (l : List Lin) (w : World) (h : Rd w B 3 A n (lins l)) (hB : B ≤ w.heap.size) (hn : n ≤ 1000000) (h0 : A = none → c = 0) :
    Calls Tryz.prog 179 #[.slice A n c] w fun e w' => ∃ A' c', e = .returned (.slice A' n c') ∧ w'.ownsRow w.heap.size 64 3 (.slice A' n c') n (lins l) ∧ Below w.heap.size w w' := by
  rcases A with _ | ad
  · have h1 : n = 0 := by
      rcases Nat.eq_zero_or_pos n with h1 | h1
      · exact h1
      · obtain ⟨ad, e, _⟩ := h.2 h1
        cases e
    obtain rfl := h0 rfl
    subst h1
    have hl : lins l = [] := List.eq_nil_of_length_eq_zero (by simpa using h.1)
    rw [hl]
    clear h h0 hl
    have hq : ∀ w : World, (binOp .eql 27 (.slice none 0 0) (.slice none 0 0)).run Tryz.prog w = .ok (.bool true) w := fun w => Lib.run_eql_slice_nil w 27 64 none 0 0 0 0 Tryz.underlying27
    go_enter Tryz.func179, Tryz.ntmps179
    go_wp2
    go_ret
    exact ⟨none, 0, rfl, World.ownsRow_nil _ _ _ _, Below.refl _ _⟩
  · have hR : Rd (w.alloc (.cells #[] 64)) B 3 (some ad) n (lins l) := h.far ((Below.refl _ _).alloc (Nat.le_refl _) _) hB
    obtain ⟨v', w', hrun, hown, hg, hp⟩ := append_fresh (P := Tryz.prog) (ty := 27) (c := c) infoLin Tryz.underlying27 rfl (by omega) w.heap.size _ 0 [] (own_empty w 64 3) hR (linsOne l) (by unfold maxLen; omega) (by omega) (by simp)
    rw [Nat.zero_add, List.nil_append] at hown
    obtain ⟨A', c', rfl⟩ := own_form hown
    have HR := Lib.hid hrun
    have HO := Lib.hid hown
    have HB : Hid (Below w.heap.size w w') := ((Below.refl _ _).alloc (Nat.le_refl _) _).grown hg (by simp) (fun k hk => by simp [Value.ownBlock] at hk; omega)
    clear h h0 hR hrun hown hg hp
    have hq : ∀ w : World, (binOp .eql 27 (.slice (some ad) n c) (.slice none 0 0)).run Tryz.prog w = .ok (.bool false) w := fun w => Lib.run_eql_slice_nil w 27 64 (some ad) n c 0 0 Tryz.underlying27
    go_enter Tryz.func179, Tryz.ntmps179
    go_wp2_with (at_builtin; refine wpList_append_run rfl _ _ _ rfl _ _ _ _ rfl rfl HR.out ?_)
    go_ret
    exact ⟨A', c', rfl, HO.out, HB.out⟩

set_option maxRecDepth 100000 in
set_option maxHeartbeats 2000000 in
theorem entryCopy_any (j : Jrn) (A : Option Addr) (n c B : Nat) (w : World) (h : Rd w B 3 A n (lins j.lines)) (hB : B ≤ w.heap.size) (hn : n ≤ 1000000) (h0 : A = none → c = 0) :
    Calls Tryz.prog 95 #[j.val A n c] w fun e w' => ∃ A' c', e = .returned (.agg #[.int .i64 j.id, .int .i64 j.ent, .int .i64 j.per, .string j.ref, .slice A' n c', .bool j.void]) ∧ w'.ownsRow w.heap.size 64 3 (.slice A' n c') n (lins j.lines) ∧ Below w.heap.size w w' := by
  obtain ⟨W2, hW2⟩ : ∃ W2, (w.alloc (.cells #[.int .i64 j.id, .int .i64 j.ent, .int .i64 j.per, .string j.ref, .slice A n c, .bool j.void] 29)).alloc (.cells #[.int .i64 0, .int .i64 0, .int .i64 0, .string ⟨#[]⟩, .slice none 0 0, .bool false] 29) = W2 := ⟨_, rfl⟩
  have hb2 : Below w.heap.size w W2 := by rw [← hW2]; exact ((Below.refl _ _).alloc (Nat.le_refl _) _).alloc (by simp) _
  have hz2 : W2.heap.size = w.heap.size + 2 := by rw [← hW2]; simp
  have hbox : JAt W2 w.heap.size j A n c := by
    rw [← hW2]
    exact (Below.heap_alloc _ _ _ (by simp)).trans (heap_new w _)
  have hres : JAt W2 (w.heap.size + 1) zeroJ none 0 0 := by
    rw [← hW2]
    have := heap_new (w.alloc (.cells #[.int .i64 j.id, .int .i64 j.ent, .int .i64 j.per, .string j.ref, .slice A n c, .bool j.void] 29)) (.cells #[.int .i64 0, .int .i64 0, .int .i64 0, .string ⟨#[]⟩, .slice none 0 0, .bool false] 29)
    rw [show (w.alloc (.cells #[.int .i64 j.id, .int .i64 j.ent, .int .i64 j.per, .string j.ref, .slice A n c, .bool j.void] 29)).heap.size = w.heap.size + 1 by simp] at this
    exact this
  have kc := Lib.hid (cloneLins_any n c B A j.lines W2 (h.far hb2 hB) (by omega) hn h0)
  have HBOX := Lib.hid hbox
  have HRES := Lib.hid hres
  have HB2 := Lib.hid hb2
  have HW2 := Lib.hid hW2
  have HZ2 := Lib.hid hz2
  clear hW2 hb2 hbox hres h hz2
  unfold Jrn.val
  go_enter Tryz.func95, Tryz.ntmps95
  go_wp2_with fail
  rw [HW2.out]
  refine kc.out.mono ?_
  rintro e w3 ⟨A', c', rfl, hown, hb3⟩
  have hz3 := hb3.size
  have hbox3 : JAt w3 w.heap.size j A n c := (hb3.block _ (by have := HZ2.out; omega)).trans HBOX.out
  have hres3 : JAt w3 (w.heap.size + 1) zeroJ none 0 0 := (hb3.block _ (by have := HZ2.out; omega)).trans HRES.out
  obtain ⟨x0, x1, x2, x3, x4, x5⟩ := six_cells hbox3
  have xf := fun o => warm_of hbox3 o
  obtain ⟨y0, y1, y2, y3, y4, y5⟩ := six_cells hres3
  have yf := fun o => warm_of hres3 o
  have hlt3 : w.heap.size + 1 < w3.heap.size := lt_of_blk hres3
  have HOWN := Lib.hid hown
  have HB : Hid (Below w.heap.size w w3) := HB2.out.trans (hb3.mono HB2.out.size)
  clear hown hbox3 hres3 hb3 hz3
  go_wp2_with fail
  refine bodyPost_ret (v := .agg #[.int .i64 j.id, .int .i64 j.ent, .int .i64 j.per, .string j.ref, .slice A' n c', .bool j.void]) (by simp [results, Tryz.results95, go_sem, y0, y1, y2, y3, y4, y5]) rfl ⟨A', c', rfl, ?_, ?_⟩
  · refine own_base (own_six (own_kept HOWN.out fun q hq ho => ?_) (by have := HZ2.out; omega) _ _ _ _ _ _) (by have := HZ2.out; omega)
    have hge := own_ge HOWN.out q ho
    exact Below.heap_setCell _ _ _ _ (by have := HZ2.out; show q ≠ w.heap.size; omega)
  · exact below_six (HB.out.setCell (p := ⟨w.heap.size, 4, none⟩) (Nat.le_refl _) _) (Nat.le_succ _) _ _ _ _ _ _
end Go.Proofs.YtmgncoialppmpaaGreat
