/-
  Contract of slices.Insert over journals, of one element.
-/
import Derived.Test.YthjpknipnmagkaaGreatMany3
import Derived.Test.YthjpknipnmagkaaGreatMany11
namespace Go.Proofs.YthjpknipnmagkaaGreat
open Go.RowKit

theorem rd_at {w : World} {b : Nat} {cs : List Value} {T : TypeId} (h : w.heap[b]? = some (.cells cs.toArray T (0, 0))) : ∀ j u, cs[j]? = some u → w.cell? ((⟨b, 0, none⟩ : Addr).add j) = some u := by
  intro j u hu
  rw [Addr.add_lit, Nat.zero_add, cell_of h]
  simpa using hu

/-- What comes of an insertion. -/
def Inserted (w : World) (B : Nat) (v : Value) (l : List JR) (v' : Value) (w' : World) : Prop :=
  w'.ownsRow B 104 6 v' l.length (jrs l) ∧ But (fun k => v.ownBlock = some k) w w' ∧ (v'.ownBlock = v.ownBlock ∨ v'.ownBlock = some w.heap.size)

set_option maxRecDepth 100000 in
set_option maxHeartbeats 1000000 in
theorem insert_end (l : List JR) (a : JR) (B vb n c : Nat) (A : Option Addr) (w : World) (hn : l.length = n) (hown : w.ownsRow B 104 6 (.slice A n c) n (jrs l)) (hvb : w.heap[vb]? = some (.cells a.cells.toArray 104 (0, 0))) (hn2 : n ≤ 1000000) (hB : B ≤ w.heap.size) :
    Calls Tryz.prog 221 #[.slice A n c, .int .i64 n, .slice (some ⟨vb, 0, none⟩) 1 1] w fun e w' => ∃ v', e = .returned v' ∧ Inserted w B (.slice A n c) (l ++ [a]) v' w' := by
  have hr : Rd w (vb + 1) 6 (some ⟨vb, 0, none⟩) 1 a.cells := ⟨rfl, fun _ => ⟨_, rfl, by simp, rd_at hvb⟩⟩
  obtain ⟨v', w', hrun, hown', hg, hp⟩ := append_fresh (P := Tryz.prog) (ty := 48) (c := 1) infoJrn Tryz.underlying48 rfl (by omega) B _ n _ hown hr (cells_oneJ a) (by unfold maxLen; omega) (by omega) hB
  have HI : Hid (Inserted w B (.slice A n c) (l ++ [a]) v' w') := by
    refine ⟨?_, But.of_grown hg, hp⟩
    rw [jrs_append, List.length_append, hn]
    exact hown'
  have HR := Lib.hid hrun
  have hcap : n ≤ c := by
    rcases hown.2 with ⟨h1, rfl⟩ | ⟨g, cap, cur, h1, _, _, h2, _⟩
    · injection h1 with _ _ h3; omega
    · injection h1 with _ _ h3; omega
  have hc63 : c ≤ 9223372036854775807 := by
    rcases hown.2 with ⟨h1, rfl⟩ | ⟨g, cap, cur, h1, _, _, h2, h3, _⟩
    · injection h1 with _ _ h3; omega
    · injection h1 with _ _ h4; subst h4; unfold maxLen at h3; omega
  clear hown hvb hr hown' hg hp hn hrun
  obtain ⟨A', c', n', rfl⟩ : ∃ A' c' n', v' = .slice A' n' c' := by
    obtain ⟨A', c', e⟩ := own_form HI.out.1
    exact ⟨A', c', _, e⟩
  rcases A with _ | ad
  all_goals
    by_cases hcn : c = n
    all_goals
      go_enter Tryz.func221, Tryz.ntmps221
      go_wp2_with (at_builtin; refine wpList_append_run rfl _ _ _ rfl _ _ _ _ rfl rfl HR.out ?_)
      go_ret
      exact ⟨_, rfl, HI.out⟩

set_option maxRecDepth 100000 in
set_option maxHeartbeats 4000000 in
theorem insert_grow (l : List JR) (a : JR) (B vb g i n c : Nat) (w : World) (hn : l.length = n) (hown : w.ownsRow B 104 6 (.slice (some ⟨g, 0, none⟩) n c) n (jrs l)) (hvb : w.heap[vb]? = some (.cells a.cells.toArray 104 (0, 0))) (hn2 : n ≤ 1000000) (hB : B ≤ w.heap.size) (hi : i < n) (hroom : c < n + 1) :
    Calls Tryz.prog 221 #[.slice (some ⟨g, 0, none⟩) n c, .int .i64 i, .slice (some ⟨vb, 0, none⟩) 1 1] w fun e w' => ∃ v', e = .returned v' ∧ Inserted w B (.slice (some ⟨g, 0, none⟩) n c) (l.take i ++ a :: l.drop i) v' w' := by
  obtain ⟨cur, hh, hBg, hnc, hcm, hcs, hcl⟩ := own_blk hown
  obtain rfl : c = n := by omega
  obtain ⟨i0, hi0, hz0, hz1, hz2⟩ := info_parts infoJrn
  have hcells := hown.cells (g := g) rfl
  have hxl : (jrs l).length = c * 6 := hown.1
  -- append(s[:i], make(..)...)
  have hold : (Builtin.firstCells i0.size i (.slice (some ⟨g, 0, none⟩) i c)).run Tryz.prog w.drew = .ok ((jrs l).take (i * 6)).toArray w.drew := by
    rw [hz1]
    refine run_firstCells_some w.drew 6 i ⟨g, 0, none⟩ i c _ (by simp [hxl]; omega) (fun j v hj => ?_)
    rw [List.getElem?_take] at hj
    split at hj
    · exact hcells j v hj
    · cases hj
  have hrz : ∀ ty, (Builtin.append_ #[48, 3] ty #[.slice (some ⟨g, 0, none⟩) i c, .int .i64 ((c + 1 - i : Nat) : Int)]).run Tryz.prog w = _ := fun ty =>
    Lib.run_append_grow_zeros w 48 3 ty 104 i0 _ .i64 .i64 Tryz.underlying48 Tryz.underlying3 hi0 hz0 (some ⟨g, 0, none⟩) i c _ hold (c + 1 - i) (by omega) (by omega) (by omega) (by omega) (by rw [hz2]; omega) (by rw [hz2, show i + (c + 1 - i) = c + 1 by omega]; exact growslice_fits (by omega) (by omega))
  rw [show i + (c + 1 - i) = c + 1 by omega] at hrz
  generalize hG : grownCap w (c + 1) c 104 = G at hrz
  have hGn : c + 1 ≤ G := by rw [← hG]; exact grownCap_ge w _ _ _
  have hG63 : G ≤ maxLen := by rw [← hG]; exact grownCap_le_maxLen w (c + 1) c _ (by unfold maxLen; omega)
  generalize hZ : (Builtin.zeroCells (Value.agg #[.int .i64 0, .int .i64 0, .int .i64 0, .string ⟨#[]⟩, .slice none 0 0, .bool false]).cells (c + 1 - i)) = Z at hrz
  have hZl : Z.size = (c + 1 - i) * 6 := by rw [← hZ, size_zeroCells]; rfl
  generalize hY : (Builtin.zeroCells (Value.agg #[.int .i64 0, .int .i64 0, .int .i64 0, .string ⟨#[]⟩, .slice none 0 0, .bool false]).cells (G - (c + 1))) = Y at hrz
  have hYl : Y.size = (G - (c + 1)) * 6 := by rw [← hY, size_zeroCells]; rfl
  have hown0 : (w.drew.alloc (.cells (((jrs l).take (i * 6)).toArray ++ Z ++ Y) 104)).ownsRow B 104 6 (.slice (some ⟨w.heap.size, 0, none⟩) (c + 1) G) (c + 1) ((jrs l).take (i * 6) ++ Z.toList) := by
    have hlen : ((jrs l).take (i * 6) ++ Z.toList).length = (c + 1) * 6 := by simp [hxl, hZl]; omega
    refine ⟨hlen, .inr ⟨w.heap.size, G, _, rfl, hB, heap_new w.drew _, hGn, hG63, by simp [hxl, hZl, hYl]; omega, ?_⟩⟩
    rw [Array.toList_append, Array.toList_append, ← hlen]
    exact List.take_left
  generalize hW0 : w.drew.alloc (.cells (((jrs l).take (i * 6)).toArray ++ Z ++ Y) 104) = W0 at hrz hown0
  have hk0 : ∀ k, k < w.heap.size → W0.heap[k]? = w.heap[k]? := fun k hk => by rw [← hW0]; exact Below.heap_alloc w.drew _ _ hk
  have hz0' : W0.heap.size = w.heap.size + 1 := by rw [← hW0]; simp
  have hinfo : (Tryz.prog.info? 104).map (·.size) = some 6 := by rw [hi0]; simp [hz1]
  have hvlt := lt_of_blk hvb
  have hglt := lt_of_blk hh
  -- copy(s2[i:], v)
  have hcp1 : ∀ ty dc, _ := fun ty dc => copy_own (P := Tryz.prog) (ty := ty) hown0 Tryz.underlying48 hinfo i 1 (c + 1 - i) dc 1 1 ⟨vb, 0, none⟩ a.cells (by simp only [Nat.min_def]; split <;> omega) rfl (by omega) (rd_at ((hk0 vb hvlt).trans hvb)) (cells_oneJ a)
  have hown1 := (hcp1 0 0).2
  generalize hW1 : W0.setCells w.heap.size (i * 6) a.cells = W1 at hcp1 hown1
  have hk1 : ∀ k, k < w.heap.size → W1.heap[k]? = w.heap[k]? := fun k hk => by rw [← hW1, setCells_other _ _ _ _ (by omega)]; exact hk0 k hk
  -- copy(s2[i+1:], s[i:])
  have hsrc : ∀ j u, ((jrs l).drop (i * 6))[j]? = some u → W1.cell? ((⟨g, i * 6, none⟩ : Addr).add j) = some u := by
    intro j u hu
    rw [List.getElem?_drop] at hu
    have := hcells _ u hu
    rw [Addr.add_lit] at this ⊢
    rw [Nat.zero_add] at this
    rw [← this]
    unfold World.cell?
    rw [hk1 g hglt]
  have hcp2 : ∀ ty dc sc, _ := fun ty dc sc => copy_own (P := Tryz.prog) (w := W1.drew) (ty := ty) hown1 Tryz.underlying48 hinfo (i + 1) (c - i) (c + 1 - (i + 1)) dc (c - i) sc ⟨g, i * 6, none⟩ ((jrs l).drop (i * 6)) (by simp only [Nat.min_def]; split <;> omega) (by simp [hxl]; omega) (by omega) hsrc (fun u hu => jrs_one l u (List.mem_of_mem_drop hu))
  have hown2 := (hcp2 0 0 0).2
  rw [ins_new hxl (by omega) (by simp [hZl]) rfl, ← jrs_ins] at hown2
  generalize hW2 : W1.drew.setCells w.heap.size ((i + 1) * 6) ((jrs l).drop (i * 6)) = W2 at hcp2 hown2
  have hkk : (c : Int) + 1 - (i : Int) = ((c + 1 - i : Nat) : Int) := by omega
  have HI : Hid (Inserted w B (.slice (some ⟨g, 0, none⟩) c c) (l.take i ++ a :: l.drop i) (.slice (some ⟨w.heap.size, 0, none⟩) (c + 1) G) W2) := by
    refine ⟨?_, ⟨?_, ?_, ?_, ?_, fun k hk _ => ?_⟩, .inr rfl⟩
    · rw [show (l.take i ++ a :: l.drop i).length = c + 1 by simp; omega]; exact hown2
    · rw [← hW2, (setCells_below (B := 0) (Nat.zero_le _) _ _ _).os, show W1.drew.os = W1.os from rfl, ← hW1, (setCells_below (B := 0) (Nat.zero_le _) _ _ _).os, ← hW0]; rfl
    · rw [← hW2, (setCells_below (B := 0) (Nat.zero_le _) _ _ _).tape, show W1.drew.tape = W1.tape from rfl, ← hW1, (setCells_below (B := 0) (Nat.zero_le _) _ _ _).tape, ← hW0]; rfl
    · rw [← hW2, (setCells_below (B := 0) (Nat.zero_le _) _ _ _).output, show W1.drew.output = W1.output from rfl, ← hW1, (setCells_below (B := 0) (Nat.zero_le _) _ _ _).output, ← hW0]; rfl
    · have h1 := (setCells_below (B := 0) (g := w.heap.size) (Nat.zero_le _) ((jrs l).drop (i * 6)) W1.drew ((i + 1) * 6)).size
      have h2 := (setCells_below (B := 0) (g := w.heap.size) (Nat.zero_le _) a.cells W0 (i * 6)).size
      rw [hW2] at h1
      rw [hW1] at h2
      have h3 : W1.drew.heap.size = W1.heap.size := rfl
      omega
    · rw [← hW2, setCells_other _ _ _ _ (by omega)]
      exact hk1 k hk
  have HRZ := Lib.hid hrz; have HC1 := Lib.hid hcp1; have HC2 := Lib.hid hcp2
  have hG63' : G ≤ 9223372036854775807 := by unfold maxLen at hG63; omega
  clear hrz hcp1 hcp2 hown hown0 hown1 hown2 hcells hsrc hold hh hcs hcl hG hZ hZl hY hYl hz0 hz1 hz2 hi0 hinfo hxl hn hvb hk0 hk1 hz0' hW0 hW1 hW2 hG63 hcm hnc
  have hw1 : IntKind.i64.wrap ((i : Int) + 1) = (i : Int) + 1 := by rw [IntKind.wrap_i64]; omega
  have hb1 : (0 : Int) ≤ (i : Int) + 1 := by omega
  have htn : ((i : Int) + 1).toNat = i + 1 := by omega
  have hGi : ¬ (G = i) := by omega
  have hGim : ¬ (G = i + 1) := by omega
  have hci : ¬ (c = i) := by omega
  have hin : i ≤ c := by omega
  go_enter Tryz.func221, Tryz.ntmps221
  have hc1 := (HC1.out 3 (G - i)).1
  go_wp2_with (at_builtin; refine wpList_append_run2 rfl _ _ _ _ rfl _ _ _ _ rfl rfl (HRZ.out _) ?_)
  go_region_law (refine step_copy_run rfl _ _ _ _ rfl (.slice (some ⟨w.heap.size, (i + 1) * 6, none⟩) (c + 1 - (i + 1)) (G - (i + 1))) (.slice (some ⟨g, i * 6, none⟩) (c - i) (c - i)) _ _ (by simp [Act.eval, Act.put]) (by simp [Act.eval, Act.put]) (HC2.out _ _ _).1 ?_)
  go_wp2
  go_ret
  exact ⟨_, rfl, HI.out⟩
end Go.Proofs.YthjpknipnmagkaaGreat

