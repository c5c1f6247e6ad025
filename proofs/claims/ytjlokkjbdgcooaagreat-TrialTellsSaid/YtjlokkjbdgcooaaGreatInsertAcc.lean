/-
  Contract of slices.Insert over accounts, of one element.
-/
import Derived.Test.YtjlokkjbdgcooaaGreatMany4
import Derived.Test.YtjlokkjbdgcooaaGreatMany24
namespace Go.Proofs.YtjlokkjbdgcooaaGreat
open Go.RowKit

theorem accs_take : ∀ (l : List Acc) (i : Nat), (accs l).take (i * 3) = accs (l.take i)
  | [], i => by simp [accs]
  | a :: l, 0 => by simp [accs]
  | a :: l, i + 1 => by
    have := accs_take l i
    unfold accs at this ⊢
    rw [List.take_succ_cons, List.flatMap_cons, List.flatMap_cons, ← this, show (i + 1) * 3 = (Acc.cells a).length + i * 3 by simp [Acc.cells]; omega, List.take_length_add_append]
theorem accs_drop : ∀ (l : List Acc) (i : Nat), (accs l).drop (i * 3) = accs (l.drop i)
  | [], i => by simp [accs]
  | a :: l, 0 => by simp [accs]
  | a :: l, i + 1 => by
    have := accs_drop l i
    unfold accs at this ⊢
    rw [List.drop_succ_cons, List.flatMap_cons, ← this, show (i + 1) * 3 = (Acc.cells a).length + i * 3 by simp [Acc.cells]; omega, List.drop_length_add_append]
theorem accs_ins (l : List Acc) (i : Nat) (a : Acc) : accs (l.take i ++ a :: l.drop i) = (accs l).take (i * 3) ++ (a.cells ++ (accs l).drop (i * 3)) := by
  rw [accs_take, accs_drop, accs_append]
  rfl
theorem accs_one (l : List Acc) : ∀ u ∈ accs l, u.oneCell' = true := by
  intro u hu
  obtain ⟨a, _, hu⟩ := List.mem_flatMap.1 hu
  simp [Acc.cells] at hu
  rcases hu with rfl | rfl | rfl <;> rfl
theorem cells_oneA (a : Acc) : ∀ u ∈ a.cells, u.oneCell' = true := by
  intro u hu
  simp [Acc.cells] at hu
  rcases hu with rfl | rfl | rfl <;> rfl
theorem rd_atCh {w : World} {b : Nat} {cs : List Value} {T : TypeId} (h : w.heap[b]? = some (.cells cs.toArray T (0, 0))) : ∀ j u, cs[j]? = some u → w.cell? ((⟨b, 0, none⟩ : Addr).add j) = some u := by
  intro j u hu
  rw [Addr.add_lit, Nat.zero_add, cell_of h]
  simpa using hu

/-- What comes of an insertion. -/
def InsertedCh (w : World) (B : Nat) (v : Value) (l : List Acc) (v' : Value) (w' : World) : Prop :=
  w'.ownsRow B 165 3 v' l.length (accs l) ∧ But (fun k => v.ownBlock = some k) w w' ∧ (v'.ownBlock = v.ownBlock ∨ v'.ownBlock = some w.heap.size)

set_option maxRecDepth 100000 in
set_option maxHeartbeats 1000000 in
theorem insert_endCh (l : List Acc) (a : Acc) (B vb n c : Nat) (A : Option Addr) (w : World) (hn : l.length = n) (hown : w.ownsRow B 165 3 (.slice A n c) n (accs l)) (hvb : w.heap[vb]? = some (.cells a.cells.toArray 165 (0, 0))) (hn2 : n ≤ 1000000) (hB : B ≤ w.heap.size) :
    Calls Tryz.prog 226 #[.slice A n c, .int .i64 n, .slice (some ⟨vb, 0, none⟩) 1 1] w fun e w' => ∃ v', e = .returned v' ∧ InsertedCh w B (.slice A n c) (l ++ [a]) v' w' := by
  have hr : Rd w (vb + 1) 3 (some ⟨vb, 0, none⟩) 1 a.cells := ⟨rfl, fun _ => ⟨_, rfl, by simp, rd_atCh hvb⟩⟩
  obtain ⟨v', w', hrun, hown', hg, hp⟩ := append_fresh (P := Tryz.prog) (ty := 76) (c := 1) infoAcc Tryz.underlying76 rfl (by omega) B _ n _ hown hr (cells_oneA a) (by unfold maxLen; omega) (by omega) hB
  have HI : Hid (InsertedCh w B (.slice A n c) (l ++ [a]) v' w') := by
    refine ⟨?_, But.of_grown hg, hp⟩
    rw [accs_append, List.length_append, hn]
    exact hown'
  have HR := Lib.hid hrun
  have hcap : n ≤ c := by
    rcases hown.2 with ⟨h1, rfl⟩ | ⟨g, cap, cur, h1, _, _, h2, _⟩
    · injection h1 with _ _ h3; omega
    · injection h1 with _ _ h3; omega
  have hc63 : c ≤ 9223372036854775807 := by
    rcases hown.2 with ⟨h1, rfl⟩ | ⟨g, cap, cur, h1, _, _, h2, h3, _⟩
    · injection h1 with _ _ h3; omega
    · injection h1 with _ _ h4; subst h4; unfold maxLen at h3; omega
  clear hown hvb hr hown' hg hp hn hrun
  obtain ⟨A', c', n', rfl⟩ : ∃ A' c' n', v' = .slice A' n' c' := by
    obtain ⟨A', c', e⟩ := own_form HI.out.1
    exact ⟨A', c', _, e⟩
  rcases A with _ | ad
  all_goals
    by_cases hcn : c = n
    all_goals
      go_enter Tryz.func226, Tryz.ntmps226
      go_wp2_with (at_builtin; refine wpList_append_run rfl _ _ _ rfl _ _ _ _ rfl rfl HR.out ?_)
      go_ret
      exact ⟨_, rfl, HI.out⟩

set_option maxRecDepth 100000 in
set_option maxHeartbeats 4000000 in
theorem insert_growCh (l : List Acc) (a : Acc) (B vb g i n c : Nat) (w : World) (hn : l.length = n) (hown : w.ownsRow B 165 3 (.slice (some ⟨g, 0, none⟩) n c) n (accs l)) (hvb : w.heap[vb]? = some (.cells a.cells.toArray 165 (0, 0))) (hn2 : n ≤ 1000000) (hB : B ≤ w.heap.size) (hi : i < n) (hroom : c < n + 1) :
    Calls Tryz.prog 226 #[.slice (some ⟨g, 0, none⟩) n c, .int .i64 i, .slice (some ⟨vb, 0, none⟩) 1 1] w fun e w' => ∃ v', e = .returned v' ∧ InsertedCh w B (.slice (some ⟨g, 0, none⟩) n c) (l.take i ++ a :: l.drop i) v' w' := by
  obtain ⟨cur, hh, hBg, hnc, hcm, hcs, hcl⟩ := own_blk hown
  obtain rfl : c = n := by omega
  obtain ⟨i0, hi0, hz0, hz1, hz2⟩ := info_parts infoAcc
  have hcells := hown.cells (g := g) rfl
  have hxl : (accs l).length = c * 3 := hown.1
  -- append(s[:i], make(..)...)
  have hold : (Builtin.firstCells i0.size i (.slice (some ⟨g, 0, none⟩) i c)).run Tryz.prog w.drew = .ok ((accs l).take (i * 3)).toArray w.drew := by
    rw [hz1]
    refine run_firstCells_some w.drew 3 i ⟨g, 0, none⟩ i c _ (by simp [hxl]; omega) (fun j v hj => ?_)
    rw [List.getElem?_take] at hj
    split at hj
    · exact hcells j v hj
    · cases hj
  have hrz : ∀ ty, (Builtin.append_ #[76, 3] ty #[.slice (some ⟨g, 0, none⟩) i c, .int .i64 ((c + 1 - i : Nat) : Int)]).run Tryz.prog w = _ := fun ty =>
    Lib.run_append_grow_zeros w 76 3 ty 165 i0 _ .i64 .i64 Tryz.underlying76 Tryz.underlying3 hi0 hz0 (some ⟨g, 0, none⟩) i c _ hold (c + 1 - i) (by omega) (by omega) (by omega) (by omega) (by rw [hz2]; omega) (by rw [hz2, show i + (c + 1 - i) = c + 1 by omega]; exact growslice_fits (by omega) (by omega))
  rw [show i + (c + 1 - i) = c + 1 by omega] at hrz
  generalize hG : grownCap w (c + 1) c 165 = G at hrz
  have hGn : c + 1 ≤ G := by rw [← hG]; exact grownCap_ge w _ _ _
  have hG63 : G ≤ maxLen := by rw [← hG]; exact grownCap_le_maxLen w (c + 1) c _ (by unfold maxLen; omega)
  generalize hZ : (Builtin.zeroCells (Value.agg #[.int .i64 0, .int .i64 0, .bool false]).cells (c + 1 - i)) = Z at hrz
  have hZl : Z.size = (c + 1 - i) * 3 := by rw [← hZ, size_zeroCells]; rfl
  generalize hY : (Builtin.zeroCells (Value.agg #[.int .i64 0, .int .i64 0, .bool false]).cells (G - (c + 1))) = Y at hrz
  have hYl : Y.size = (G - (c + 1)) * 3 := by rw [← hY, size_zeroCells]; rfl
  have hown0 : (w.drew.alloc (.cells (((accs l).take (i * 3)).toArray ++ Z ++ Y) 165)).ownsRow B 165 3 (.slice (some ⟨w.heap.size, 0, none⟩) (c + 1) G) (c + 1) ((accs l).take (i * 3) ++ Z.toList) := by
    have hlen : ((accs l).take (i * 3) ++ Z.toList).length = (c + 1) * 3 := by simp [hxl, hZl]; omega
    refine ⟨hlen, .inr ⟨w.heap.size, G, _, rfl, hB, heap_new w.drew _, hGn, hG63, by simp [hxl, hZl, hYl]; omega, ?_⟩⟩
    rw [Array.toList_append, Array.toList_append, ← hlen]
    exact List.take_left
  generalize hW0 : w.drew.alloc (.cells (((accs l).take (i * 3)).toArray ++ Z ++ Y) 165) = W0 at hrz hown0
  have hk0 : ∀ k, k < w.heap.size → W0.heap[k]? = w.heap[k]? := fun k hk => by rw [← hW0]; exact Below.heap_alloc w.drew _ _ hk
  have hz0' : W0.heap.size = w.heap.size + 1 := by rw [← hW0]; simp
  have hinfo : (Tryz.prog.info? 165).map (·.size) = some 3 := by rw [hi0]; simp [hz1]
  have hvlt := lt_of_blk hvb
  have hglt := lt_of_blk hh
  -- copy(s2[i:], v)
  have hcp1 : ∀ ty dc, _ := fun ty dc => copy_own (P := Tryz.prog) (ty := ty) hown0 Tryz.underlying76 hinfo i 1 (c + 1 - i) dc 1 1 ⟨vb, 0, none⟩ a.cells (by simp only [Nat.min_def]; split <;> omega) rfl (by omega) (rd_atCh ((hk0 vb hvlt).trans hvb)) (cells_oneA a)
  have hown1 := (hcp1 0 0).2
  generalize hW1 : W0.setCells w.heap.size (i * 3) a.cells = W1 at hcp1 hown1
  have hk1 : ∀ k, k < w.heap.size → W1.heap[k]? = w.heap[k]? := fun k hk => by rw [← hW1, setCells_other _ _ _ _ (by omega)]; exact hk0 k hk
  -- copy(s2[i+1:], s[i:])
  have hsrc : ∀ j u, ((accs l).drop (i * 3))[j]? = some u → W1.cell? ((⟨g, i * 3, none⟩ : Addr).add j) = some u := by
    intro j u hu
    rw [List.getElem?_drop] at hu
    have := hcells _ u hu
    rw [Addr.add_lit] at this ⊢
    rw [Nat.zero_add] at this
    rw [← this]
    unfold World.cell?
    rw [hk1 g hglt]
  have hcp2 : ∀ ty dc sc, _ := fun ty dc sc => copy_own (P := Tryz.prog) (w := W1.drew) (ty := ty) hown1 Tryz.underlying76 hinfo (i + 1) (c - i) (c + 1 - (i + 1)) dc (c - i) sc ⟨g, i * 3, none⟩ ((accs l).drop (i * 3)) (by simp only [Nat.min_def]; split <;> omega) (by simp [hxl]; omega) (by omega) hsrc (fun u hu => accs_one l u (List.mem_of_mem_drop hu))
  have hown2 := (hcp2 0 0 0).2
  rw [ins_new hxl (by omega) (by simp [hZl]) rfl, ← accs_ins] at hown2
  generalize hW2 : W1.drew.setCells w.heap.size ((i + 1) * 3) ((accs l).drop (i * 3)) = W2 at hcp2 hown2
  have hkk : (c : Int) + 1 - (i : Int) = ((c + 1 - i : Nat) : Int) := by omega
  have HI : Hid (InsertedCh w B (.slice (some ⟨g, 0, none⟩) c c) (l.take i ++ a :: l.drop i) (.slice (some ⟨w.heap.size, 0, none⟩) (c + 1) G) W2) := by
    refine ⟨?_, ⟨?_, ?_, ?_, ?_, fun k hk _ => ?_⟩, .inr rfl⟩
    · rw [show (l.take i ++ a :: l.drop i).length = c + 1 by simp; omega]; exact hown2
    · rw [← hW2, (setCells_below (B := 0) (Nat.zero_le _) _ _ _).os, show W1.drew.os = W1.os from rfl, ← hW1, (setCells_below (B := 0) (Nat.zero_le _) _ _ _).os, ← hW0]; rfl
    · rw [← hW2, (setCells_below (B := 0) (Nat.zero_le _) _ _ _).tape, show W1.drew.tape = W1.tape from rfl, ← hW1, (setCells_below (B := 0) (Nat.zero_le _) _ _ _).tape, ← hW0]; rfl
    · rw [← hW2, (setCells_below (B := 0) (Nat.zero_le _) _ _ _).output, show W1.drew.output = W1.output from rfl, ← hW1, (setCells_below (B := 0) (Nat.zero_le _) _ _ _).output, ← hW0]; rfl
    · have h1 := (setCells_below (B := 0) (g := w.heap.size) (Nat.zero_le _) ((accs l).drop (i * 3)) W1.drew ((i + 1) * 3)).size
      have h2 := (setCells_below (B := 0) (g := w.heap.size) (Nat.zero_le _) a.cells W0 (i * 3)).size
      rw [hW2] at h1
      rw [hW1] at h2
      have h3 : W1.drew.heap.size = W1.heap.size := rfl
      omega
    · rw [← hW2, setCells_other _ _ _ _ (by omega)]
      exact hk1 k hk
  have HRZ := Lib.hid hrz; have HC1 := Lib.hid hcp1; have HC2 := Lib.hid hcp2
  have hG63' : G ≤ 9223372036854775807 := by unfold maxLen at hG63; omega
  clear hrz hcp1 hcp2 hown hown0 hown1 hown2 hcells hsrc hold hh hcs hcl hG hZ hZl hY hYl hz0 hz1 hz2 hi0 hinfo hxl hn hvb hk0 hk1 hz0' hW0 hW1 hW2 hG63 hcm hnc
  have hw1 : IntKind.i64.wrap ((i : Int) + 1) = (i : Int) + 1 := by rw [IntKind.wrap_i64]; omega
  have hb1 : (0 : Int) ≤ (i : Int) + 1 := by omega
  have htn : ((i : Int) + 1).toNat = i + 1 := by omega
  have hGi : ¬ (G = i) := by omega
  have hGim : ¬ (G = i + 1) := by omega
  have hci : ¬ (c = i) := by omega
  have hin : i ≤ c := by omega
  go_enter Tryz.func226, Tryz.ntmps226
  have hc1 := (HC1.out 3 (G - i)).1
  go_wp2_with (at_builtin; refine wpList_append_run2 rfl _ _ _ _ rfl _ _ _ _ rfl rfl (HRZ.out _) ?_)
  go_region_law (refine step_copy_run rfl _ _ _ _ rfl (.slice (some ⟨w.heap.size, (i + 1) * 3, none⟩) (c + 1 - (i + 1)) (G - (i + 1))) (.slice (some ⟨g, i * 3, none⟩) (c - i) (c - i)) _ _ (by simp [Act.eval, Act.put]) (by simp [Act.eval, Act.put]) (HC2.out _ _ _).1 ?_)
  go_wp2
  go_ret
  exact ⟨_, rfl, HI.out⟩
end Go.Proofs.YtjlokkjbdgcooaaGreat

