/-
  Several texts, one behind the other: what each holds stands ahead of it.
-/
import Derived.Test.YthjpknipnmagkaaMany9
import Derived.Test.YthjpknipnmagkaaTomeRef
import Derived.Test.YthjpknipnmagkaaMany6
import Derived.BigQuiet
import Derived.Laws.MakeOwn
import Derived.Test.YthjpknipnmagkaaMany5
import Derived.Test.YthjpknipnmagkaaMany7
import Derived.LoopN
import Derived.Laws.EntriesVeiled

/-
  Journals that stand beside each other: posted one behind the other they are all there. No code.
-/
namespace Go.Proofs.Ythjpknipnmagkaa
open Go.RowKit

structure GoodM (M : List Jrn) : Prop where
  rise : Rise Jrn.id M
  ok : ∀ j ∈ M, checkE j = 0
  len : M.length ≤ 200
  free : ∀ j ∈ M, takenJ M j = false
theorem GoodM.nil : GoodM [] := ⟨Rise.nil, by simp, by simp, by simp⟩
theorem leaves_of_taken {M : List Jrn} {j : Jrn} (h : takenJ M j = false) : ∀ b ∈ M, leavesRef j b = true := by
  unfold takenJ at h
  rw [Bool.not_eq_false', List.all_eq_true] at h
  exact h
theorem taken_of_leaves {M : List Jrn} {j : Jrn} (h : ∀ b ∈ M, leavesRef j b = true) : takenJ M j = false := by
  unfold takenJ
  rw [Bool.not_eq_false', List.all_eq_true]
  exact h
theorem leaves_self (j : Jrn) : leavesRef j j = true := by unfold leavesRef; simp
theorem leaves_symm {a b : Jrn} (h : leavesRef a b = true) : leavesRef b a = true := by
  unfold leavesRef holdsRef at *
  simp only [Bool.or_eq_true, Bool.not_eq_true', Bool.and_eq_false_iff, beq_eq_false_iff_ne, beq_iff_eq, Bool.not_eq_false'] at *
  by_cases h1 : b.void = true
  · exact .inl (.inl (.inl h1))
  by_cases h2 : a.void = true
  · exact .inr (.inl (.inr h2))
  by_cases h3 : a.id = b.id
  · exact .inl (.inl (.inr h3))
  by_cases h4 : a.ent = b.ent
  · by_cases h5 : a.ref.toList = b.ref.toList
    · rcases h with ((h | h) | h) | ((h | h) | h)
      · exact absurd h h2
      · exact absurd h.symm h3
      · exact absurd h4.symm h
      · exact .inr (.inl (.inl (h5 ▸ h)))
      · exact absurd h h1
      · exact absurd h5.symm h
    · exact .inr (.inr h5)
  · exact .inl (.inr h4)
theorem postE_zero {M : List Jrn} {j : Jrn} (h : postE M j = 0) : checkE j = 0 ∧ hasId M j.id = false ∧ takenJ M j = false ∧ M.length < 200 := by
  unfold postE at h
  split at h
  · rename_i h1
    split at h
    · cases h
    · rename_i h2
      split at h
      · cases h
      · rename_i h3
        split at h
        · cases h
        · exact ⟨h1, Bool.eq_false_iff.2 h2, Bool.eq_false_iff.2 h3, by omega⟩
  · rename_i h1; exact absurd h h1
theorem GoodM.put {M : List Jrn} {j : Jrn} (h : GoodM M) (hE : postE M j = 0) : GoodM (putK Jrn.id M j) := by
  obtain ⟨h1, h2, h3, h4⟩ := postE_zero hE
  have hl := leaves_of_taken h3
  refine ⟨h.rise.put j, fun b hb => ?_, ?_, fun b hb => taken_of_leaves fun x hx => ?_⟩
  · rcases mem_put hb with rfl | hb
    · exact h1
    · exact h.ok b hb
  · unfold hasId at h2
    rw [putK_len h.rise, h2]
    simp; omega
  · rcases mem_put hb with e1 | hb1 <;> rcases mem_put hx with e2 | hx1
    · rw [e1, e2]; exact leaves_self _
    · rw [e1]; exact hl x hx1
    · rw [e2]; exact leaves_symm (hl b hb1)
    · exact leaves_of_taken (h.free b hb1) x hx1
theorem hasId_out {M : List Jrn} {x : Int} (h : ∀ b ∈ M, b.id ≠ x) : hasId M x = false := by unfold hasId; rw [findK_out h]; rfl
theorem put_end {M : List Jrn} {j : Jrn} (h : ∀ b ∈ M, b.id < j.id) : putK Jrn.id M j = M ++ [j] := by
  have hn : (findK Jrn.id M j.id).isSome = false := by rw [findK_out fun b hb => by have := h b hb; omega]; rfl
  have hp : posK Jrn.id M j.id = M.length := posK_eq (Nat.le_refl _) (fun k a _ ha => h a (List.mem_of_getElem? ha)) fun a ha => by rw [List.getElem?_eq_none (Nat.le_refl _)] at ha; cases ha
  rw [putK_fresh hn, hp, List.take_length, List.drop_length]
/-- One behind the other, all are there. -/
theorem GoodM.of : ∀ (R P : List Jrn), GoodM (P ++ R) → ofE P R = 0 ∧ ofM P R = P ++ R
  | [], P, _ => by simp [ofE, ofM]
  | j :: R, P, h => by
    have hlt : ∀ b ∈ P, b.id < j.id := fun b hb => by
      have := h.rise
      unfold Rise at this
      rw [List.pairwise_append] at this
      exact this.2.2 b hb j (by simp)
    have hok := h.ok j (by simp)
    have ht : takenJ P j = false := taken_of_leaves fun b hb => leaves_of_taken (h.free j (by simp)) b (by simp [hb])
    have hl : ¬ 200 ≤ P.length := by have := h.len; simp at this; omega
    have h0 : postE P j = 0 := by
      unfold postE
      rw [if_pos hok, hasId_out fun b hb => by have := hlt b hb; omega, ht, if_neg hl]
      rfl
    have hp : postL P j = P ++ [j] := by unfold postL; rw [if_pos h0, put_end hlt]
    have ih := GoodM.of R (P ++ [j]) (by rw [List.append_assoc]; exact h)
    unfold ofE ofM
    rw [if_pos h0, if_pos h0, hp]
    rw [List.append_assoc] at ih
    exact ih
theorem rise_jr {l : List JR} (h : Rise Jrn.id (l.map JR.j)) : Rise JR.id l := (Rise.map (key := Jrn.id) (f := JR.j)).1 h
theorem put_jr (l : List JR) (a : JR) : (putK JR.id l a).map JR.j = putK Jrn.id (l.map JR.j) a.j := (putK_map (key := Jrn.id) JR.j l a).symm
theorem checkE_max {j : Jrn} (h : checkE j = 0) : j.ref.size ≤ maxLen ∧ j.lines.length ≤ maxLen := by
  have := checkE_len h
  unfold maxLen
  omega
end Go.Proofs.Ythjpknipnmagkaa

/-
  Contracts of SameJournals (of lists that are alike), (*Book).has, Same (of books that are alike), All.
-/
namespace Go.Proofs.Ythjpknipnmagkaa
open Go.RowKit

def zeroR : JR := ⟨zeroJ, none, 0⟩
theorem made_jrs (n : Nat) : (madeCells (Value.agg #[.int .i64 0, .int .i64 0, .int .i64 0, .string ⟨#[]⟩, .slice none 0 0, .bool false]).cells (n * 6)).toList = jrs (List.replicate n zeroR) := by
  apply List.ext_getElem?
  intro i
  by_cases hi : i < n * 6
  · have h1 : (jrs (List.replicate n zeroR))[i / 6 * 6 + i % 6]? = zeroR.cells[i % 6]? := by
      have hlt : i % 6 < zeroR.cells.length := by show i % 6 < 6; omega
      rw [List.getElem?_eq_getElem hlt]
      exact jrs_at _ (i / 6) zeroR (by rw [List.getElem?_replicate, if_pos (by omega)]) (i % 6) _ (List.getElem?_eq_getElem hlt)
    rw [show i / 6 * 6 + i % 6 = i by omega] at h1
    rw [h1]
    unfold madeCells
    rw [Array.getElem?_toList, Array.getElem?_map, Array.getElem?_range, if_pos hi]
    have h6 : i % 6 = 0 ∨ i % 6 = 1 ∨ i % 6 = 2 ∨ i % 6 = 3 ∨ i % 6 = 4 ∨ i % 6 = 5 := by omega
    simp only [Value.cells, Option.map_some]
    rcases h6 with h | h | h | h | h | h <;> simp [h, JR.cells, zeroR, zeroJ]
  · rw [List.getElem?_eq_none (by rw [Array.length_toList, size_madeCells]; omega), List.getElem?_eq_none (by rw [jrs_len]; simp; omega)]
theorem make_jrs {q : IntKind} {n : Nat} (hn : n ≤ 1000000) (w : World) : (Instr.makeSlice 30 (.int q (n : Int)) (.int q (n : Int))).run Try.prog w = .ok (.slice (some ⟨w.heap.size, 0, none⟩) n n) (w.alloc (.cells (jrs (List.replicate n zeroR)).toArray 38)) := by
  obtain ⟨i, hi, hz, h1, h2⟩ := info_parts infoJrn
  have := run_make (P := Try.prog) w 30 38 i _ Try.underlying30 hi hz q q n n (by omega) (by omega) (by rw [h2]; omega) (by omega)
  rw [this, h1]
  simp only [Int.toNat_natCast]
  rw [← made_jrs, Array.toArray_toList]
theorem own_make (w : World) (n : Nat) (hn : n ≤ 1000000) : (w.alloc (.cells (jrs (List.replicate n zeroR)).toArray 38)).ownsRow w.heap.size 38 6 (.slice (some ⟨w.heap.size, 0, none⟩) n n) n (jrs (List.replicate n zeroR)) :=
  ⟨by rw [jrs_len]; simp, .inr ⟨w.heap.size, n, _, rfl, Nat.le_refl _, heap_new _ _, Nat.le_refl _, by unfold maxLen; omega, by rw [List.size_toArray, jrs_len]; simp, by rw [List.take_of_length_le (by rw [jrs_len]; simp)]⟩⟩
theorem set_next {m : List JR} {r : Nat} {a : JR} (hr : 0 < r) : (m ++ List.replicate r zeroR).set m.length a = (m ++ [a]) ++ List.replicate (r - 1) zeroR := by
  obtain ⟨r, rfl⟩ : ∃ q, r = q + 1 := ⟨r - 1, by omega⟩
  rw [List.set_append_right _ _ (Nat.le_refl _), Nat.sub_self, List.replicate_succ, List.set_cons_zero]
  simp
end Go.Proofs.Ythjpknipnmagkaa

/-
  Contract of the reference's Copy.
-/
namespace Go.Proofs.Ythjpknipnmagkaa
open Go.RowKit

set_option maxRecDepth 100000 in
set_option maxHeartbeats 2000000 in
theorem refCopy_any (j : Jrn) (A : Option Addr) (n c B : Nat) (w : World) (h : Rd w B 3 A n (lins j.lines)) (hB : B ≤ w.heap.size) (hn : n ≤ 1000000) :
    Calls Try.prog 80 #[j.val A n c] w fun e w' => ∃ A' c', e = .returned (.agg #[.int .i64 j.id, .int .i64 j.ent, .int .i64 j.per, .string j.ref, .slice A' n c', .bool j.void]) ∧ w'.ownsRow w.heap.size 40 3 (.slice A' n c') n (lins j.lines) ∧ Below w.heap.size w w' := by
  obtain ⟨W2, hW2⟩ : ∃ W2, (w.alloc (.cells #[.int .i64 j.id, .int .i64 j.ent, .int .i64 j.per, .string j.ref, .slice A n c, .bool j.void] 38)).alloc (.cells #[.int .i64 0, .int .i64 0, .int .i64 0, .string ⟨#[]⟩, .slice none 0 0, .bool false] 38) = W2 := ⟨_, rfl⟩
  have hb2 : Below w.heap.size w W2 := by rw [← hW2]; exact ((Below.refl _ _).alloc (Nat.le_refl _) _).alloc (by simp) _
  have hz2 : W2.heap.size = w.heap.size + 2 := by rw [← hW2]; simp
  have hbox : JAt W2 w.heap.size j A n c := by
    rw [← hW2]
    exact (Below.heap_alloc _ _ _ (by simp)).trans (heap_new w _)
  have hres : JAt W2 (w.heap.size + 1) zeroJ none 0 0 := by
    rw [← hW2]
    have := heap_new (w.alloc (.cells #[.int .i64 j.id, .int .i64 j.ent, .int .i64 j.per, .string j.ref, .slice A n c, .bool j.void] 38)) (.cells #[.int .i64 0, .int .i64 0, .int .i64 0, .string ⟨#[]⟩, .slice none 0 0, .bool false] 38)
    rw [show (w.alloc (.cells #[.int .i64 j.id, .int .i64 j.ent, .int .i64 j.per, .string j.ref, .slice A n c, .bool j.void] 38)).heap.size = w.heap.size + 1 by simp] at this
    exact this
  obtain ⟨v3, w3, hrun, hown, hg, _⟩ := append_fresh (P := Try.prog) (w := W2) (ty := 36) (c := c) infoLin Try.underlying36 rfl (by omega) W2.heap.size (.slice none 0 0) 0 [] (World.ownsRow_nil _ _ _ _) (h.far hb2 hB) (linsOne _) (by unfold maxLen; omega) (by omega) (Nat.le_refl _)
  rw [Nat.zero_add, List.nil_append] at hown
  obtain ⟨A', c', rfl⟩ := own_form hown
  have hk : ∀ q, q < W2.heap.size → w3.heap[q]? = W2.heap[q]? := fun q hq => hg.block q hq (fun e => by cases e)
  have hbox3 : JAt w3 w.heap.size j A n c := (hk _ (by omega)).trans hbox
  have hres3 : JAt w3 (w.heap.size + 1) zeroJ none 0 0 := (hk _ (by omega)).trans hres
  have hb3 : Below W2.heap.size W2 w3 := ⟨hg.os, hg.tape, hg.output, hg.size, hk⟩
  obtain ⟨x0, x1, x2, x3, x4, x5⟩ := six_cells hbox3
  have xf := fun o => warm_of hbox3 o
  obtain ⟨y0, y1, y2, y3, y4, y5⟩ := six_cells hres3
  have yf := fun o => warm_of hres3 o
  have HR := Lib.hid hrun
  have HOWN := Lib.hid hown
  have HB : Hid (Below w.heap.size w w3) := hb2.trans (hb3.mono hb2.size)
  have HW2 := Lib.hid hW2
  have hlt3 : w.heap.size + 1 < w3.heap.size := lt_of_blk hres3
  have HZ2 := Lib.hid hz2
  clear hrun hown hg hW2 hb2 hbox hres hbox3 hres3 hb3 hk h hz2
  unfold Jrn.val
  go_enter Try.func80, Try.ntmps80
  go_wp2_with (at_builtin; rw [HW2.out]; refine wpList_append_run rfl _ _ _ rfl _ _ _ _ rfl rfl HR.out ?_)
  refine bodyPost_ret (v := .agg #[.int .i64 j.id, .int .i64 j.ent, .int .i64 j.per, .string j.ref, .slice A' n c', .bool j.void]) (by simp [results, Try.results80, go_sem, y0, y1, y2, y3, y4, y5]) rfl ⟨A', c', rfl, ?_, ?_⟩
  · refine own_base (own_six (own_kept HOWN.out fun q hq ho => ?_) (by have := HZ2.out; omega) _ _ _ _ _ _) (by have := HZ2.out; omega)
    have hge := own_ge HOWN.out q ho
    exact Below.heap_setCell _ _ _ _ (by have := HZ2.out; show q ≠ w.heap.size; omega)
  · exact below_six (HB.out.setCell (p := ⟨w.heap.size, 4, none⟩) (Nat.le_refl _) _) (Nat.le_succ _) _ _ _ _ _ _
end Go.Proofs.Ythjpknipnmagkaa
