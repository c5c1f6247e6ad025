/-
  Several texts, one behind the other: what each holds stands ahead of it.
-/
import Derived.Test.YtjlokkjbdgcooaaGreatMany10
import Derived.Test.YtjlokkjbdgcooaaGreatMany8
import Derived.Test.YtjlokkjbdgcooaaGreatMany7
import Derived.BigQuiet
import Derived.Laws.MakeOwn

/-
  Journals that stand beside each other: posted one behind the other they are all there. No code.
-/
namespace Go.Proofs.YtjlokkjbdgcooaaGreat
open Go.RowKit

structure GoodM (M : List Jrn) : Prop where
  rise : Rise Jrn.id M
  ok : ∀ j ∈ M, checkE j = 0
  len : M.length ≤ 200
  free : ∀ j ∈ M, takenJ M j = false
theorem GoodM.nil : GoodM [] := ⟨Rise.nil, by simp, by simp, by simp⟩
theorem leaves_of_taken {M : List Jrn} {j : Jrn} (h : takenJ M j = false) : ∀ b ∈ M, leavesRef j b = true := by
  unfold takenJ at h
  rw [Bool.not_eq_false', List.all_eq_true] at h
  exact h
theorem taken_of_leaves {M : List Jrn} {j : Jrn} (h : ∀ b ∈ M, leavesRef j b = true) : takenJ M j = false := by
  unfold takenJ
  rw [Bool.not_eq_false', List.all_eq_true]
  exact h
theorem leaves_self (j : Jrn) : leavesRef j j = true := by unfold leavesRef; simp
theorem leaves_symm {a b : Jrn} (h : leavesRef a b = true) : leavesRef b a = true := by
  unfold leavesRef holdsRef at *
  simp only [Bool.or_eq_true, Bool.not_eq_true', Bool.and_eq_false_iff, beq_eq_false_iff_ne, beq_iff_eq, Bool.not_eq_false'] at *
  by_cases h1 : b.void = true
  · exact .inl (.inl (.inl h1))
  by_cases h2 : a.void = true
  · exact .inr (.inl (.inr h2))
  by_cases h3 : a.id = b.id
  · exact .inl (.inl (.inr h3))
  by_cases h4 : a.ent = b.ent
  · by_cases h5 : a.ref.toList = b.ref.toList
    · rcases h with ((h | h) | h) | ((h | h) | h)
      · exact absurd h h2
      · exact absurd h.symm h3
      · exact absurd h4.symm h
      · exact .inr (.inl (.inl (h5 ▸ h)))
      · exact absurd h h1
      · exact absurd h5.symm h
    · exact .inr (.inr h5)
  · exact .inl (.inr h4)
theorem postE_zero {M : List Jrn} {j : Jrn} (h : postE M j = 0) : checkE j = 0 ∧ hasId M j.id = false ∧ takenJ M j = false ∧ M.length < 200 := by
  unfold postE at h
  split at h
  · rename_i h1
    split at h
    · cases h
    · rename_i h2
      split at h
      · cases h
      · rename_i h3
        split at h
        · cases h
        · exact ⟨h1, Bool.eq_false_iff.2 h2, Bool.eq_false_iff.2 h3, by omega⟩
  · rename_i h1; exact absurd h h1
theorem GoodM.put {M : List Jrn} {j : Jrn} (h : GoodM M) (hE : postE M j = 0) : GoodM (putK Jrn.id M j) := by
  obtain ⟨h1, h2, h3, h4⟩ := postE_zero hE
  have hl := leaves_of_taken h3
  refine ⟨h.rise.put j, fun b hb => ?_, ?_, fun b hb => taken_of_leaves fun x hx => ?_⟩
  · rcases mem_put hb with rfl | hb
    · exact h1
    · exact h.ok b hb
  · unfold hasId at h2
    rw [putK_len h.rise, h2]
    simp; omega
  · rcases mem_put hb with e1 | hb1 <;> rcases mem_put hx with e2 | hx1
    · rw [e1, e2]; exact leaves_self _
    · rw [e1]; exact hl x hx1
    · rw [e2]; exact leaves_symm (hl b hb1)
    · exact leaves_of_taken (h.free b hb1) x hx1
theorem hasId_out {M : List Jrn} {x : Int} (h : ∀ b ∈ M, b.id ≠ x) : hasId M x = false := by unfold hasId; rw [findK_out h]; rfl
theorem put_end {M : List Jrn} {j : Jrn} (h : ∀ b ∈ M, b.id < j.id) : putK Jrn.id M j = M ++ [j] := by
  have hn : (findK Jrn.id M j.id).isSome = false := by rw [findK_out fun b hb => by have := h b hb; omega]; rfl
  have hp : posK Jrn.id M j.id = M.length := posK_eq (Nat.le_refl _) (fun k a _ ha => h a (List.mem_of_getElem? ha)) fun a ha => by rw [List.getElem?_eq_none (Nat.le_refl _)] at ha; cases ha
  rw [putK_fresh hn, hp, List.take_length, List.drop_length]
/-- One behind the other, all are there. -/
theorem GoodM.of : ∀ (R P : List Jrn), GoodM (P ++ R) → ofE P R = 0 ∧ ofM P R = P ++ R
  | [], P, _ => by simp [ofE, ofM]
  | j :: R, P, h => by
    have hlt : ∀ b ∈ P, b.id < j.id := fun b hb => by
      have := h.rise
      unfold Rise at this
      rw [List.pairwise_append] at this
      exact this.2.2 b hb j (by simp)
    have hok := h.ok j (by simp)
    have ht : takenJ P j = false := taken_of_leaves fun b hb => leaves_of_taken (h.free j (by simp)) b (by simp [hb])
    have hl : ¬ 200 ≤ P.length := by have := h.len; simp at this; omega
    have h0 : postE P j = 0 := by
      unfold postE
      rw [if_pos hok, hasId_out fun b hb => by have := hlt b hb; omega, ht, if_neg hl]
      rfl
    have hp : postL P j = P ++ [j] := by unfold postL; rw [if_pos h0, put_end hlt]
    have ih := GoodM.of R (P ++ [j]) (by rw [List.append_assoc]; exact h)
    unfold ofE ofM
    rw [if_pos h0, if_pos h0, hp]
    rw [List.append_assoc] at ih
    exact ih
theorem rise_jr {l : List JR} (h : Rise Jrn.id (l.map JR.j)) : Rise JR.id l := (Rise.map (key := Jrn.id) (f := JR.j)).1 h
theorem put_jr (l : List JR) (a : JR) : (putK JR.id l a).map JR.j = putK Jrn.id (l.map JR.j) a.j := (putK_map (key := Jrn.id) JR.j l a).symm
theorem checkE_max {j : Jrn} (h : checkE j = 0) : j.ref.size ≤ maxLen ∧ j.lines.length ≤ maxLen := by
  have := checkE_len h
  unfold maxLen
  omega
end Go.Proofs.YtjlokkjbdgcooaaGreat

/-
  Contracts of SameJournals (of lists that are alike), (*Book).has, Same (of books that are alike), All.
-/
namespace Go.Proofs.YtjlokkjbdgcooaaGreat
open Go.RowKit

set_option maxRecDepth 100000 in
set_option maxHeartbeats 2000000 in
theorem sameJournals_any (l m : List JR) (A1 A2 : Option Addr) (n c1 c2 B1 B2 : Nat) (w : World) (h1 : JlRd w B1 A1 n l) (h2 : JlRd w B2 A2 n m) (hB1 : B1 ≤ w.heap.size) (hB2 : B2 ≤ w.heap.size) (hn : n ≤ 1000000) (he : l.map JR.j = m.map JR.j) :
    Calls Tryz.prog 19 #[.slice A1 n c1, .slice A2 n c2] w fun e w' => e = .returned (.bool true) ∧ Below w.heap.size w w' := by
  have H1 := Lib.hid h1
  have H2 := Lib.hid h2
  have HE := Lib.hid he
  have t1 : ((n : Int) != (n : Int)) = false := by simp
  clear h1 h2 he
  go_enter Tryz.func19, Tryz.ntmps19
  go_wp2_with fail
  go_loopw [5] (fun iv wr => ∃ k : Nat, k ≤ n ∧ iv = .int .i64 k ∧ Below w.heap.size w wr) (fun iv _ => n - (intOf iv).toNat)
  case atStart => exact ⟨0, Nat.zero_le _, rfl, Below.refl _ _⟩
  case round =>
    obtain ⟨k, hk, rfl, hbel⟩ := hrel
    have hzr := hbel.size
    by_cases hlt : k < n
    · have hkn : (k : Int) < (n : Int) := by omega
      have r1 := H1.out.far hbel hB1
      have r2 := H2.out.far hbel hB2
      obtain ⟨ad, a, rfl, hb1, hx, p1, p2, p3, p4, p5, p6⟩ := r1.rd.jr hlt
      obtain ⟨ad2, b, rfl, hb2, hy, q1, q2, q3, q4, q5, q6⟩ := r2.rd.jr hlt
      have hab : a.j = b.j := by
        have e1 : (l.map JR.j)[k]? = some a.j := by rw [List.getElem?_map, hx]; rfl
        have e2 : (m.map JR.j)[k]? = some b.j := by rw [List.getElem?_map, hy]; rfl
        rw [HE.out, e2] at e1
        injection e1 with e1
        exact e1.symm
      have ma := List.mem_of_getElem? hx
      have mb := List.mem_of_getElem? hy
      have Q : Hid _ := regrown_calls (w := wr) fun w1 hb => by
        have := refSame_any a.j b.j a.A b.A a.j.lines.length b.j.lines.length a.c b.c B1 B2 w1 ((r1.lines a ma).far hb (by omega)) ((r2.lines b mb).far hb (by omega)) (by have := hb.size; omega) (by have := hb.size; omega) (H1.out.size a ma).2 (H2.out.size b mb).2
        rw [hab, sameJ_self] at this
        exact this
      rw [hab] at p1 p2 p3 p4 p5 p6
      unfold Jrn.val at Q
      replace p1 := cell_regrown p1; replace p2 := cell_regrown p2; replace p3 := cell_regrown p3; replace p4 := cell_regrown p4; replace p5 := cell_regrown p5; replace p6 := cell_regrown p6
      replace q1 := cell_regrown q1; replace q2 := cell_regrown q2; replace q3 := cell_regrown q3; replace q4 := cell_regrown q4; replace q5 := cell_regrown q5; replace q6 := cell_regrown q6
      have HB := Lib.hid hbel
      clear hx hy hbel r1 r2 ma mb hab
      go_wp2_with fail
      refine wp_region_quiet_below (by kernel_rfl) (by kernel_rfl) ?_
      repeat (go_big_quiet_step (fail))
      go_big_quiet_want
      go_big_quiet_op
      go_big_quiet_call (exact Q.out _ _)
      repeat (go_big_quiet_step (fail))
      refine wpQuiet_nil ?_
      intro _ hw'
      obtain ⟨⟨dq, osq⟩, hw''⟩ := hw'
      subst hw''
      have HB2 := Lib.hid (HB.out.trans ((below_regrown wr dq osq).mono HB.out.size))
      go_wp2_with fail
      exact ⟨⟨k + 1, by omega, by go_num, HB2.out⟩, by simp [intOf]; omega⟩
    · have HB := Lib.hid hbel
      clear hbel
      go_wp2_with fail
      go_ret
      exact ⟨rfl, HB.out⟩

def zeroR : JR := ⟨zeroJ, none, 0⟩
theorem made_jrs (n : Nat) : (madeCells (Value.agg #[.int .i64 0, .int .i64 0, .int .i64 0, .string ⟨#[]⟩, .slice none 0 0, .bool false]).cells (n * 6)).toList = jrs (List.replicate n zeroR) := by
  apply List.ext_getElem?
  intro i
  by_cases hi : i < n * 6
  · have h1 : (jrs (List.replicate n zeroR))[i / 6 * 6 + i % 6]? = zeroR.cells[i % 6]? := by
      have hlt : i % 6 < zeroR.cells.length := by show i % 6 < 6; omega
      rw [List.getElem?_eq_getElem hlt]
      exact jrs_at _ (i / 6) zeroR (by rw [List.getElem?_replicate, if_pos (by omega)]) (i % 6) _ (List.getElem?_eq_getElem hlt)
    rw [show i / 6 * 6 + i % 6 = i by omega] at h1
    rw [h1]
    unfold madeCells
    rw [Array.getElem?_toList, Array.getElem?_map, Array.getElem?_range, if_pos hi]
    have h6 : i % 6 = 0 ∨ i % 6 = 1 ∨ i % 6 = 2 ∨ i % 6 = 3 ∨ i % 6 = 4 ∨ i % 6 = 5 := by omega
    simp only [Value.cells, Option.map_some]
    rcases h6 with h | h | h | h | h | h <;> simp [h, JR.cells, zeroR, zeroJ]
  · rw [List.getElem?_eq_none (by rw [Array.length_toList, size_madeCells]; omega), List.getElem?_eq_none (by rw [jrs_len]; simp; omega)]
theorem make_jrs {q : IntKind} {n : Nat} (hn : n ≤ 1000000) (w : World) : (Instr.makeSlice 48 (.int q (n : Int)) (.int q (n : Int))).run Tryz.prog w = .ok (.slice (some ⟨w.heap.size, 0, none⟩) n n) (w.alloc (.cells (jrs (List.replicate n zeroR)).toArray 111)) := by
  obtain ⟨i, hi, hz, h1, h2⟩ := info_parts infoJrn
  have := run_make (P := Tryz.prog) w 48 111 i _ Tryz.underlying48 hi hz q q n n (by omega) (by omega) (by rw [h2]; omega) (by omega)
  rw [this, h1]
  simp only [Int.toNat_natCast]
  rw [← made_jrs, Array.toArray_toList]
theorem own_make (w : World) (n : Nat) (hn : n ≤ 1000000) : (w.alloc (.cells (jrs (List.replicate n zeroR)).toArray 111)).ownsRow w.heap.size 111 6 (.slice (some ⟨w.heap.size, 0, none⟩) n n) n (jrs (List.replicate n zeroR)) :=
  ⟨by rw [jrs_len]; simp, .inr ⟨w.heap.size, n, _, rfl, Nat.le_refl _, heap_new _ _, Nat.le_refl _, by unfold maxLen; omega, by rw [List.size_toArray, jrs_len]; simp, by rw [List.take_of_length_le (by rw [jrs_len]; simp)]⟩⟩
theorem set_next {m : List JR} {r : Nat} {a : JR} (hr : 0 < r) : (m ++ List.replicate r zeroR).set m.length a = (m ++ [a]) ++ List.replicate (r - 1) zeroR := by
  obtain ⟨r, rfl⟩ : ∃ q, r = q + 1 := ⟨r - 1, by omega⟩
  rw [List.set_append_right _ _ (Nat.le_refl _), Nat.sub_self, List.replicate_succ, List.set_cons_zero]
  simp
end Go.Proofs.YtjlokkjbdgcooaaGreat
