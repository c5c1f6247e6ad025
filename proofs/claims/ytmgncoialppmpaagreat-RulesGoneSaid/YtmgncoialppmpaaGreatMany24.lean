/-
  Several texts, one behind the other: what each holds stands ahead of it.
-/
import Derived.Test.YtmgncoialppmpaaGreatMany23
import Derived.Test.YtmgncoialppmpaaGreatMany4
import Derived.Test.YtmgncoialppmpaaGreatMany5
import Derived.Test.YtmgncoialppmpaaGreatMany2

/-
  Contracts of rules' (Rules).Post, Amend, Void: the calls.
-/
namespace Go.Proofs.YtmgncoialppmpaaGreat
open Go.RowKit

theorem heap_three {w : World} {o1 o2 o3 o4 : Obj} : ((((w.alloc o1).alloc o2).alloc o3).alloc o4).heap[w.heap.size + 2]? = some o3 ∧ ((((w.alloc o1).alloc o2).alloc o3).alloc o4).heap[w.heap.size + 3]? = some o4 := by
  constructor
  · have h1 := heap_new ((w.alloc o1).alloc o2) o3
    have e1 : ((w.alloc o1).alloc o2).heap.size = w.heap.size + 2 := by simp
    rw [e1] at h1
    exact (Below.heap_alloc _ _ _ (by simp)).trans h1
  · have h1 := heap_new (((w.alloc o1).alloc o2).alloc o3) o4
    have e1 : (((w.alloc o1).alloc o2).alloc o3).heap.size = w.heap.size + 3 := by simp
    rw [e1] at h1
    exact h1
theorem three_of {w W4 : World} {o1 o2 o3 o4 : Obj} (h : (((w.alloc o1).alloc o2).alloc o3).alloc o4 = W4) : W4.heap[w.heap.size + 2]? = some o3 ∧ W4.heap[w.heap.size + 3]? = some o4 ∧ Below w.heap.size w W4 := by
  rw [← h]
  exact ⟨heap_three.1, heap_three.2, ((((Below.refl _ _).alloc (Nat.le_refl _) o1).alloc (by simp) o2).alloc (by simp; omega) o3).alloc (by simp; omega) o4⟩
set_option maxRecDepth 100000 in
set_option maxHeartbeats 2000000 in
theorem rulesPost_any (c g bk : Nat) (C : List Acc) (G : List Trio) (l : List JR) (j : JR) (w : World) (hP : PartsAt w c g bk C G l) (hJ : JrIn w j) :
    Calls Tryz.prog 15 #[.agg #[.pointer (some ⟨c, 0, none⟩), .pointer (some ⟨g, 0, none⟩), .pointer (some ⟨bk, 0, none⟩)], .agg #[.int .i64 j.j.id, .int .i64 j.j.ent, .int .i64 j.j.per, .string j.j.ref, .slice j.A j.j.lines.length j.c, .bool j.j.void]] w fun e w' => e = .returned (.int .i64 (rPostE C G (l.map JR.j) j.j)) ∧ Below w.heap.size w w' := by
  have HP := Lib.hid hP; have HJ := Lib.hid hJ
  clear hP hJ
  go_enter Tryz.func15, Tryz.ntmps15
  go_wp2_with fail
  generalize hW : World.alloc _ _ = W4
  obtain ⟨hq, hr, hb⟩ := three_of hW
  have hmid : MidW w W4 (w.heap.size + 2) (w.heap.size + 3) postFs := ⟨hb, by omega, hr, by omega⟩
  have hwish : WishAt W4 (w.heap.size + 2) (ptr c) (ptr g) (ptr bk) j.j.id j zeroR (.pointer none) := ⟨hq⟩
  have ka := Lib.hid (wishAsk_any (.pointer (some ⟨w.heap.size + 2, 0, none⟩)) postFs (postsE C G (l.map JR.j) j.j) postFs.length postFs.length (w.heap.size + 4) (some ⟨w.heap.size + 3, 0, none⟩) W4 _ (fun w2 => Below w.heap.size w w2) rfl rfl (by decide) (by unfold Asks postFs; decide) (fun i w1 hi => hi.1.rd) ⟨hmid, fun _ => ⟨_, hwish⟩, fun h => absurd h (by omega), fun h => absurd h (by omega)⟩ (post_steps HP.out HJ.out) (fun w1 hi => hi.1.bel))
  clear hW hb hq hr hmid hwish
  refine ka.out.mono ?_
  rintro e w2 ⟨rfl, hb2⟩
  have HB := Lib.hid hb2
  clear hb2 ka
  go_wp2_with fail
  go_ret
  exact ⟨rfl, HB.out⟩
set_option maxRecDepth 100000 in
set_option maxHeartbeats 2000000 in
theorem rulesAmend_any (c g bk : Nat) (C : List Acc) (G : List Trio) (l : List JR) (j : JR) (w : World) (hP : PartsAt w c g bk C G l) (hJ : JrIn w j) :
    Calls Tryz.prog 17 #[.agg #[.pointer (some ⟨c, 0, none⟩), .pointer (some ⟨g, 0, none⟩), .pointer (some ⟨bk, 0, none⟩)], .agg #[.int .i64 j.j.id, .int .i64 j.j.ent, .int .i64 j.j.per, .string j.j.ref, .slice j.A j.j.lines.length j.c, .bool j.j.void]] w fun e w' => e = .returned (.int .i64 (rAmendE C G (l.map JR.j) j.j)) ∧ Below w.heap.size w w' := by
  have HP := Lib.hid hP; have HJ := Lib.hid hJ
  clear hP hJ
  go_enter Tryz.func17, Tryz.ntmps17
  go_wp2_with fail
  generalize hW : World.alloc _ _ = W4
  obtain ⟨hq, hr, hb⟩ := three_of hW
  have hmid : MidW w W4 (w.heap.size + 2) (w.heap.size + 3) amendFs := ⟨hb, by omega, hr, by omega⟩
  have hwish : WishAt W4 (w.heap.size + 2) (ptr c) (ptr g) (ptr bk) j.j.id j zeroR (.pointer none) := ⟨hq⟩
  have ka := Lib.hid (wishAsk_any (.pointer (some ⟨w.heap.size + 2, 0, none⟩)) amendFs (amendsE C G (l.map JR.j) j.j) amendFs.length amendFs.length (w.heap.size + 4) (some ⟨w.heap.size + 3, 0, none⟩) W4 _ (fun w2 => Below w.heap.size w w2) rfl rfl (by decide) (by unfold Asks amendFs; decide) (fun i w1 hi => hi.1.rd) ⟨hmid, fun _ => ⟨_, hwish⟩, fun h => absurd h (by omega), fun h => absurd h (by omega)⟩ (amend_steps HP.out HJ.out) (fun w1 hi => hi.1.bel))
  clear hW hb hq hr hmid hwish
  refine ka.out.mono ?_
  rintro e w2 ⟨rfl, hb2⟩
  have HB := Lib.hid hb2
  clear hb2 ka
  go_wp2_with fail
  go_ret
  exact ⟨rfl, HB.out⟩

/-- A part is missing: the first question tells it. -/
theorem none_steps {w : World} {q r : Nat} {fs : List FuncId} {cp gp bp : Value} {id : Int} {j : JR} (hL : Lacks cp gp bp) (hfs : fs[0]? = some 63) (n : Nat) :
    ∀ i F x w1, fs[i]? = some F → ((1 : Int) :: List.replicate n 0)[i]? = some x → (i = 0 ∧ MidW w w1 q r fs ∧ ∃ tv, WishAt w1 q cp gp bp id j zeroR tv) →
      Calls Tryz.prog F #[.pointer (some ⟨q, 0, none⟩)] w1 fun e w2 => e = .returned (.int .i64 x) ∧ (x = 0 → (i + 1 = 0 ∧ MidW w w2 q r fs ∧ ∃ tv, WishAt w2 q cp gp bp id j zeroR tv)) ∧ (x ≠ 0 → Below w.heap.size w w2) := by
  rintro i F x w1 hF hx ⟨rfl, hm, tv, hw⟩
  obtain rfl := Option.some.inj (hfs.symm.trans hF); obtain rfl := Option.some.inj hx
  exact (hasParts_no q cp gp bp tv id j zeroR w1 hw hL).mono fun e w2 hh => ⟨hh.1, fun h => absurd h (by decide), fun _ => hh.2 ▸ hm.bel⟩

set_option maxRecDepth 100000 in
set_option maxHeartbeats 2000000 in
theorem rulesPost_no (cp gp bp : Value) (j : JR) (w : World) (hL : Lacks cp gp bp) :
    Calls Tryz.prog 15 #[.agg #[cp, gp, bp], .agg #[.int .i64 j.j.id, .int .i64 j.j.ent, .int .i64 j.j.per, .string j.j.ref, .slice j.A j.j.lines.length j.c, .bool j.j.void]] w fun e w' => e = .returned (.int .i64 1) ∧ Below w.heap.size w w' := by
  have HL := Lib.hid hL
  clear hL
  go_enter Tryz.func15, Tryz.ntmps15
  go_wp2_with fail
  generalize hW : World.alloc _ _ = W4
  obtain ⟨hq, hr, hb⟩ := three_of hW
  have hmid : MidW w W4 (w.heap.size + 2) (w.heap.size + 3) postFs := ⟨hb, by omega, hr, by omega⟩
  have hwish : WishAt W4 (w.heap.size + 2) cp gp bp j.j.id j zeroR (.pointer none) := ⟨hq⟩
  have ka := Lib.hid (wishAsk_any (.pointer (some ⟨w.heap.size + 2, 0, none⟩)) postFs (1 :: List.replicate (postFs.length - 1) 0) postFs.length postFs.length (w.heap.size + 4) (some ⟨w.heap.size + 3, 0, none⟩) W4 (fun i w1 => i = 0 ∧ MidW w w1 (w.heap.size + 2) (w.heap.size + 3) postFs ∧ ∃ tv, WishAt w1 (w.heap.size + 2) cp gp bp j.j.id j zeroR tv) (fun w2 => Below w.heap.size w w2) rfl (by decide) (by decide) (by unfold Asks postFs; decide) (fun i w1 hi => hi.2.1.rd) ⟨rfl, hmid, _, hwish⟩ (none_steps HL.out rfl _) (fun w1 hi => absurd hi.1 (by decide)))
  clear hW hb hq hr hmid hwish
  refine ka.out.mono ?_
  rintro e w2 ⟨rfl, hb2⟩
  have HB := Lib.hid hb2
  clear hb2 ka
  go_wp2_with fail
  go_ret
  exact ⟨rfl, HB.out⟩
set_option maxRecDepth 100000 in
set_option maxHeartbeats 2000000 in
theorem rulesAmend_no (cp gp bp : Value) (j : JR) (w : World) (hL : Lacks cp gp bp) :
    Calls Tryz.prog 17 #[.agg #[cp, gp, bp], .agg #[.int .i64 j.j.id, .int .i64 j.j.ent, .int .i64 j.j.per, .string j.j.ref, .slice j.A j.j.lines.length j.c, .bool j.j.void]] w fun e w' => e = .returned (.int .i64 1) ∧ Below w.heap.size w w' := by
  have HL := Lib.hid hL
  clear hL
  go_enter Tryz.func17, Tryz.ntmps17
  go_wp2_with fail
  generalize hW : World.alloc _ _ = W4
  obtain ⟨hq, hr, hb⟩ := three_of hW
  have hmid : MidW w W4 (w.heap.size + 2) (w.heap.size + 3) amendFs := ⟨hb, by omega, hr, by omega⟩
  have hwish : WishAt W4 (w.heap.size + 2) cp gp bp j.j.id j zeroR (.pointer none) := ⟨hq⟩
  have ka := Lib.hid (wishAsk_any (.pointer (some ⟨w.heap.size + 2, 0, none⟩)) amendFs (1 :: List.replicate (amendFs.length - 1) 0) amendFs.length amendFs.length (w.heap.size + 4) (some ⟨w.heap.size + 3, 0, none⟩) W4 (fun i w1 => i = 0 ∧ MidW w w1 (w.heap.size + 2) (w.heap.size + 3) amendFs ∧ ∃ tv, WishAt w1 (w.heap.size + 2) cp gp bp j.j.id j zeroR tv) (fun w2 => Below w.heap.size w w2) rfl (by decide) (by decide) (by unfold Asks amendFs; decide) (fun i w1 hi => hi.2.1.rd) ⟨rfl, hmid, _, hwish⟩ (none_steps HL.out rfl _) (fun w1 hi => absurd hi.1 (by decide)))
  clear hW hb hq hr hmid hwish
  refine ka.out.mono ?_
  rintro e w2 ⟨rfl, hb2⟩
  have HB := Lib.hid hb2
  clear hb2 ka
  go_wp2_with fail
  go_ret
  exact ⟨rfl, HB.out⟩

theorem two_of {w W4 : World} {o1 o2 o3 : Obj} (h : ((w.alloc o1).alloc o2).alloc o3 = W4) : W4.heap[w.heap.size + 1]? = some o2 ∧ W4.heap[w.heap.size + 2]? = some o3 ∧ Below w.heap.size w W4 := by
  rw [← h]
  refine ⟨?_, ?_, (((Below.refl _ _).alloc (Nat.le_refl _) o1).alloc (by simp) o2).alloc (by simp; omega) o3⟩
  · have h1 := heap_new (w.alloc o1) o2
    have e1 : (w.alloc o1).heap.size = w.heap.size + 1 := by simp
    rw [e1] at h1
    exact (Below.heap_alloc _ _ _ (by simp)).trans h1
  · have h1 := heap_new ((w.alloc o1).alloc o2) o3
    have e1 : ((w.alloc o1).alloc o2).heap.size = w.heap.size + 2 := by simp
    rw [e1] at h1
    exact h1
set_option maxRecDepth 100000 in
set_option maxHeartbeats 2000000 in
theorem rulesVoid_any (c g bk : Nat) (C : List Acc) (G : List Trio) (l : List JR) (id : Int) (w : World) (hP : PartsAt w c g bk C G l) :
    Calls Tryz.prog 19 #[.agg #[.pointer (some ⟨c, 0, none⟩), .pointer (some ⟨g, 0, none⟩), .pointer (some ⟨bk, 0, none⟩)], .int .i64 id] w fun e w' => e = .returned (.int .i64 (rVoidE G (l.map JR.j) id)) ∧ Below w.heap.size w w' := by
  have HP := Lib.hid hP
  clear hP
  go_enter Tryz.func19, Tryz.ntmps19
  go_wp2_with fail
  generalize hW : World.alloc _ _ = W4
  obtain ⟨hq, hr, hb⟩ := two_of hW
  have hmid : MidW w W4 (w.heap.size + 1) (w.heap.size + 2) voidFs := ⟨hb, by omega, hr, by omega⟩
  have hwish : WishAt W4 (w.heap.size + 1) (ptr c) (ptr g) (ptr bk) id zeroR zeroR (.pointer none) := ⟨hq⟩
  have ka := Lib.hid (wishAsk_any (.pointer (some ⟨w.heap.size + 1, 0, none⟩)) voidFs (voidsE G (l.map JR.j) id) voidFs.length voidFs.length (w.heap.size + 3) (some ⟨w.heap.size + 2, 0, none⟩) W4 _ (fun w2 => Below w.heap.size w w2) rfl rfl (by decide) (by unfold Asks voidFs; decide) (fun i w1 hi => hi.1.rd) ⟨hmid, fun _ => ⟨_, hwish⟩, fun h => absurd h (by omega), fun h => absurd h (by omega)⟩ (void_steps HP.out) (fun w1 hi => hi.1.bel))
  clear hW hb hq hr hmid hwish
  refine ka.out.mono ?_
  rintro e w2 ⟨rfl, hb2⟩
  have HB := Lib.hid hb2
  clear hb2 ka
  go_wp2_with fail
  go_ret
  exact ⟨rfl, HB.out⟩
set_option maxRecDepth 100000 in
set_option maxHeartbeats 2000000 in
theorem rulesVoid_no (cp gp bp : Value) (id : Int) (w : World) (hL : Lacks cp gp bp) :
    Calls Tryz.prog 19 #[.agg #[cp, gp, bp], .int .i64 id] w fun e w' => e = .returned (.int .i64 1) ∧ Below w.heap.size w w' := by
  have HL := Lib.hid hL
  clear hL
  go_enter Tryz.func19, Tryz.ntmps19
  go_wp2_with fail
  generalize hW : World.alloc _ _ = W4
  obtain ⟨hq, hr, hb⟩ := two_of hW
  have hmid : MidW w W4 (w.heap.size + 1) (w.heap.size + 2) voidFs := ⟨hb, by omega, hr, by omega⟩
  have hwish : WishAt W4 (w.heap.size + 1) cp gp bp id zeroR zeroR (.pointer none) := ⟨hq⟩
  have ka := Lib.hid (wishAsk_any (.pointer (some ⟨w.heap.size + 1, 0, none⟩)) voidFs (1 :: List.replicate (voidFs.length - 1) 0) voidFs.length voidFs.length (w.heap.size + 3) (some ⟨w.heap.size + 2, 0, none⟩) W4 (fun i w1 => i = 0 ∧ MidW w w1 (w.heap.size + 1) (w.heap.size + 2) voidFs ∧ ∃ tv, WishAt w1 (w.heap.size + 1) cp gp bp id zeroR zeroR tv) (fun w2 => Below w.heap.size w w2) rfl (by decide) (by decide) (by unfold Asks voidFs; decide) (fun i w1 hi => hi.2.1.rd) ⟨rfl, hmid, _, hwish⟩ (none_steps HL.out rfl _) (fun w1 hi => absurd hi.1 (by decide)))
  clear hW hb hq hr hmid hwish
  refine ka.out.mono ?_
  rintro e w2 ⟨rfl, hb2⟩
  have HB := Lib.hid hb2
  clear hb2 ka
  go_wp2_with fail
  go_ret
  exact ⟨rfl, HB.out⟩
end Go.Proofs.YtmgncoialppmpaaGreat

/-
  What a journal that may be keeps. No code.
-/
namespace Go.Proofs.YtmgncoialppmpaaGreat
open Go.RowKit

theorem checkE_ok {j : Jrn} (h : checkE j = 0) : frontOk j = true ∧ linesOk j = true ∧ fitsL j.lines = true ∧ sumA j.lines = 0 := by
  unfold checkE at h
  split at h
  · rename_i h1
    rw [Bool.and_eq_true] at h1
    split at h
    · rename_i h2
      split at h
      · exact ⟨h1.1, h1.2, h2, by assumption⟩
      · cases h
    · cases h
  · cases h
end Go.Proofs.YtmgncoialppmpaaGreat

/-
  A journal undone. No code.
-/
namespace Go.Proofs.YtmgncoialppmpaaGreat
open Go.RowKit

def negL (l : Lin) : Lin := ⟨l.acct, -l.amt, l.part⟩
def turnL (l : List Lin) : List Lin := l.map negL
def revJ (j : Jrn) (id per : Int) : Jrn := ⟨id, j.ent, per, ⟨#[]⟩, turnL j.lines, false⟩
def revE (j : Jrn) (id per : Int) : Int := if checkE j = 0 then checkE (revJ j id per) else checkE j
def revV (j : Jrn) (id per : Int) : Jrn := if revE j id per = 0 then revJ j id per else zeroJ
theorem turnL_len (l : List Lin) : (turnL l).length = l.length := by simp [turnL]
theorem turnL_take (l : List Lin) (k : Nat) : turnL (l.take k) = (turnL l).take k := by simp [turnL, List.map_take]
theorem turnL_at {l : List Lin} {k : Nat} {x : Lin} (h : l[k]? = some x) : (turnL l)[k]? = some (negL x) := by simp [turnL, h]
theorem turnL_step {l : List Lin} {k : Nat} {x : Lin} (h : l[k]? = some x) : turnL (l.take (k + 1)) = turnL (l.take k) ++ [negL x] := by
  obtain ⟨hk, rfl⟩ := List.getElem?_eq_some_iff.1 h
  rw [List.take_succ_eq_append_getElem hk]
  unfold turnL
  rw [List.map_append]
  rfl
theorem negL_two (l : Lin) : negL (negL l) = l := by unfold negL; simp
theorem turnL_two (l : List Lin) : turnL (turnL l) = l := by
  unfold turnL
  rw [List.map_map]
  exact (List.map_congr_left fun x _ => negL_two x).trans (List.map_id _)
theorem sumA_cons (x : Lin) (l : List Lin) : sumA (x :: l) = x.amt + sumA l := by
  have h : ∀ (l : List Lin) (n : Int), l.foldl (fun n x => n + x.amt) n = n + sumA l := by
    intro l
    induction l with
    | nil => intro n; simp [sumA]
    | cons y l ih =>
      intro n
      unfold sumA
      rw [List.foldl_cons, List.foldl_cons, ih, ih]
      omega
  show (x :: l).foldl (fun n x => n + x.amt) 0 = _
  rw [List.foldl_cons, h]
  omega
theorem sumA_turn : ∀ l : List Lin, sumA (turnL l) = - sumA l
  | [] => rfl
  | x :: l => by
    have ih := sumA_turn l
    show sumA (negL x :: turnL l) = _
    rw [sumA_cons, sumA_cons, ih]
    unfold negL
    simp only
    omega
theorem fitsL_turn {l : List Lin} (h : fitsL l = true) : fitsL (turnL l) = true := by
  unfold fitsL turnL at *
  rw [List.all_eq_true] at h ⊢
  intro y hy
  obtain ⟨x, hx, rfl⟩ := List.mem_map.1 hy
  have := fits1_iff.1 (h x hx)
  rw [fits1_iff]
  unfold negL
  simp only
  omega
theorem lineOk_neg (e : Int) (l : Lin) : lineOk e (negL l) = lineOk e l := by
  have : (-l.amt == 0) = (l.amt == 0) := by rw [Bool.eq_iff_iff]; simp
  unfold lineOk negL
  simp only
  rw [this]
theorem linesAll_turn (e : Int) : ∀ l : List Lin, linesAll e (turnL l) = linesAll e l
  | [] => rfl
  | x :: l => by
    have ih := linesAll_turn e l
    unfold linesAll turnL at *
    rw [List.map_cons, List.all_cons, List.all_cons, lineOk_neg, ih]
theorem linesOk_turn {j : Jrn} (id per : Int) : linesOk (revJ j id per) = linesOk j := by
  unfold linesOk revJ
  simp only
  rw [turnL_len, linesAll_turn]
theorem refOk_none : refOk (⟨#[]⟩ : ByteArray).data.toList = true := by decide
/-- What was undone is told by its number and its period alone. -/
theorem checkE_rev {j : Jrn} (h : checkE j = 0) (id per : Int) : checkE (revJ j id per) = if (inB id 1 999999 && okP per) = true then 0 else 1 := by
  obtain ⟨h1, h2, h3, h4⟩ := checkE_ok h
  have he : inB j.ent 1 9 = true := by
    unfold frontOk at h1
    simp only [Bool.and_eq_true] at h1
    exact h1.1.1.2
  have hf : frontOk (revJ j id per) = (inB id 1 999999 && okP per) := by
    unfold frontOk revJ
    simp only
    rw [he, refOk_none]
    simp
  unfold checkE
  rw [hf, linesOk_turn, h2, Bool.and_true]
  have h5 : fitsL (revJ j id per).lines = true := fitsL_turn h3
  have h6 : sumA (revJ j id per).lines = 0 := by
    show sumA (turnL j.lines) = 0
    rw [sumA_turn, h4]; rfl
  rw [h5, h6]
  rfl
theorem revE_two {j : Jrn} {id per : Int} (h : revE j id per = 0) : checkE j = 0 ∧ checkE (revJ j id per) = 0 := by
  unfold revE at h
  split at h
  · exact ⟨by assumption, h⟩
  · rename_i hne; exact absurd h hne
/-- Undone twice it is as it was, without its reference, not void. -/
theorem rev_back {j : Jrn} {id per : Int} (h : revE j id per = 0) : revE (revJ j id per) j.id j.per = 0 ∧ revJ (revJ j id per) j.id j.per = ⟨j.id, j.ent, j.per, ⟨#[]⟩, j.lines, false⟩ := by
  obtain ⟨h1, h2⟩ := revE_two h
  have e : revJ (revJ j id per) j.id j.per = ⟨j.id, j.ent, j.per, ⟨#[]⟩, j.lines, false⟩ := by
    unfold revJ
    simp only [turnL_two]
  refine ⟨?_, e⟩
  unfold revE
  rw [if_pos h2, checkE_rev h2]
  have hf := (checkE_ok h1).1
  unfold frontOk at hf
  simp only [Bool.and_eq_true] at hf
  rw [hf.1.1.1, hf.1.2]
  rfl
end Go.Proofs.YtmgncoialppmpaaGreat

/-
  What stays where blocks of S are written. No code.
-/
namespace Go.Proofs.YtmgncoialppmpaaGreat
open Go.RowKit

/-- Blocks out of S stay. -/
structure Kp (S : Nat → Prop) (w w' : World) : Prop where
  os : w'.os = w.os
  tape : w'.tape = w.tape
  output : w'.output = w.output
  size : w.heap.size ≤ w'.heap.size
  block : ∀ k, k < w.heap.size → ¬ S k → w'.heap[k]? = w.heap[k]?
section
variable {S T : Nat → Prop} {a b c : World}
theorem Kp.refl (S : Nat → Prop) (w : World) : Kp S w w := ⟨rfl, rfl, rfl, Nat.le_refl _, fun _ _ _ => rfl⟩
theorem Kp.trans (h : Kp S a b) (k : Kp S b c) : Kp S a c := ⟨k.os.trans h.os, k.tape.trans h.tape, k.output.trans h.output, Nat.le_trans h.size k.size, fun i hi hs => (k.block i (Nat.lt_of_lt_of_le hi h.size) hs).trans (h.block i hi hs)⟩
theorem Kp.mono (h : Kp S a b) (hs : ∀ k, S k → T k) : Kp T a b := ⟨h.os, h.tape, h.output, h.size, fun i hi ht => h.block i hi fun h => ht (hs i h)⟩
theorem Kp.of_below (h : Below a.heap.size a b) : Kp S a b := ⟨h.os, h.tape, h.output, h.size, fun i hi _ => h.block i hi⟩
theorem Kp.of_drew (h : Drew a b) : Kp S a b := by obtain ⟨k, rfl⟩ := h; exact ⟨rfl, rfl, rfl, Nat.le_refl _, fun _ _ _ => rfl⟩
theorem Kp.setCell (h : Kp S a b) {p : Addr} (hp : S p.block) (v : Value) : Kp S a (b.setCell p v) := by
  have hk := (Below.refl p.block b).setCell (p := p) (Nat.le_refl _) v
  exact ⟨hk.os.trans h.os, hk.tape.trans h.tape, hk.output.trans h.output, Nat.le_trans h.size hk.size, fun i hi hs => (Below.heap_setCell _ _ _ _ (fun e => hs (by rw [e]; exact hp))).trans (h.block i hi hs)⟩
theorem Kp.alloc (h : Kp S a b) (o : Obj) : Kp S a (b.alloc o) := h.trans (Kp.of_below ((Below.refl _ _).alloc (Nat.le_refl _) o))
theorem Kp.below {B : Nat} (h : Kp S a b) (hS : ∀ k, S k → B ≤ k) (hB : B ≤ a.heap.size) : Below B a b :=
  ⟨h.os, h.tape, h.output, h.size, fun i hi => h.block i (by omega) fun hs => by have := hS i hs; omega⟩
/-- What S holds need not have been there. -/
theorem Kp.fresh (h : Kp S a b) (hb : Kp S b c) (hS : ∀ k, S k → T k ∨ a.heap.size ≤ k) : Kp T a c := by
  have := h.trans hb
  exact ⟨this.os, this.tape, this.output, this.size, fun i hi ht => this.block i hi fun hs => by
    rcases hS i hs with h1 | h1
    · exact ht h1
    · omega⟩
end
theorem Kp.grown {S : Nat → Prop} {a b : World} {row : Option Nat} (h : a.grownBy b row) (hr : ∀ k, row = some k → S k) : Kp S a b :=
  ⟨h.os, h.tape, h.output, h.size, fun k hk hs => h.block k hk fun e => hs (hr k e.symm)⟩
end Go.Proofs.YtmgncoialppmpaaGreat
