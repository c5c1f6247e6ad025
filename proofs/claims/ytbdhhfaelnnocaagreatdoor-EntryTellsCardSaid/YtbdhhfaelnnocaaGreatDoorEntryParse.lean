/-
  Contract of entry.Parse.
-/
import Derived.Test.YtbdhhfaelnnocaaGreatDoorEntryLines
import Derived.LoopN
import Derived.Laws.EntriesVeiled
namespace Go.Proofs.YtbdhhfaelnnocaaGreatDoor
open Go.RowKit Go.Sort

/-- What Parse leaves. -/
def ParseEnd (w : World) (s : List UInt8) (e : Ending) (w' : World) : Prop :=
  (match parseJ s with
  | some j => ∃ A c, e = .returned (.tuple #[j.val A j.lines.length c, .int .i64 0]) ∧ w'.ownsRow w.heap.size 34 3 (.slice A j.lines.length c) j.lines.length (lins j.lines)
  | none => e = .returned (.tuple #[zeroJ.val none 0 0, .int .i64 15])) ∧ Below w.heap.size w w'
theorem ParseEnd.no {w w' : World} {s : List UInt8} {e : Ending} (h : parseJ s = none) (he : e = .returned (.tuple #[.agg #[.int .i64 0, .int .i64 0, .int .i64 0, .string ⟨#[]⟩, .slice none 0 0, .bool false], .int .i64 15])) (hb : Below w.heap.size w w') : ParseEnd w s e w' := by
  unfold ParseEnd
  rw [h]
  exact ⟨he, hb⟩
/-- The blocks of Parse: its result, the journal, the reader, the six ways. -/
structure PSt (w : World) (jb b fb : Nat) (wr : World) (qs : List (List UInt8)) (j : Jrn) : Prop where
  fn : wr.heap[fb]? = some (.cells #[.func (Fn.func 78) #[.pointer (some ⟨b, 0, none⟩)] #[], .func (Fn.func 79) #[.pointer (some ⟨b, 0, none⟩)] #[], .func (Fn.func 80) #[.pointer (some ⟨b, 0, none⟩)] #[], .func (Fn.func 81) #[.pointer (some ⟨b, 0, none⟩)] #[], .func (Fn.func 82) #[.pointer (some ⟨b, 0, none⟩)] #[], .func (Fn.func 83) #[.pointer (some ⟨b, 0, none⟩)] #[]] 88 (0, 0))
  res : wr.heap[w.heap.size]? = some (.cells #[.int .i64 0, .int .i64 0, .int .i64 0, .string ⟨#[]⟩, .slice none 0 0, .bool false] 24 (0, 0))
  rdr : RdrAt wr b 32 qs
  jrn : JAt wr jb j none 0 0
  gb : GB w.heap.size wr
  bel : Below w.heap.size w wr
theorem PSt.step {w wr w' : World} {jb b fb : Nat} {qs qs' : List (List UInt8)} {j j' : Jrn} (h : PSt w jb b fb wr qs j) (hk : Kp (fun k => k = b ∨ k = jb) wr w') (hr : RdrAt w' b 32 qs') (hj : JAt w' jb j' none 0 0) (h1 : w.heap.size < jb) (h2 : w.heap.size < b) (h3 : fb ≠ jb) (h4 : fb ≠ b) : PSt w jb b fb w' qs' j' :=
  ⟨(hk.block fb (lt_of_blk h.fn) (by rintro (e | e); exact h4 e; exact h3 e)).trans h.fn, (hk.block _ (lt_of_blk h.res) (by rintro (e | e) <;> omega)).trans h.res, hr, hj, h.gb.kp hk (by rintro k (rfl | rfl) <;> omega), h.bel.trans (hk.below (by rintro k (rfl | rfl) <;> omega) h.bel.size)⟩

section
variable {p0 p1 p2 p3 p4 : List UInt8} {ps : List (List UInt8)}
theorem readP_no0 (h : numOf p0 = none) : readP p0 p1 p2 p3 p4 ps = none := by unfold readP; rw [h]
theorem readP_no1 (h : numOf p1 = none) : readP p0 p1 p2 p3 p4 ps = none := by unfold readP; rw [h]; cases numOf p0 <;> rfl
theorem readP_no2 (h : parseOk p2 = false) : readP p0 p1 p2 p3 p4 ps = none := by unfold readP; cases numOf p0 <;> cases numOf p1 <;> simp [h]
theorem readP_no3 (h : p3 = []) : readP p0 p1 p2 p3 p4 ps = none := by unfold readP; cases numOf p0 <;> cases numOf p1 <;> simp [h]
theorem readP_no4 (h : stateOk p4 = false) : readP p0 p1 p2 p3 p4 ps = none := by unfold readP; cases numOf p0 <;> cases numOf p1 <;> simp [h]
theorem readP_no5 (h : linesOf 9 ps = none) : readP p0 p1 p2 p3 p4 ps = none := by unfold readP; cases numOf p0 <;> cases numOf p1 <;> simp [h]
theorem readP_yes {id ent : Int} {L : List Lin} (h0 : numOf p0 = some id) (h1 : numOf p1 = some ent) (h2 : parseOk p2 = true) (h3 : ¬ p3 = []) (h4 : stateOk p4 = true) (h5 : linesOf 9 ps = some L) : readP p0 p1 p2 p3 p4 ps = some ⟨id, ent, parseV p2, bs (refOf p3), L, voidOf p4⟩ := by
  unfold readP; rw [h0, h1]; simp only; rw [if_pos h2, if_neg h3, if_pos h4, h5]; rfl
end
theorem none_of {α : Type} {x : Option α} (h : x.isSome = false) : x = none := by cases x with | none => rfl | some _ => cases h
theorem some_of {α : Type} {x : Option α} (h : x.isSome = true) : ∃ y, x = some y := by cases x with | none => cases h | some y => exact ⟨y, rfl⟩
theorem ref_start (p : List UInt8) : (if p = [45] then (⟨#[]⟩ : ByteArray) else bs p) = bs (refOf p) := by
  unfold refOf
  by_cases h : p = [45]
  · rw [if_pos h, if_pos h]; rfl
  · rw [if_neg h, if_neg h]
theorem refOf_le (p : List UInt8) : (refOf p).length ≤ p.length := by
  unfold refOf
  split
  · simp
  · exact Nat.le_refl _
theorem linesOf_len : ∀ {m : Nat} {ps : List (List UInt8)} {L : List Lin}, linesOf m ps = some L → L.length ≤ m
  | 0, _, L, h => by
    simp [linesOf] at h
    subst h; simp
  | m + 1, [], L, h => by
    simp [linesOf] at h
    subst h; simp
  | m + 1, p :: ps, L, h => by
    rw [linesOf] at h
    cases hl : lineOf p with
    | none => rw [hl] at h; cases h
    | some l =>
      rw [hl] at h
      simp only at h
      cases hr : linesOf m ps with
      | none => rw [hr] at h; cases h
      | some R =>
        rw [hr] at h
        have e := Option.some.inj h
        subst e
        have := linesOf_len hr
        simp; omega
set_option maxRecDepth 100000 in
set_option maxHeartbeats 10000000 in
theorem entryParse_any (s : List UInt8) (w : World) (G : Glob w) (hs : s.length ≤ 1000000) :
    Calls Tryz.prog 18 #[.string (bs s)] w (ParseEnd w s) := by
  obtain ⟨W2, hW2⟩ : ∃ W2, (w.alloc (.cells #[.int .i64 0, .int .i64 0, .int .i64 0, .string ⟨#[]⟩, .slice none 0 0, .bool false] 24)).alloc (.cells #[.int .i64 0, .int .i64 0, .int .i64 0, .string ⟨#[]⟩, .slice none 0 0, .bool false] 24) = W2 := ⟨_, rfl⟩
  have HW2 := Lib.hid hW2
  have kr := Lib.hid (newReader_any s 32 W2 hs)
  have hz2 : W2.heap.size = w.heap.size + 1 + 1 := by rw [← hW2]; simp
  have hbW : Below w.heap.size w W2 := by rw [← hW2]; exact ((Below.refl _ _).alloc (Nat.le_refl _) _).alloc (by simp) _
  have hres : W2.heap[w.heap.size]? = some (.cells #[.int .i64 0, .int .i64 0, .int .i64 0, .string ⟨#[]⟩, .slice none 0 0, .bool false] 24 (0, 0)) := by
    rw [← hW2]
    exact (Below.heap_alloc _ _ _ (by simp)).trans (heap_new w _)
  have hjrn : JAt W2 (w.heap.size + 1) zeroJ none 0 0 := by
    rw [← hW2]
    have := heap_new (w.alloc (.cells #[.int .i64 0, .int .i64 0, .int .i64 0, .string ⟨#[]⟩, .slice none 0 0, .bool false] 24)) (.cells #[.int .i64 0, .int .i64 0, .int .i64 0, .string ⟨#[]⟩, .slice none 0 0, .bool false] 24)
    rw [show (w.alloc (.cells #[.int .i64 0, .int .i64 0, .int .i64 0, .string ⟨#[]⟩, .slice none 0 0, .bool false] 24)).heap.size = w.heap.size + 1 by simp] at this
    exact this
  have HGB : Hid (GB w.heap.size W2) := by
    obtain ⟨w0, g1, g2, g3⟩ := GB.of G
    exact ⟨w0, g1, g2, g3.trans hbW⟩
  have HRES := Lib.hid hres
  have HJRN := Lib.hid hjrn
  have HBW := Lib.hid hbW
  obtain ⟨PSs, hPS⟩ : ∃ PSs, splitL 32 s = PSs := ⟨_, rfl⟩
  rw [hPS] at kr
  have HPJ : Hid (parseJ s = match readJ PSs with | some j => if checkE j = 0 then some j else none | none => none) := by unfold Hid parseJ; rw [hPS]; cases readJ PSs <;> rfl
  clear hW2 hres hjrn hbW hPS G
  go_enter Tryz.func18, Tryz.ntmps18
  go_wp2_with fail
  rw [HW2.out]
  refine kr.out.mono ?_
  rintro e w3 ⟨rfl, hr3, hb3⟩
  obtain ⟨b, hb⟩ : ∃ b, W2.heap.size = b := ⟨_, rfl⟩
  rw [hb] at hr3 ⊢
  go_wp2_with fail
  have hz3 := hb3.size
  have hlt3 := lt_of_blk hr3.blk
  have hP4 : ∀ W4, Below w3.heap.size w3 W4 → W4.heap[w3.heap.size]? = some (.cells #[.func (Fn.func 78) #[.pointer (some ⟨b, 0, none⟩)] #[], .func (Fn.func 79) #[.pointer (some ⟨b, 0, none⟩)] #[], .func (Fn.func 80) #[.pointer (some ⟨b, 0, none⟩)] #[], .func (Fn.func 81) #[.pointer (some ⟨b, 0, none⟩)] #[], .func (Fn.func 82) #[.pointer (some ⟨b, 0, none⟩)] #[], .func (Fn.func 83) #[.pointer (some ⟨b, 0, none⟩)] #[]] 88 (0, 0)) → PSt w (w.heap.size + 1) b w3.heap.size W4 PSs zeroJ := fun W4 h4 hf => by
    have hbb : Below W2.heap.size W2 W4 := hb3.trans (h4.mono hz3)
    exact ⟨hf, (hbb.block _ (by omega)).trans HRES.out, hr3.kept (S := fun _ => False) (Kp.of_below h4) (fun h => h.elim), (hbb.block _ (by omega)).trans HJRN.out, HGB.out.below hbb, HBW.out.trans (hbb.mono HBW.out.size)⟩
  have hP := hP4 _ ((Below.refl _ _).alloc (Nat.le_refl _) _) (heap_new w3 _)
  obtain ⟨fb, hfb⟩ : ∃ fb, w3.heap.size = fb := ⟨_, rfl⟩
  rw [hfb] at hP ⊢
  have hj1 : w.heap.size < w.heap.size + 1 := by omega
  have hj2 : w.heap.size < b := by omega
  have hj3 : fb ≠ w.heap.size + 1 := by omega
  have hj4 : fb ≠ b := by omega
  have hj5 : w.heap.size + 1 ≠ b := by omega
  have hj6 : w.heap.size ≤ b := by omega
  have hj7 : w.heap.size ≤ w.heap.size + 1 := by omega
  clear hP4 hr3 hb3 hz3 hlt3 hz2
  generalize w3.alloc _ = W4 at *
  clear hfb hb
  have HP0 := Lib.hid hP
  clear hP kr HRES HJRN HBW HGB HW2
  refine wp_loop_rounds 7 ?_
  -- way 0
  obtain ⟨a0, a1, a2, a3, a4, a5⟩ := six_cells HP0.out.fn
  have kc := Lib.hid (rdId_any w.heap.size b (w.heap.size + 1) 32 _ _ none 0 0 _ HP0.out.gb hj6 hj7 HP0.out.rdr HP0.out.jrn hj5)
  rw [rounds_succ]
  obtain ⟨z, hz⟩ : ∃ z : Bool, (numOf (PSs.headD [])).isSome = z := ⟨_, rfl⟩
  rw [hz] at kc
  cases z
  · skip
    have hrd : readJ PSs = none := readP_no0 (none_of hz)
    have HNO : Hid (parseJ s = none) := by unfold Hid; rw [HPJ.out, hrd]
    clear hrd
    go_wp2_with fail
    refine kc.out.mono ?_
    rintro e w4 ⟨rfl, hx⟩
    have hk4 := hx.2.2
    have HS4 : Hid (w4.heap[w.heap.size]? = some (.cells #[.int .i64 0, .int .i64 0, .int .i64 0, .string ⟨#[]⟩, .slice none 0 0, .bool false] 24 (0, 0)) ∧ Below w.heap.size w w4) := ⟨(hk4.block _ (lt_of_blk HP0.out.res) (by rintro (e | e) <;> omega)).trans HP0.out.res, HP0.out.bel.trans (hk4.below (by rintro k (rfl | rfl) <;> omega) HP0.out.bel.size)⟩
    obtain ⟨q0, q1, q2, q3, q4, q5⟩ := six_cells HS4.out.1
    have qf := fun o => warm_of HS4.out.1 o
    clear hx hk4
    go_wp2_with fail
    refine bodyPost_ret (v := .tuple #[.agg #[.int .i64 0, .int .i64 0, .int .i64 0, .string ⟨#[]⟩, .slice none 0 0, .bool false], .int .i64 15]) (by simp [results, Tryz.results18, go_sem, q0, q1, q2, q3, q4, q5]) rfl (ParseEnd.no HNO.out rfl ?_)
    exact below_six HS4.out.2 (Nat.le_refl _) _ _ _ _ _ _
  obtain ⟨id, hid⟩ := some_of hz
  rw [hid] at kc
  go_wp2_with fail
  refine kc.out.mono ?_
  rintro e w4 ⟨rfl, h1, h2, h3⟩
  have HP1 := Lib.hid (HP0.out.step h3 h1 h2 hj1 hj2 hj3 hj4)
  clear h1 h2 h3 kc hz a0 a1 a2 a3 a4 a5
  go_wp2_with fail
  -- way 1
  obtain ⟨a0, a1, a2, a3, a4, a5⟩ := six_cells HP1.out.fn
  have kc := Lib.hid (rdEntity_any w.heap.size b (w.heap.size + 1) 32 _ _ none 0 0 _ HP1.out.gb hj6 hj7 HP1.out.rdr HP1.out.jrn hj5)
  rw [rounds_succ]
  obtain ⟨z, hz⟩ : ∃ z : Bool, (numOf (PSs.tail.headD [])).isSome = z := ⟨_, rfl⟩
  rw [hz] at kc
  cases z
  · skip
    have hrd : readJ PSs = none := readP_no1 (none_of hz)
    have HNO : Hid (parseJ s = none) := by unfold Hid; rw [HPJ.out, hrd]
    clear hrd
    go_wp2_with fail
    refine kc.out.mono ?_
    rintro e w4 ⟨rfl, hx⟩
    have hk4 := hx.2.2
    have HS4 : Hid (w4.heap[w.heap.size]? = some (.cells #[.int .i64 0, .int .i64 0, .int .i64 0, .string ⟨#[]⟩, .slice none 0 0, .bool false] 24 (0, 0)) ∧ Below w.heap.size w w4) := ⟨(hk4.block _ (lt_of_blk HP1.out.res) (by rintro (e | e) <;> omega)).trans HP1.out.res, HP1.out.bel.trans (hk4.below (by rintro k (rfl | rfl) <;> omega) HP1.out.bel.size)⟩
    obtain ⟨q0, q1, q2, q3, q4, q5⟩ := six_cells HS4.out.1
    have qf := fun o => warm_of HS4.out.1 o
    clear hx hk4
    go_wp2_with fail
    refine bodyPost_ret (v := .tuple #[.agg #[.int .i64 0, .int .i64 0, .int .i64 0, .string ⟨#[]⟩, .slice none 0 0, .bool false], .int .i64 15]) (by simp [results, Tryz.results18, go_sem, q0, q1, q2, q3, q4, q5]) rfl (ParseEnd.no HNO.out rfl ?_)
    exact below_six HS4.out.2 (Nat.le_refl _) _ _ _ _ _ _
  obtain ⟨ent, hent⟩ := some_of hz
  rw [hent] at kc
  go_wp2_with fail
  refine kc.out.mono ?_
  rintro e w5 ⟨rfl, h1, h2, h3⟩
  have HP2 := Lib.hid (HP1.out.step h3 h1 h2 hj1 hj2 hj3 hj4)
  clear h1 h2 h3 kc hz a0 a1 a2 a3 a4 a5
  go_wp2_with fail
  -- way 2
  obtain ⟨a0, a1, a2, a3, a4, a5⟩ := six_cells HP2.out.fn
  have kc := Lib.hid (rdPeriod_any w.heap.size b (w.heap.size + 1) 32 _ _ none 0 0 _ HP2.out.gb HP2.out.rdr HP2.out.jrn hj5)
  rw [rounds_succ]
  obtain ⟨z, hz⟩ : ∃ z : Bool, parseOk (PSs.tail.tail.headD []) = z := ⟨_, rfl⟩
  rw [hz] at kc
  cases z
  · skip
    have hrd : readJ PSs = none := readP_no2 hz
    have HNO : Hid (parseJ s = none) := by unfold Hid; rw [HPJ.out, hrd]
    clear hrd
    go_wp2_with fail
    refine kc.out.mono ?_
    rintro e w4 ⟨rfl, hx⟩
    have hk4 := hx.2.2
    have HS4 : Hid (w4.heap[w.heap.size]? = some (.cells #[.int .i64 0, .int .i64 0, .int .i64 0, .string ⟨#[]⟩, .slice none 0 0, .bool false] 24 (0, 0)) ∧ Below w.heap.size w w4) := ⟨(hk4.block _ (lt_of_blk HP2.out.res) (by rintro (e | e) <;> omega)).trans HP2.out.res, HP2.out.bel.trans (hk4.below (by rintro k (rfl | rfl) <;> omega) HP2.out.bel.size)⟩
    obtain ⟨q0, q1, q2, q3, q4, q5⟩ := six_cells HS4.out.1
    have qf := fun o => warm_of HS4.out.1 o
    clear hx hk4
    go_wp2_with fail
    refine bodyPost_ret (v := .tuple #[.agg #[.int .i64 0, .int .i64 0, .int .i64 0, .string ⟨#[]⟩, .slice none 0 0, .bool false], .int .i64 15]) (by simp [results, Tryz.results18, go_sem, q0, q1, q2, q3, q4, q5]) rfl (ParseEnd.no HNO.out rfl ?_)
    exact below_six HS4.out.2 (Nat.le_refl _) _ _ _ _ _ _
  have hper := Lib.hid hz
  go_wp2_with fail
  refine kc.out.mono ?_
  rintro e w6 ⟨rfl, h1, h2, h3⟩
  have HP3 := Lib.hid (HP2.out.step h3 h1 h2 hj1 hj2 hj3 hj4)
  clear h1 h2 h3 kc hz a0 a1 a2 a3 a4 a5
  go_wp2_with fail
  -- way 3
  obtain ⟨a0, a1, a2, a3, a4, a5⟩ := six_cells HP3.out.fn
  have kc := Lib.hid (rdRef_any b (w.heap.size + 1) 32 _ _ none 0 0 _ HP3.out.rdr HP3.out.jrn hj5)
  rw [rounds_succ]
  obtain ⟨z, hz⟩ : ∃ z : Bool, (!decide (PSs.tail.tail.tail.headD [] = [])) = z := ⟨_, rfl⟩
  rw [hz] at kc
  cases z
  · skip
    have hrd : readJ PSs = none := readP_no3 (by simpa using hz)
    have HNO : Hid (parseJ s = none) := by unfold Hid; rw [HPJ.out, hrd]
    clear hrd
    go_wp2_with fail
    refine kc.out.mono ?_
    rintro e w4 ⟨rfl, hx⟩
    have hk4 := hx.2.2
    have HS4 : Hid (w4.heap[w.heap.size]? = some (.cells #[.int .i64 0, .int .i64 0, .int .i64 0, .string ⟨#[]⟩, .slice none 0 0, .bool false] 24 (0, 0)) ∧ Below w.heap.size w w4) := ⟨(hk4.block _ (lt_of_blk HP3.out.res) (by rintro (e | e) <;> omega)).trans HP3.out.res, HP3.out.bel.trans (hk4.below (by rintro k (rfl | rfl) <;> omega) HP3.out.bel.size)⟩
    obtain ⟨q0, q1, q2, q3, q4, q5⟩ := six_cells HS4.out.1
    have qf := fun o => warm_of HS4.out.1 o
    clear hx hk4
    go_wp2_with fail
    refine bodyPost_ret (v := .tuple #[.agg #[.int .i64 0, .int .i64 0, .int .i64 0, .string ⟨#[]⟩, .slice none 0 0, .bool false], .int .i64 15]) (by simp [results, Tryz.results18, go_sem, q0, q1, q2, q3, q4, q5]) rfl (ParseEnd.no HNO.out rfl ?_)
    exact below_six HS4.out.2 (Nat.le_refl _) _ _ _ _ _ _
  have href : Hid (¬ PSs.tail.tail.tail.headD [] = []) := by unfold Hid; simpa using hz
  go_wp2_with fail
  refine kc.out.mono ?_
  rintro e w7 ⟨rfl, h1, h2, h3⟩
  have HP4 := Lib.hid (HP3.out.step h3 h1 h2 hj1 hj2 hj3 hj4)
  clear h1 h2 h3 kc hz a0 a1 a2 a3 a4 a5
  go_wp2_with fail
  -- way 4
  obtain ⟨a0, a1, a2, a3, a4, a5⟩ := six_cells HP4.out.fn
  have kc := Lib.hid (rdState_any b (w.heap.size + 1) 32 _ _ none 0 0 _ HP4.out.rdr HP4.out.jrn hj5)
  rw [rounds_succ]
  obtain ⟨z, hz⟩ : ∃ z : Bool, stateOk (PSs.tail.tail.tail.tail.headD []) = z := ⟨_, rfl⟩
  rw [hz] at kc
  cases z
  · skip
    have hrd : readJ PSs = none := readP_no4 hz
    have HNO : Hid (parseJ s = none) := by unfold Hid; rw [HPJ.out, hrd]
    clear hrd
    go_wp2_with fail
    refine kc.out.mono ?_
    rintro e w4 ⟨rfl, hx⟩
    have hk4 := hx.2.2
    have HS4 : Hid (w4.heap[w.heap.size]? = some (.cells #[.int .i64 0, .int .i64 0, .int .i64 0, .string ⟨#[]⟩, .slice none 0 0, .bool false] 24 (0, 0)) ∧ Below w.heap.size w w4) := ⟨(hk4.block _ (lt_of_blk HP4.out.res) (by rintro (e | e) <;> omega)).trans HP4.out.res, HP4.out.bel.trans (hk4.below (by rintro k (rfl | rfl) <;> omega) HP4.out.bel.size)⟩
    obtain ⟨q0, q1, q2, q3, q4, q5⟩ := six_cells HS4.out.1
    have qf := fun o => warm_of HS4.out.1 o
    clear hx hk4
    go_wp2_with fail
    refine bodyPost_ret (v := .tuple #[.agg #[.int .i64 0, .int .i64 0, .int .i64 0, .string ⟨#[]⟩, .slice none 0 0, .bool false], .int .i64 15]) (by simp [results, Tryz.results18, go_sem, q0, q1, q2, q3, q4, q5]) rfl (ParseEnd.no HNO.out rfl ?_)
    exact below_six HS4.out.2 (Nat.le_refl _) _ _ _ _ _ _
  have hsta := Lib.hid hz
  go_wp2_with fail
  refine kc.out.mono ?_
  rintro e w8 ⟨rfl, h1, h2, h3⟩
  have HP5 := Lib.hid (HP4.out.step h3 h1 h2 hj1 hj2 hj3 hj4)
  clear h1 h2 h3 kc hz a0 a1 a2 a3 a4 a5
  go_wp2_with fail
  -- the lines
  obtain ⟨a0, a1, a2, a3, a4, a5⟩ := six_cells HP5.out.fn
  have kc := Lib.hid (rdLines_any w.heap.size b (w.heap.size + 1) _ _ _ HP5.out.gb hj6 hj7 HP5.out.rdr HP5.out.jrn hj5)
  rw [rounds_succ]
  obtain ⟨z, hz⟩ : ∃ z : Bool, (linesOf 9 PSs.tail.tail.tail.tail.tail).isSome = z := ⟨_, rfl⟩
  rw [hz] at kc
  cases z
  · skip
    have hrd : readJ PSs = none := readP_no5 (none_of hz)
    have HNO : Hid (parseJ s = none) := by unfold Hid; rw [HPJ.out, hrd]
    clear hrd
    go_wp2_with fail
    refine kc.out.mono ?_
    rintro e w4 ⟨rfl, hx⟩
    have hk4 := hx.2
    have HS4 : Hid (w4.heap[w.heap.size]? = some (.cells #[.int .i64 0, .int .i64 0, .int .i64 0, .string ⟨#[]⟩, .slice none 0 0, .bool false] 24 (0, 0)) ∧ Below w.heap.size w w4) := ⟨(hk4.block _ (lt_of_blk HP5.out.res) (by rintro (e | e) <;> omega)).trans HP5.out.res, HP5.out.bel.trans (hk4.below (by rintro k (rfl | rfl) <;> omega) HP5.out.bel.size)⟩
    obtain ⟨q0, q1, q2, q3, q4, q5⟩ := six_cells HS4.out.1
    have qf := fun o => warm_of HS4.out.1 o
    clear hx hk4
    go_wp2_with fail
    refine bodyPost_ret (v := .tuple #[.agg #[.int .i64 0, .int .i64 0, .int .i64 0, .string ⟨#[]⟩, .slice none 0 0, .bool false], .int .i64 15]) (by simp [results, Tryz.results18, go_sem, q0, q1, q2, q3, q4, q5]) rfl (ParseEnd.no HNO.out rfl ?_)
    exact below_six HS4.out.2 (Nat.le_refl _) _ _ _ _ _ _
  obtain ⟨L, hL⟩ := some_of hz
  have hrd := readP_yes hid hent hper.out href.out hsta.out hL
  have HRD : Hid (readJ PSs = some ⟨id, ent, parseV (PSs.tail.tail.headD []), bs (refOf (PSs.tail.tail.tail.headD [])), L, voidOf (PSs.tail.tail.tail.tail.headD [])⟩) := hrd
  rw [hL] at kc
  clear hrd
  go_wp2_with fail
  refine kc.out.mono ?_
  rintro e w9 ⟨rfl, hx, hk9⟩
  obtain ⟨A, c, hj9, hown9⟩ := hx L rfl
  have hjj : w9.heap[w.heap.size + 1]? = some (.cells #[.int .i64 id, .int .i64 ent, .int .i64 (parseV (PSs.tail.tail.headD [])), .string (bs (refOf (PSs.tail.tail.tail.headD []))), .slice A L.length c, .bool (voidOf (PSs.tail.tail.tail.tail.headD []))] 24 (0, 0)) := by
    rw [← ref_start]
    exact hj9
  have hL9 := linesOf_len hL
  have hrl : (refOf (PSs.tail.tail.tail.headD [])).length ≤ 1000000 := Nat.le_trans (refOf_le _) (Nat.le_trans (head_le 32 _) HP3.out.rdr.len)
  have hB9 : Below w.heap.size w w9 := HP5.out.bel.trans (hk9.below (by rintro k (rfl | rfl) <;> omega) HP5.out.bel.size)
  have hs9 : w9.heap[w.heap.size]? = some (.cells #[.int .i64 0, .int .i64 0, .int .i64 0, .string ⟨#[]⟩, .slice none 0 0, .bool false] 24 (0, 0)) := (hk9.block _ (lt_of_blk HP5.out.res) (by rintro (e | e) <;> omega)).trans HP5.out.res
  have hz8 : w.heap.size < w8.heap.size := lt_of_blk HP5.out.res
  have hown : w9.ownsRow (w.heap.size + 1) 34 3 (.slice A L.length c) L.length (lins L) := own_base hown9 (by omega)
  clear hx hj9 hk9 hown9 kc hz a0 a1 a2 a3 a4 a5 HP0 HP1 HP2 HP3 HP4 HP5 hid hent hper href hsta hL
  generalize parseV (PSs.tail.tail.headD []) = per at *
  generalize refOf (PSs.tail.tail.tail.headD []) = rf at *
  generalize voidOf (PSs.tail.tail.tail.tail.headD []) = vo at *
  have HPJ2 : Hid (parseJ s = if checkE ⟨id, ent, per, bs rf, L, vo⟩ = 0 then some ⟨id, ent, per, bs rf, L, vo⟩ else none) := by unfold Hid; rw [HPJ.out, HRD.out]
  have kk := Lib.hid (check_any ⟨id, ent, per, bs rf, L, vo⟩ A L.length c w9.heap.size w9 (rd_of_own hown) (Nat.le_refl _) (by unfold maxLen; omega) (by rw [bs_size]; unfold maxLen; omega))
  unfold Jrn.val at kk
  dsimp only at kk
  obtain ⟨j0, j1, j2, j3, j4, j5⟩ := six_cells hjj
  have HJJ := Lib.hid hjj
  have HOWN := Lib.hid hown
  have HB9 := Lib.hid hB9
  have HS9 := Lib.hid hs9
  clear hjj hown hB9 hs9 HPJ HRD
  go_wp2_with fail
  rw [rounds_succ]
  go_wp2_with fail
  refine kk.out.mono ?_
  rintro e w10 ⟨rfl, hb10⟩
  have HBW : Hid (Below w.heap.size w w10) := HB9.out.trans (hb10.mono HB9.out.size)
  have hs10 : w10.heap[w.heap.size]? = some (.cells #[.int .i64 0, .int .i64 0, .int .i64 0, .string ⟨#[]⟩, .slice none 0 0, .bool false] 24 (0, 0)) := (hb10.block _ (lt_of_blk HS9.out)).trans HS9.out
  have hj10 := (hb10.block _ (lt_of_blk HJJ.out)).trans HJJ.out
  have HO10 : Hid (w10.ownsRow (w.heap.size + 1) 34 3 (.slice A L.length c) L.length (lins L)) := own_kept HOWN.out fun k hk _ => hb10.block k hk
  obtain ⟨q0, q1, q2, q3, q4, q5⟩ := six_cells hs10
  have qf := fun o => warm_of hs10 o
  obtain ⟨y0, y1, y2, y3, y4, y5⟩ := six_cells hj10
  clear hb10 hs10 hj10 j0 j1 j2 j3 j4 j5
  by_cases hE : checkE ⟨id, ent, per, bs rf, L, vo⟩ = 0
  · have HY : Hid (parseJ s = some ⟨id, ent, per, bs rf, L, vo⟩) := by unfold Hid; rw [HPJ2.out, if_pos hE]
    rw [hE]
    clear kk hE
    go_wp2_with fail
    refine bodyPost_ret (v := .tuple #[.agg #[.int .i64 id, .int .i64 ent, .int .i64 per, .string (bs rf), .slice A L.length c, .bool vo], .int .i64 0]) (by simp [results, Tryz.results18, go_sem, q0, q1, q2, q3, q4, q5]) rfl ?_
    unfold ParseEnd
    rw [HY.out]
    exact ⟨⟨A, c, rfl, own_base (own_six HO10.out (by omega) _ _ _ _ _ _) (by omega)⟩, below_six HBW.out (Nat.le_refl _) _ _ _ _ _ _⟩
  · have HN : Hid (parseJ s = none) := by unfold Hid; rw [HPJ2.out, if_neg hE]
    generalize checkE ⟨id, ent, per, bs rf, L, vo⟩ = E at *
    have t1 : (E != 0) = true := by simpa using hE
    clear kk hE
    go_wp2_with fail
    refine bodyPost_ret (v := .tuple #[.agg #[.int .i64 0, .int .i64 0, .int .i64 0, .string ⟨#[]⟩, .slice none 0 0, .bool false], .int .i64 15]) (by simp [results, Tryz.results18, go_sem, q0, q1, q2, q3, q4, q5]) rfl (ParseEnd.no HN.out rfl ?_)
    exact below_six HBW.out (Nat.le_refl _) _ _ _ _ _ _
end Go.Proofs.YtbdhhfaelnnocaaGreatDoor
