/-
  Several texts, one behind the other: what each holds stands ahead of it.
-/
import Derived.Test.YtmgncoialppmpaaGreatEntryReverse
import Derived.Test.YtmgncoialppmpaaGreatMany15
import Derived.Test.YtmgncoialppmpaaGreatMany30

/-
  Contract of the reference's Reverse.
-/
namespace Go.Proofs.YtmgncoialppmpaaGreat
open Go.RowKit Go.Sort

/-- Lines of which the first k were turned. -/
def turnTo (l : List Lin) (k : Nat) : List Lin := turnL (l.take k) ++ l.drop k
theorem turnTo_zero (l : List Lin) : turnTo l 0 = l := by simp [turnTo, turnL]
theorem turnTo_all (l : List Lin) : turnTo l l.length = turnL l := by simp [turnTo]
theorem turnTo_at {l : List Lin} {k : Nat} {x : Lin} (h : l[k]? = some x) : (turnTo l k)[k]? = some x := by
  obtain ⟨hk, rfl⟩ := List.getElem?_eq_some_iff.1 h
  unfold turnTo
  rw [List.getElem?_append_right (by rw [turnL_len, List.length_take]; omega), turnL_len, List.length_take, Nat.min_eq_left (Nat.le_of_lt hk), Nat.sub_self]
  simp
theorem turnTo_len (l : List Lin) (k : Nat) : (turnTo l k).length = l.length := by
  unfold turnTo
  rw [List.length_append, turnL_len, List.length_take, List.length_drop]
  omega
theorem lins_set (l : List Lin) : ∀ (k : Nat) (x : Lin), l[k]? = some x → ∀ v : Int, (lins l).set (k * 3 + 1) (.int .i64 v) = lins (l.set k ⟨x.acct, v, x.part⟩) := by
  induction l with
  | nil => intro k x h; simp at h
  | cons b l ih =>
    intro k x h v
    cases k with
    | zero =>
      simp at h
      subst h
      rfl
    | succ k =>
      have := ih k x (by simpa using h) v
      unfold lins at *
      rw [List.set_cons_succ, List.flatMap_cons, List.flatMap_cons, ← this, show (k + 1) * 3 + 1 = k * 3 + 1 + 3 by omega]
      rfl
theorem turnTo_step {l : List Lin} {k : Nat} {x : Lin} (h : l[k]? = some x) : (turnTo l k).set k (negL x) = turnTo l (k + 1) := by
  obtain ⟨hk, rfl⟩ := List.getElem?_eq_some_iff.1 h
  have hd : l.drop k = l[k] :: l.drop (k + 1) := List.drop_eq_getElem_cons hk
  unfold turnTo
  rw [turnL_step h, hd]
  have hlen : (turnL (l.take k)).length = k := by rw [turnL_len, List.length_take]; omega
  rw [List.set_append_right _ _ (by omega), hlen, Nat.sub_self, List.set_cons_zero, List.append_assoc]
  rfl

set_option maxRecDepth 100000 in
set_option maxHeartbeats 4000000 in
theorem refReverse_any (j : Jrn) (A : Option Addr) (n c B : Nat) (id per : Int) (w : World) (h : Rd w B 3 A n (lins j.lines)) (hB : B ≤ w.heap.size) (hn : n ≤ maxLen) :
    Calls Tryz.prog 68 #[j.val A n c, .int .i64 id, .int .i64 per] w (RevEnd w j id per) := by
  have HL := Lib.hid h.lins_len
  obtain ⟨W2, hW2⟩ : ∃ W2, (w.alloc (.cells #[.int .i64 j.id, .int .i64 j.ent, .int .i64 j.per, .string j.ref, .slice A n c, .bool j.void] 29)).alloc (.cells #[.int .i64 0, .int .i64 0, .int .i64 0, .string ⟨#[]⟩, .slice none 0 0, .bool false] 29) = W2 := ⟨_, rfl⟩
  have hb2 : Below w.heap.size w W2 := by rw [← hW2]; exact ((Below.refl _ _).alloc (Nat.le_refl _) _).alloc (by simp) _
  have hbox : JAt W2 w.heap.size j A n c := by
    rw [← hW2]
    exact (Below.heap_alloc _ _ _ (by simp)).trans (heap_new w _)
  have hres : JAt W2 (w.heap.size + 1) zeroJ none 0 0 := by
    rw [← hW2]
    have := heap_new (w.alloc (.cells #[.int .i64 j.id, .int .i64 j.ent, .int .i64 j.per, .string j.ref, .slice A n c, .bool j.void] 29)) (.cells #[.int .i64 0, .int .i64 0, .int .i64 0, .string ⟨#[]⟩, .slice none 0 0, .bool false] 29)
    rw [show (w.alloc (.cells #[.int .i64 j.id, .int .i64 j.ent, .int .i64 j.per, .string j.ref, .slice A n c, .bool j.void] 29)).heap.size = w.heap.size + 1 by simp] at this
    exact this
  have kc := Lib.hid (refCheck_any j A n c B W2 (h.far hb2 hB) (Nat.le_trans hB hb2.size))
  have HR : Hid (∀ w1, Below W2.heap.size W2 w1 → Rd w1 B 3 A n (lins j.lines)) := fun w1 hb => h.far (hb2.trans (hb.mono hb2.size)) hB
  have HW2 := Lib.hid hW2
  have HB2 := Lib.hid hb2
  have HBOX := Lib.hid hbox
  have HRES := Lib.hid hres
  clear hW2 hb2 hbox hres h
  by_cases hE : checkE j = 0
  rotate_left
  · have HE : Hid (revE j id per = checkE j) := by unfold Hid revE; rw [if_neg hE]
    have hEE := hE
    unfold Jrn.val at *
    generalize checkE j = E at *
    have t1 : (E != 0) = true := by simpa using hE
    clear hE
    go_enter Tryz.func68, Tryz.ntmps68
    go_wp2_with fail
    rw [HW2.out]
    refine kc.out.mono ?_
    rintro e w1 ⟨rfl, hb⟩
    have hr1 : JAt w1 (w.heap.size + 1) zeroJ none 0 0 := (hb.block _ (lt_of_blk HRES.out)).trans HRES.out
    obtain ⟨y0, y1, y2, y3, y4, y5⟩ := six_cells hr1
    have yf := fun o => warm_of hr1 o
    have HB1 : Hid (Below w.heap.size w w1) := HB2.out.trans (hb.mono HB2.out.size)
    clear hb hr1
    go_wp2_with fail
    refine bodyPost_ret (v := .tuple #[.agg #[.int .i64 0, .int .i64 0, .int .i64 0, .string ⟨#[]⟩, .slice none 0 0, .bool false], .int .i64 E]) (by simp [results, Tryz.results68, go_sem, y0, y1, y2, y3, y4, y5]) rfl (RevEnd.no HE.out hEE rfl ?_)
    exact below_six HB1.out (Nat.le_succ _) _ _ _ _ _ _
  · obtain ⟨_, hLn, hfit, _⟩ := checkE_ok hE
    have HE : Hid (revE j id per = checkE (revJ j id per)) := by unfold Hid revE; rw [if_pos hE]
    have HF := Lib.hid hfit
    have hn8 := (linesOk_len hLn).2
    rw [HL.out] at hn8
    rw [hE] at kc
    have HCP : Hid (∀ w1, Below W2.heap.size W2 w1 → Calls Tryz.prog 32 #[j.val A n c] w1 fun e w' => ∃ A' c', e = .returned (.agg #[.int .i64 j.id, .int .i64 j.ent, .int .i64 j.per, .string j.ref, .slice A' n c', .bool j.void]) ∧ w'.ownsRow w1.heap.size 64 3 (.slice A' n c') n (lins j.lines) ∧ Below w1.heap.size w1 w') := fun w1 hb => refCopy_any j A n c B w1 (HR.out w1 hb) (Nat.le_trans hB (Nat.le_trans HB2.out.size hb.size)) (by omega)
    have HCK : Hid (∀ (A' : Option Addr) (c' B' : Nat) (w1 : World), Rd w1 B' 3 A' n (lins (turnL j.lines)) → B' ≤ w1.heap.size → Calls Tryz.prog 76 #[.agg #[.int .i64 id, .int .i64 j.ent, .int .i64 per, .string ⟨#[]⟩, .slice A' n c', .bool false]] w1 fun e w' => e = .returned (.int .i64 (checkE (revJ j id per))) ∧ Below w1.heap.size w1 w') := fun A' c' B' w1 h1 h2 => refCheck_any (revJ j id per) A' n c' B' w1 h1 h2
    have HV : Hid (revE j id per = 0 → revV j id per = revJ j id per) := by intro h0; unfold revV; rw [if_pos h0]
    clear hfit hLn hE
    unfold Jrn.val at *
    have z0 : ((0 : Int) != 0) = false := rfl
    go_enter Tryz.func68, Tryz.ntmps68
    go_wp2_with fail
    rw [HW2.out]
    refine kc.out.mono ?_
    rintro e w1 ⟨rfl, hb⟩
    have hx1 : JAt w1 w.heap.size j A n c := (hb.block _ (lt_of_blk HBOX.out)).trans HBOX.out
    have hr1 : JAt w1 (w.heap.size + 1) zeroJ none 0 0 := (hb.block _ (lt_of_blk HRES.out)).trans HRES.out
    obtain ⟨b0, b1, b2, b3, b4, b5⟩ := six_cells hx1
    have kcp := Lib.hid (HCP.out w1 hb)
    have HB1 := Lib.hid hb
    have HR1 := Lib.hid hr1
    clear hb hr1 kc HCP
    go_wp2_with fail
    refine kcp.out.mono ?_
    rintro e w2 ⟨A', c', rfl, hown2, hb2⟩
    have hlt2 := hb2.size
    clear b0 b1 b2 b3 b4 b5
    go_wp2_with fail
    obtain ⟨W3, hW3⟩ : ∃ W3, w2.alloc (.cells #[.int .i64 id, .int .i64 j.ent, .int .i64 per, .string ⟨#[]⟩, .slice A' n c', .bool false] 29) = W3 := ⟨_, rfl⟩
    rw [hW3]
    have hb3 : Below w2.heap.size w2 W3 := by rw [← hW3]; exact (Below.refl _ _).alloc (Nat.le_refl _) _
    have hj3 : JAt W3 w2.heap.size (revJ j id per) A' n c' := by rw [← hW3]; exact heap_new w2 _
    have ho3 : W3.ownsRow w1.heap.size 64 3 (.slice A' n c') n (lins (turnTo j.lines 0)) := by rw [turnTo_zero]; exact own_kept hown2 fun q hq _ => hb3.block q hq
    have hg3 : ∀ q, (Value.slice A' n c').ownBlock = some q → q < w2.heap.size := own_lt hown2
    obtain ⟨tb, htb⟩ : ∃ tb, w2.heap.size = tb := ⟨_, rfl⟩
    rw [htb] at hj3 hg3 ⊢
    have HJ3 := Lib.hid hj3
    have HO3 := Lib.hid ho3
    have HG3 := Lib.hid hg3
    have HB13 : Hid (Below w1.heap.size w1 W3) := hb2.trans (hb3.mono hb2.size)
    have HTB : Hid (w1.heap.size ≤ tb) := by rw [← htb]; exact hlt2
    clear hW3 hb3 hj3 ho3 hg3 htb hb2 hown2 hx1 kcp hlt2
    go_loopw [10] (fun iv wr => ∃ k : Nat, k ≤ n ∧ iv = .int .i64 k ∧ JAt wr tb (revJ j id per) A' n c' ∧ wr.ownsRow w1.heap.size 64 3 (.slice A' n c') n (lins (turnTo j.lines k)) ∧ Below w1.heap.size w1 wr) (fun iv _ => n - (intOf iv).toNat)
    case atStart => exact ⟨0, Nat.zero_le _, rfl, HJ3.out, HO3.out, HB13.out⟩
    case round =>
      obtain ⟨k, hk, rfl, hj, hown, hbel⟩ := hrel
      have d4 := cell_of hj 4
      simp only [List.getElem?_toArray, List.getElem?_cons_zero, List.getElem?_cons_succ] at d4
      by_cases hlt : k < n
      · obtain ⟨g, cap, hv, hgB, hgl⟩ := hown.form (by omega)
        have hA : A' = some ⟨g, 0, none⟩ := by injection hv
        subst hA
        have hkn : (k : Int) < (n : Int) := by omega
        have hx : j.lines[k]? = some (j.lines[k]'(by have := HL.out; omega)) := List.getElem?_eq_getElem _
        generalize j.lines[k]'(by have := HL.out; omega) = x at hx
        have hfx := fits1_iff.1 (List.all_eq_true.1 HF.out x (List.mem_of_getElem? hx))
        have hc := own_cell hown (lins_at _ k _ (turnTo_at hx)).2.1
        have hf := own_warm hown (k * 3 + 1)
        have hgt : g ≠ tb := by have := HG3.out g rfl; omega
        have HNEW : Hid (JAt (wr.setCell ⟨g, k * 3 + 1, none⟩ (.int .i64 (-x.amt))) tb (revJ j id per) (some ⟨g, 0, none⟩) n c' ∧ (wr.setCell ⟨g, k * 3 + 1, none⟩ (.int .i64 (-x.amt))).ownsRow w1.heap.size 64 3 (.slice (some ⟨g, 0, none⟩) n c') n (lins (turnTo j.lines (k + 1))) ∧ Below w1.heap.size w1 (wr.setCell ⟨g, k * 3 + 1, none⟩ (.int .i64 (-x.amt)))) := by
          refine ⟨(Below.heap_setCell _ _ _ _ (fun e => hgt e.symm)).trans hj, ?_, hbel.setCell (p := ⟨g, k * 3 + 1, none⟩) hgB _⟩
          have := own_set1 (k := k * 3 + 1) hown (.int .i64 (-x.amt))
          rw [lins_set _ k x (turnTo_at hx), show (⟨x.acct, -x.amt, x.part⟩ : Lin) = negL x from rfl, turnTo_step hx] at this
          exact this
        obtain ⟨x1, x2, x3⟩ := x
        dsimp only at *
        clear hx hj hown hbel hv
        go_wp2_with fail
        go_region
        all_goals
          go_wp2_with fail
          obtain ⟨f1, f2, f3⟩ := HNEW.out
          exact ⟨⟨k + 1, by omega, by go_num, f1, f2, f3.drew⟩, by simp [intOf]; omega⟩
      · obtain rfl : k = n := by omega
        rw [show turnTo j.lines k = turnL j.lines by rw [← HL.out]; exact turnTo_all _] at hown
        obtain ⟨g0, g1, g2, g3, g4, g5⟩ := six_cells hj
        have kk := Lib.hid (HCK.out A' c' wr.heap.size wr (rd_of_own hown) (Nat.le_refl _))
        have HBR := Lib.hid hbel
        have HJ := Lib.hid hj
        have HOW := Lib.hid hown
        have HB2r : Hid (Below W2.heap.size W2 wr) := HB1.out.trans (hbel.mono HB1.out.size)
        have hlt1 : w.heap.size + 1 < w1.heap.size := lt_of_blk HR1.out
        clear hj hown hbel
        go_wp2_with fail
        refine kk.out.mono ?_
        rintro e w6 ⟨rfl, hb6⟩
        have hr6 : JAt w6 (w.heap.size + 1) zeroJ none 0 0 := by
          have h1 : JAt wr (w.heap.size + 1) zeroJ none 0 0 := (HBR.out.block _ (lt_of_blk HR1.out)).trans HR1.out
          exact (hb6.block _ (lt_of_blk h1)).trans h1
        have hj6 : JAt w6 tb (revJ j id per) A' k c' := (hb6.block _ (lt_of_blk HJ.out)).trans HJ.out
        clear g0 g1 g2 g3 g4 g5 d4
        obtain ⟨y0, y1, y2, y3, y4, y5⟩ := six_cells hr6
        have yf := fun o => warm_of hr6 o
        obtain ⟨g0, g1, g2, g3, g4, g5⟩ := six_cells hj6
        have HO6 : Hid (w6.ownsRow w1.heap.size 64 3 (.slice A' k c') k (lins (turnL j.lines))) := own_kept HOW.out fun q hq _ => hb6.block q hq
        have HBE : Hid (Below w.heap.size w w6) := HB2.out.trans ((HB2r.out.trans (hb6.mono HB2r.out.size)).mono HB2.out.size)
        clear hb6 hr6 hj6 kk HCK
        by_cases hE2 : checkE (revJ j id per) = 0
        · have hE0 := HE.out.trans hE2
          have HVV := Lib.hid (HV.out hE0)
          have HE0 := Lib.hid hE0
          rw [hE2]
          clear hE0 hE2
          go_wp2_with fail
          refine bodyPost_ret (v := .tuple #[.agg #[.int .i64 (revJ j id per).id, .int .i64 (revJ j id per).ent, .int .i64 (revJ j id per).per, .string (revJ j id per).ref, .slice A' k c', .bool (revJ j id per).void], .int .i64 0]) (by simp [results, Tryz.results68, go_sem, y0, y1, y2, y3, y4, y5]) rfl ?_
          unfold RevEnd
          rw [HVV.out, HE0.out]
          exact ⟨A', k, c', rfl, own_base (own_six HO6.out hlt1 _ _ _ _ _ _) (by omega), below_six HBE.out (Nat.le_succ _) _ _ _ _ _ _⟩
        · have hEE := HE.out
          have HNE := Lib.hid hE2
          generalize checkE (revJ j id per) = E2 at *
          have t1 : (E2 != 0) = true := by simpa using hE2
          clear hE2
          go_wp2_with fail
          refine bodyPost_ret (v := .tuple #[.agg #[.int .i64 0, .int .i64 0, .int .i64 0, .string ⟨#[]⟩, .slice none 0 0, .bool false], .int .i64 E2]) (by simp [results, Tryz.results68, go_sem, y0, y1, y2, y3, y4, y5]) rfl (RevEnd.no hEE HNE.out rfl ?_)
          exact below_six HBE.out (Nat.le_succ _) _ _ _ _ _ _
end Go.Proofs.YtmgncoialppmpaaGreat

/-
  Contract of the reference's Rules: Reverse.
-/
namespace Go.Proofs.YtmgncoialppmpaaGreat
open Go.RowKit Go.Sort

set_option maxRecDepth 100000 in
set_option maxHeartbeats 8000000 in
theorem refRReverse_any (C : List Acc) (G : List Trio) (r : List JR) (Ac Ag Ab : Option Addr) (cc cg cb B : Nat) (id nu pe : Int) (w : World) (h : QRd w B C G r Ac Ag Ab) (hB : B ≤ w.heap.size) :
    Calls Tryz.prog 13 #[.agg #[.slice Ac C.length cc, .slice Ag G.length cg, .slice Ab r.length cb], .int .i64 id, .int .i64 nu, .int .i64 pe] w (RRevEnd w (rRevE C G (r.map JR.j) id nu pe) (rRevJ C G (r.map JR.j) id nu pe)) := by
  obtain ⟨W, hW⟩ : ∃ W, (w.alloc (.cells #[.slice Ac C.length cc, .slice Ag G.length cg, .slice Ab r.length cb] 38)).alloc (.cells #[.int .i64 0, .int .i64 0, .int .i64 0, .string ⟨#[]⟩, .slice none 0 0, .bool false] 29) = W := ⟨_, rfl⟩
  obtain ⟨e1, e0, hbW⟩ := one_of hW
  have HW := Lib.hid hW
  have hlm := h.lm
  have HQ : Hid (∀ w1, Below W.heap.size W w1 → QRd w1 B C G r Ac Ag Ab) := fun w1 hb => h.far (hbW.trans (hb.mono hbW.size)) hB
  have HFIN : Hid (∀ w1, Below W.heap.size W w1 → Below w.heap.size w w1) := fun w1 hb => hbW.trans (hb.mono hbW.size)
  have HE1 : Hid (∀ w1, Below W.heap.size W w1 → w1.heap[w.heap.size]? = some (.cells #[.slice Ac C.length cc, .slice Ag G.length cg, .slice Ab r.length cb] 38 (0, 0))) := fun w1 hb => (hb.block _ (lt_of_blk e1)).trans e1
  have HE0 : Hid (∀ w1, Below W.heap.size W w1 → JAt w1 (w.heap.size + 1) zeroJ none 0 0) := fun w1 hb => (hb.block _ (lt_of_blk e0)).trans e0
  have HZ : Hid (∀ w1, Below W.heap.size W w1 → B ≤ w1.heap.size ∧ w.heap.size + 1 + 1 ≤ w1.heap.size) := fun w1 hb => by have := hbW.size; have := hb.size; have := lt_of_blk e0; omega
  have kg := Lib.hid (refGet_old r id Ab r.length cb B W (HQ.out W (Below.refl _ _)).m.rd (HZ.out W (Below.refl _ _)).1 (by omega))
  have HLIV := Lib.hid (liveE_two (r.map JR.j) id)
  have HMEM := Lib.hid (oldR_mem (l := r) (x := id))
  have HOK : Hid (liveE (r.map JR.j) id = 0 → checkE (oldR r id).j = 0) := fun hl => h.oks _ (oldR_mem hl)
  have HRV : Hid (∀ x, rRevE C G (r.map JR.j) id nu pe = x → x ≠ 0 → rRevJ C G (r.map JR.j) id nu pe = zeroJ) := fun x h1 h2 => by unfold rRevJ; rw [h1, if_neg h2]
  have HRE : Hid (rRevE C G (r.map JR.j) id nu pe = if liveE (r.map JR.j) id = 0 then (if revE (oldJ (r.map JR.j) id) nu pe = 0 then rPostE C G (r.map JR.j) (revV (oldJ (r.map JR.j) id) nu pe) else revE (oldJ (r.map JR.j) id) nu pe) else liveE (r.map JR.j) id) := rfl
  have HRJ : Hid (rRevE C G (r.map JR.j) id nu pe = 0 → rRevJ C G (r.map JR.j) id nu pe = revV (oldJ (r.map JR.j) id) nu pe) := fun h => by unfold rRevJ; rw [if_pos h]
  rw [← oldR_j] at HLIV HRE HRJ
  have HLM := Lib.hid hlm
  clear hW hbW h hlm
  generalize rRevE C G (r.map JR.j) id nu pe = EE at *
  generalize rRevJ C G (r.map JR.j) id nu pe = JJ at *
  generalize oldR r id = o at *
  generalize hasId (r.map JR.j) id = H at *
  generalize liveE (r.map JR.j) id = L at *
  obtain ⟨a0, a1, a2⟩ := three_cells e1
  clear e1 e0
  go_enter Tryz.func13, Tryz.ntmps13
  go_wp2_with fail
  rw [HW.out]
  refine kg.out.mono ?_
  rintro e w1 ⟨rfl, hb1⟩
  obtain ⟨W2, hW2⟩ : ∃ W2, w1.alloc (.cells #[.int .i64 o.j.id, .int .i64 o.j.ent, .int .i64 o.j.per, .string o.j.ref, .slice o.A o.j.lines.length o.c, .bool o.j.void] 29) = W2 := ⟨_, rfl⟩
  have hb2 : Below w1.heap.size w1 W2 := by rw [← hW2]; exact (Below.refl _ _).alloc (Nat.le_refl _) _
  have e2 : JAt W2 w1.heap.size o.j o.A o.j.lines.length o.c := by rw [← hW2]; exact heap_new w1 _
  have HW2 := Lib.hid hW2
  have HE2 : Hid (∀ w3, Below W2.heap.size W2 w3 → JAt w3 w1.heap.size o.j o.A o.j.lines.length o.c) := fun w3 hb => (hb.block _ (lt_of_blk e2)).trans e2
  have HBW2 : Hid (Below W.heap.size W W2) := hb1.trans (hb2.mono hb1.size)
  have HB2 : Hid (∀ w3, Below W2.heap.size W2 w3 → Below W.heap.size W w3) := fun w3 hb => HBW2.out.trans (hb.mono HBW2.out.size)
  clear hW2 hb1 hb2 kg a0 a1 a2
  go_wp2_with fail
  rw [HW2.out]
  have p5 := (six_cells e2).2.2.2.2.2
  have P5 := cell_regrown p5
  have Q1 := Lib.hid (regrown_calls (w := W2) fun w1 hb => (refIs_any (!H) 9 w1).mono fun e w' ⟨he, hw⟩ => ⟨he, hw ▸ Below.refl _ _⟩)
  have Q2 := Lib.hid (regrown_calls (w := W2) fun w1 hb => (refIs_any o.j.void 11 w1).mono fun e w' ⟨he, hw⟩ => ⟨he, hw ▸ Below.refl _ _⟩)
  generalize hX1 : (if (!H) = true then (9 : Int) else 0) = X1 at *
  generalize hX2 : (if o.j.void = true then (11 : Int) else 0) = X2 at *
  clear p5 e2
  refine wp_region_below_tail 6 (by kernel_rfl) (by kernel_rfl) ?_
  simp only [List.take_succ_cons, List.take_zero, List.drop_succ_cons, List.drop_zero]
  repeat (quiet_step (first | exact Q1.out _ _ | exact Q2.out _ _))
  refine wpQuiet_nil ?_
  intro w2 hw2
  have HB3 : Hid (Below W2.heap.size W2 w2) := by
    obtain ⟨p, rfl⟩ := hw2
    exact below_regrown _ _ _
  clear hw2 Q1 Q2 P5
  have hrd := rd_ints_new w2 [X1, X2] 41
  have kf := Lib.hid (refFirst_any [X1, X2] _ 2 2 _ _ hrd (by omega))
  have HB4 : Hid (Below W2.heap.size W2 (w2.alloc (.cells (ints .i64 [X1, X2]).toArray 41))) := HB3.out.alloc HB3.out.size _
  clear hrd
  go_wp2_with fail
  refine kf.out.mono ?_
  rintro e w3 ⟨rfl, rfl⟩
  clear kf
  rw [HLIV.out]
  clear HLIV
  generalize w2.alloc _ = W4 at *
  have HB4W := Lib.hid (HB2.out _ HB4.out)
  by_cases hL : L = 0
  · have ht : (L != 0) = false := by simpa using hL
    have hmem := HMEM.out hL
    have hok := HOK.out hL
    have hre := HRE.out
    rw [if_pos hL] at hre
    have HRE := Lib.hid hre
    have hlin := (HQ.out _ HB4W.out).m.lines _ hmem
    have hlen := (checkE_len hok).1
    have kr := Lib.hid (refReverse_any o.j o.A o.j.lines.length o.c B nu pe W4 hlin (HZ.out _ HB4W.out).1 (by unfold maxLen; omega))
    obtain ⟨p0, p1, p2, p3, p4, p5⟩ := six_cells (HE2.out _ HB4.out)
    unfold Jrn.val at kr
    clear hmem hok hre hlin hlen hL
    go_wp2_with fail
    refine kr.out.mono ?_
    rintro e w6 ⟨A, n, c6, rfl, hown, hb6⟩
    have HB6 : Hid (Below W.heap.size W w6) := HB4W.out.trans (hb6.mono HB4W.out.size)
    have HOW := Lib.hid (own_base hown (HZ.out _ HB4W.out).2)
    have hnl : (revV o.j nu pe).lines.length = n := by have := hown.1; rw [lins_len] at this; omega
    have HNL := Lib.hid hnl
    have HCK : Hid (revE o.j nu pe = 0 → checkE (revV o.j nu pe) = 0) := fun hv => by
      have hrev : revV o.j nu pe = revJ o.j nu pe := by unfold revV; rw [if_pos hv]
      rw [hrev]; exact (revE_two hv).2
    clear hown hb6 p0 p1 p2 p3 p4 p5 hnl kr
    generalize revV o.j nu pe = J at *
    generalize revE o.j nu pe = V at *
    obtain ⟨W7, hW7⟩ : ∃ W7, w6.alloc (.cells #[.int .i64 J.id, .int .i64 J.ent, .int .i64 J.per, .string J.ref, .slice A n c6, .bool J.void] 29) = W7 := ⟨_, rfl⟩
    have hb7 : Below w6.heap.size w6 W7 := by rw [← hW7]; exact (Below.refl _ _).alloc (Nat.le_refl _) _
    have hbx7 : JAt W7 w6.heap.size J A n c6 := by rw [← hW7]; exact heap_new w6 _
    have HB7 : Hid (Below W.heap.size W W7) := HB6.out.trans (hb7.mono HB6.out.size)
    have HO7 : Hid (W7.ownsRow (w.heap.size + 1 + 1) 64 3 (.slice A n c6) n (lins J.lines)) := own_kept HOW.out fun k hk _ => hb7.block k hk
    have HX7 : Hid (∀ w8, Below W7.heap.size W7 w8 → JAt w8 w6.heap.size J A n c6) := fun w8 hb => (hb.block _ (lt_of_blk hbx7)).trans hbx7
    have HW7 := Lib.hid hW7
    have hne : w.heap.size + 1 ≠ w6.heap.size := by have := (HZ.out _ HB6.out).2; omega
    clear hW7 hb7 hbx7
    by_cases hv : V = 0
    · subst hv
      have z0 : ((0 : Int) == 0) = true := rfl
      have hck := HCK.out rfl
      have hre := HRE.out
      rw [if_pos rfl] at hre
      have HRE3 := Lib.hid hre
      have hlen := (checkE_len hck).1
      have kp := refRPost_any C G r Ac Ag Ab cc cg cb B J A c6 W7.heap.size W7 (HQ.out _ HB7.out) (HZ.out _ HB7.out).1 (by rw [HNL.out]; exact rd_of_own HO7.out) (Nat.le_refl _) (by omega)
      unfold Jrn.val at kp
      rw [HNL.out] at kp
      have KP := Lib.hid kp
      obtain ⟨a0, a1, a2⟩ := three_cells (HE1.out _ HB6.out)
      have hlt6 : w.heap.size < w6.heap.size := lt_of_blk (HE1.out _ HB6.out)
      clear kp hck hre hlen
      go_wp2_with fail
      rw [HW7.out]
      refine KP.out.mono ?_
      rintro e w8 ⟨rfl, hb8⟩
      have HB8 : Hid (Below W.heap.size W w8) := HB7.out.trans (hb8.mono HB7.out.size)
      have HO8 : Hid (w8.ownsRow (w.heap.size + 1 + 1) 64 3 (.slice A n c6) n (lins J.lines)) := own_kept HO7.out fun k hk _ => hb8.block k hk
      have hr8 := HE0.out _ HB8.out
      obtain ⟨y0, y1, y2, y3, y4, y5⟩ := six_cells hr8
      have yf := fun o => warm_of hr8 o
      obtain ⟨z1, z2, z3, z4, z5, z6⟩ := six_cells (HX7.out _ hb8)
      have HB8F := Lib.hid (HFIN.out _ HB8.out)
      clear hr8 hb8 a0 a1 a2 KP
      generalize rPostE C G (r.map JR.j) J = E at *
      by_cases hE : E = 0
      · subst hE
        have HJ := Lib.hid (HRJ.out HRE3.out)
        have ht2 : ((0 : Int) != 0) = false := rfl
        go_wp2_with fail
        refine bodyPost_ret (v := .tuple #[.agg #[.int .i64 J.id, .int .i64 J.ent, .int .i64 J.per, .string J.ref, .slice A n c6, .bool J.void], .int .i64 0]) (by simp [results, Tryz.results13, go_sem, y0, y1, y2, y3, y4, y5]) rfl ?_
        rw [HRE3.out, HJ.out]
        exact ⟨A, n, c6, rfl, own_base (own_six HO8.out (Nat.lt_succ_self _) _ _ _ _ _ _) (by omega), below_six HB8F.out (Nat.le_succ _) _ _ _ _ _ _⟩
      · have ht2 : (E != 0) = true := by simpa using hE
        have HJ0 := Lib.hid (HRV.out _ HRE3.out hE)
        clear hE
        go_wp2_with fail
        refine bodyPost_ret (v := .tuple #[.agg #[.int .i64 0, .int .i64 0, .int .i64 0, .string ⟨#[]⟩, .slice none 0 0, .bool false], .int .i64 E]) (by simp [results, Tryz.results13, go_sem, y0, y1, y2, y3, y4, y5]) rfl ?_
        rw [HRE3.out]
        exact RRevEnd.no HJ0.out rfl (below_six HB8F.out (Nat.le_succ _) _ _ _ _ _ _)
    · have z0 : (V == 0) = false := by simpa using hv
      have ht2 : (V != 0) = true := by simpa using hv
      have hre := HRE.out
      rw [if_neg hv] at hre
      have HRE3 := Lib.hid hre
      have HJ0 := Lib.hid (HRV.out _ hre hv)
      have hr8 := HE0.out _ HB6.out
      obtain ⟨y0, y1, y2, y3, y4, y5⟩ := six_cells hr8
      have yf := fun o => warm_of hr8 o
      have hlt6 : w.heap.size + 1 < w6.heap.size := lt_of_blk hr8
      have hq9 : ∀ u, JAt (((((((w6.setCell ⟨w.heap.size + 1, 0, none⟩ (.int .i64 0)).setCell ⟨w.heap.size + 1, 1, none⟩ (.int .i64 0)).setCell ⟨w.heap.size + 1, 2, none⟩ (.int .i64 0)).setCell ⟨w.heap.size + 1, 3, none⟩ (.string ⟨#[]⟩)).setCell ⟨w.heap.size + 1, 4, none⟩ (.slice none 0 0)).setCell ⟨w.heap.size + 1, 5, none⟩ (.bool false)).alloc u) (w.heap.size + 1) zeroJ none 0 0 := fun u =>
        (Below.heap_alloc _ _ _ (by simpa using hlt6)).trans (six_jat zeroJ none 0 0 hr8)
      have c0 := fun u => (six_cells (hq9 u)).1
      have c1 := fun u => (six_cells (hq9 u)).2.1
      have c2 := fun u => (six_cells (hq9 u)).2.2.1
      have c3 := fun u => (six_cells (hq9 u)).2.2.2.1
      have c4 := fun u => (six_cells (hq9 u)).2.2.2.2.1
      have c5 := fun u => (six_cells (hq9 u)).2.2.2.2.2
      have HB8F := Lib.hid (HFIN.out _ HB6.out)
      have HC := Lib.hid (And.intro c0 (And.intro c1 (And.intro c2 (And.intro c3 (And.intro c4 c5)))))
      clear c0 c1 c2 c3 c4 c5 hr8 hv hre hq9
      go_wp2_with fail
      obtain ⟨c0, c1, c2, c3, c4, c5⟩ := HC.out
      refine bodyPost_ret (v := .tuple #[.agg #[.int .i64 0, .int .i64 0, .int .i64 0, .string ⟨#[]⟩, .slice none 0 0, .bool false], .int .i64 V]) (by simp [results, Tryz.results13, go_sem, c0, c1, c2, c3, c4, c5, zeroJ]) rfl ?_
      rw [HRE3.out]
      exact RRevEnd.no HJ0.out rfl ((below_six HB8F.out (Nat.le_succ _) _ _ _ _ _ _).alloc (by simpa using HB8F.out.size) _)
  · have ht : (L != 0) = true := by simpa using hL
    have hre := HRE.out
    rw [if_neg hL] at hre
    have HRE3 := Lib.hid hre
    have HJ0 := Lib.hid (HRV.out _ hre hL)
    have hr8 := HE0.out _ HB4W.out
    obtain ⟨y0, y1, y2, y3, y4, y5⟩ := six_cells hr8
    have yf := fun o => warm_of hr8 o
    have HB8F := Lib.hid (HFIN.out _ HB4W.out)
    clear hr8 hL hre
    go_wp2_with fail
    refine bodyPost_ret (v := .tuple #[.agg #[.int .i64 0, .int .i64 0, .int .i64 0, .string ⟨#[]⟩, .slice none 0 0, .bool false], .int .i64 L]) (by simp [results, Tryz.results13, go_sem, y0, y1, y2, y3, y4, y5]) rfl ?_
    rw [HRE3.out]
    exact RRevEnd.no HJ0.out rfl (below_six HB8F.out (Nat.le_succ _) _ _ _ _ _ _)
end Go.Proofs.YtmgncoialppmpaaGreat
