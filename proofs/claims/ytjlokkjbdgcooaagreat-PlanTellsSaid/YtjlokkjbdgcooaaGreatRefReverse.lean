/-
  Contract of the reference's Reverse.
-/
import Derived.Test.YtjlokkjbdgcooaaGreatMany17
import Derived.Test.YtjlokkjbdgcooaaGreatMany24
namespace Go.Proofs.YtjlokkjbdgcooaaGreat
open Go.RowKit Go.Sort

/-- Lines of which the first k were turned. -/
def turnTo (l : List Lin) (k : Nat) : List Lin := turnL (l.take k) ++ l.drop k
theorem turnTo_zero (l : List Lin) : turnTo l 0 = l := by simp [turnTo, turnL]
theorem turnTo_all (l : List Lin) : turnTo l l.length = turnL l := by simp [turnTo]
theorem turnTo_at {l : List Lin} {k : Nat} {x : Lin} (h : l[k]? = some x) : (turnTo l k)[k]? = some x := by
  obtain ⟨hk, rfl⟩ := List.getElem?_eq_some_iff.1 h
  unfold turnTo
  rw [List.getElem?_append_right (by rw [turnL_len, List.length_take]; omega), turnL_len, List.length_take, Nat.min_eq_left (Nat.le_of_lt hk), Nat.sub_self]
  simp
theorem turnTo_len (l : List Lin) (k : Nat) : (turnTo l k).length = l.length := by
  unfold turnTo
  rw [List.length_append, turnL_len, List.length_take, List.length_drop]
  omega
theorem lins_set (l : List Lin) : ∀ (k : Nat) (x : Lin), l[k]? = some x → ∀ v : Int, (lins l).set (k * 3 + 1) (.int .i64 v) = lins (l.set k ⟨x.acct, v, x.part⟩) := by
  induction l with
  | nil => intro k x h; simp at h
  | cons b l ih =>
    intro k x h v
    cases k with
    | zero =>
      simp at h
      subst h
      rfl
    | succ k =>
      have := ih k x (by simpa using h) v
      unfold lins at *
      rw [List.set_cons_succ, List.flatMap_cons, List.flatMap_cons, ← this, show (k + 1) * 3 + 1 = k * 3 + 1 + 3 by omega]
      rfl
theorem turnTo_step {l : List Lin} {k : Nat} {x : Lin} (h : l[k]? = some x) : (turnTo l k).set k (negL x) = turnTo l (k + 1) := by
  obtain ⟨hk, rfl⟩ := List.getElem?_eq_some_iff.1 h
  have hd : l.drop k = l[k] :: l.drop (k + 1) := List.drop_eq_getElem_cons hk
  unfold turnTo
  rw [turnL_step h, hd]
  have hlen : (turnL (l.take k)).length = k := by rw [turnL_len, List.length_take]; omega
  rw [List.set_append_right _ _ (by omega), hlen, Nat.sub_self, List.set_cons_zero, List.append_assoc]
  rfl

set_option maxRecDepth 100000 in
set_option maxHeartbeats 4000000 in
theorem refReverse_any (j : Jrn) (A : Option Addr) (n c B : Nat) (id per : Int) (w : World) (h : Rd w B 3 A n (lins j.lines)) (hB : B ≤ w.heap.size) (hn : n ≤ maxLen) :
    Calls Tryz.prog 59 #[j.val A n c, .int .i64 id, .int .i64 per] w (RevEnd w j id per) := by
  have HL := Lib.hid h.lins_len
  obtain ⟨W2, hW2⟩ : ∃ W2, (w.alloc (.cells #[.int .i64 j.id, .int .i64 j.ent, .int .i64 j.per, .string j.ref, .slice A n c, .bool j.void] 111)).alloc (.cells #[.int .i64 0, .int .i64 0, .int .i64 0, .string ⟨#[]⟩, .slice none 0 0, .bool false] 111) = W2 := ⟨_, rfl⟩
  have hb2 : Below w.heap.size w W2 := by rw [← hW2]; exact ((Below.refl _ _).alloc (Nat.le_refl _) _).alloc (by simp) _
  have hbox : JAt W2 w.heap.size j A n c := by
    rw [← hW2]
    exact (Below.heap_alloc _ _ _ (by simp)).trans (heap_new w _)
  have hres : JAt W2 (w.heap.size + 1) zeroJ none 0 0 := by
    rw [← hW2]
    have := heap_new (w.alloc (.cells #[.int .i64 j.id, .int .i64 j.ent, .int .i64 j.per, .string j.ref, .slice A n c, .bool j.void] 111)) (.cells #[.int .i64 0, .int .i64 0, .int .i64 0, .string ⟨#[]⟩, .slice none 0 0, .bool false] 111)
    rw [show (w.alloc (.cells #[.int .i64 j.id, .int .i64 j.ent, .int .i64 j.per, .string j.ref, .slice A n c, .bool j.void] 111)).heap.size = w.heap.size + 1 by simp] at this
    exact this
  have kc := Lib.hid (refCheck_any j A n c B W2 (h.far hb2 hB) (Nat.le_trans hB hb2.size))
  have HR : Hid (∀ w1, Below W2.heap.size W2 w1 → Rd w1 B 3 A n (lins j.lines)) := fun w1 hb => h.far (hb2.trans (hb.mono hb2.size)) hB
  have HW2 := Lib.hid hW2
  have HB2 := Lib.hid hb2
  have HBOX := Lib.hid hbox
  have HRES := Lib.hid hres
  clear hW2 hb2 hbox hres h
  by_cases hE : checkE j = 0
  rotate_left
  · have HE : Hid (revE j id per = checkE j) := by unfold Hid revE; rw [if_neg hE]
    have hEE := hE
    unfold Jrn.val at *
    generalize checkE j = E at *
    have t1 : (E != 0) = true := by simpa using hE
    clear hE
    go_enter Tryz.func59, Tryz.ntmps59
    go_wp2_with fail
    rw [HW2.out]
    refine kc.out.mono ?_
    rintro e w1 ⟨rfl, hb⟩
    have hr1 : JAt w1 (w.heap.size + 1) zeroJ none 0 0 := (hb.block _ (lt_of_blk HRES.out)).trans HRES.out
    obtain ⟨y0, y1, y2, y3, y4, y5⟩ := six_cells hr1
    have yf := fun o => warm_of hr1 o
    have HB1 : Hid (Below w.heap.size w w1) := HB2.out.trans (hb.mono HB2.out.size)
    clear hb hr1
    go_wp2_with fail
    refine bodyPost_ret (v := .tuple #[.agg #[.int .i64 0, .int .i64 0, .int .i64 0, .string ⟨#[]⟩, .slice none 0 0, .bool false], .int .i64 E]) (by simp [results, Tryz.results59, go_sem, y0, y1, y2, y3, y4, y5]) rfl (RevEnd.no HE.out hEE rfl ?_)
    exact below_six HB1.out (Nat.le_succ _) _ _ _ _ _ _
  · obtain ⟨_, hLn, hfit, _⟩ := checkE_ok hE
    have HE : Hid (revE j id per = checkE (revJ j id per)) := by unfold Hid revE; rw [if_pos hE]
    have HF := Lib.hid hfit
    have hn8 := (linesOk_len hLn).2
    rw [HL.out] at hn8
    rw [hE] at kc
    have HCP : Hid (∀ w1, Below W2.heap.size W2 w1 → Calls Tryz.prog 140 #[j.val A n c] w1 fun e w' => ∃ A' c', e = .returned (.agg #[.int .i64 j.id, .int .i64 j.ent, .int .i64 j.per, .string j.ref, .slice A' n c', .bool j.void]) ∧ w'.ownsRow w1.heap.size 113 3 (.slice A' n c') n (lins j.lines) ∧ Below w1.heap.size w1 w') := fun w1 hb => refCopy_any j A n c B w1 (HR.out w1 hb) (Nat.le_trans hB (Nat.le_trans HB2.out.size hb.size)) (by omega)
    have HCK : Hid (∀ (A' : Option Addr) (c' B' : Nat) (w1 : World), Rd w1 B' 3 A' n (lins (turnL j.lines)) → B' ≤ w1.heap.size → Calls Tryz.prog 58 #[.agg #[.int .i64 id, .int .i64 j.ent, .int .i64 per, .string ⟨#[]⟩, .slice A' n c', .bool false]] w1 fun e w' => e = .returned (.int .i64 (checkE (revJ j id per))) ∧ Below w1.heap.size w1 w') := fun A' c' B' w1 h1 h2 => refCheck_any (revJ j id per) A' n c' B' w1 h1 h2
    have HV : Hid (revE j id per = 0 → revV j id per = revJ j id per) := by intro h0; unfold revV; rw [if_pos h0]
    clear hfit hLn hE
    unfold Jrn.val at *
    have z0 : ((0 : Int) != 0) = false := rfl
    go_enter Tryz.func59, Tryz.ntmps59
    go_wp2_with fail
    rw [HW2.out]
    refine kc.out.mono ?_
    rintro e w1 ⟨rfl, hb⟩
    have hx1 : JAt w1 w.heap.size j A n c := (hb.block _ (lt_of_blk HBOX.out)).trans HBOX.out
    have hr1 : JAt w1 (w.heap.size + 1) zeroJ none 0 0 := (hb.block _ (lt_of_blk HRES.out)).trans HRES.out
    obtain ⟨b0, b1, b2, b3, b4, b5⟩ := six_cells hx1
    have kcp := Lib.hid (HCP.out w1 hb)
    have HB1 := Lib.hid hb
    have HR1 := Lib.hid hr1
    clear hb hr1 kc HCP
    go_wp2_with fail
    refine kcp.out.mono ?_
    rintro e w2 ⟨A', c', rfl, hown2, hb2⟩
    have hlt2 := hb2.size
    clear b0 b1 b2 b3 b4 b5
    go_wp2_with fail
    obtain ⟨W3, hW3⟩ : ∃ W3, w2.alloc (.cells #[.int .i64 id, .int .i64 j.ent, .int .i64 per, .string ⟨#[]⟩, .slice A' n c', .bool false] 111) = W3 := ⟨_, rfl⟩
    rw [hW3]
    have hb3 : Below w2.heap.size w2 W3 := by rw [← hW3]; exact (Below.refl _ _).alloc (Nat.le_refl _) _
    have hj3 : JAt W3 w2.heap.size (revJ j id per) A' n c' := by rw [← hW3]; exact heap_new w2 _
    have ho3 : W3.ownsRow w1.heap.size 113 3 (.slice A' n c') n (lins (turnTo j.lines 0)) := by rw [turnTo_zero]; exact own_kept hown2 fun q hq _ => hb3.block q hq
    have hg3 : ∀ q, (Value.slice A' n c').ownBlock = some q → q < w2.heap.size := own_lt hown2
    obtain ⟨tb, htb⟩ : ∃ tb, w2.heap.size = tb := ⟨_, rfl⟩
    rw [htb] at hj3 hg3 ⊢
    have HJ3 := Lib.hid hj3
    have HO3 := Lib.hid ho3
    have HG3 := Lib.hid hg3
    have HB13 : Hid (Below w1.heap.size w1 W3) := hb2.trans (hb3.mono hb2.size)
    have HTB : Hid (w1.heap.size ≤ tb) := by rw [← htb]; exact hlt2
    clear hW3 hb3 hj3 ho3 hg3 htb hb2 hown2 hx1 kcp hlt2
    go_loopw [10] (fun iv wr => ∃ k : Nat, k ≤ n ∧ iv = .int .i64 k ∧ JAt wr tb (revJ j id per) A' n c' ∧ wr.ownsRow w1.heap.size 113 3 (.slice A' n c') n (lins (turnTo j.lines k)) ∧ Below w1.heap.size w1 wr) (fun iv _ => n - (intOf iv).toNat)
    case atStart => exact ⟨0, Nat.zero_le _, rfl, HJ3.out, HO3.out, HB13.out⟩
    case round =>
      obtain ⟨k, hk, rfl, hj, hown, hbel⟩ := hrel
      have d4 := cell_of hj 4
      simp only [List.getElem?_toArray, List.getElem?_cons_zero, List.getElem?_cons_succ] at d4
      by_cases hlt : k < n
      · obtain ⟨g, cap, hv, hgB, hgl⟩ := hown.form (by omega)
        have hA : A' = some ⟨g, 0, none⟩ := by injection hv
        subst hA
        have hkn : (k : Int) < (n : Int) := by omega
        have hx : j.lines[k]? = some (j.lines[k]'(by have := HL.out; omega)) := List.getElem?_eq_getElem _
        generalize j.lines[k]'(by have := HL.out; omega) = x at hx
        have hfx := fits1_iff.1 (List.all_eq_true.1 HF.out x (List.mem_of_getElem? hx))
        have hc := own_cell hown (lins_at _ k _ (turnTo_at hx)).2.1
        have hf := own_warm hown (k * 3 + 1)
        have hgt : g ≠ tb := by have := HG3.out g rfl; omega
        have HNEW : Hid (JAt (wr.setCell ⟨g, k * 3 + 1, none⟩ (.int .i64 (-x.amt))) tb (revJ j id per) (some ⟨g, 0, none⟩) n c' ∧ (wr.setCell ⟨g, k * 3 + 1, none⟩ (.int .i64 (-x.amt))).ownsRow w1.heap.size 113 3 (.slice (some ⟨g, 0, none⟩) n c') n (lins (turnTo j.lines (k + 1))) ∧ Below w1.heap.size w1 (wr.setCell ⟨g, k * 3 + 1, none⟩ (.int .i64 (-x.amt)))) := by
          refine ⟨(Below.heap_setCell _ _ _ _ (fun e => hgt e.symm)).trans hj, ?_, hbel.setCell (p := ⟨g, k * 3 + 1, none⟩) hgB _⟩
          have := own_set1 (k := k * 3 + 1) hown (.int .i64 (-x.amt))
          rw [lins_set _ k x (turnTo_at hx), show (⟨x.acct, -x.amt, x.part⟩ : Lin) = negL x from rfl, turnTo_step hx] at this
          exact this
        obtain ⟨x1, x2, x3⟩ := x
        dsimp only at *
        clear hx hj hown hbel hv
        go_wp2_with fail
        go_region
        all_goals
          go_wp2_with fail
          obtain ⟨f1, f2, f3⟩ := HNEW.out
          exact ⟨⟨k + 1, by omega, by go_num, f1, f2, f3.drew⟩, by simp [intOf]; omega⟩
      · obtain rfl : k = n := by omega
        rw [show turnTo j.lines k = turnL j.lines by rw [← HL.out]; exact turnTo_all _] at hown
        obtain ⟨g0, g1, g2, g3, g4, g5⟩ := six_cells hj
        have kk := Lib.hid (HCK.out A' c' wr.heap.size wr (rd_of_own hown) (Nat.le_refl _))
        have HBR := Lib.hid hbel
        have HJ := Lib.hid hj
        have HOW := Lib.hid hown
        have HB2r : Hid (Below W2.heap.size W2 wr) := HB1.out.trans (hbel.mono HB1.out.size)
        have hlt1 : w.heap.size + 1 < w1.heap.size := lt_of_blk HR1.out
        clear hj hown hbel
        go_wp2_with fail
        refine kk.out.mono ?_
        rintro e w6 ⟨rfl, hb6⟩
        have hr6 : JAt w6 (w.heap.size + 1) zeroJ none 0 0 := by
          have h1 : JAt wr (w.heap.size + 1) zeroJ none 0 0 := (HBR.out.block _ (lt_of_blk HR1.out)).trans HR1.out
          exact (hb6.block _ (lt_of_blk h1)).trans h1
        have hj6 : JAt w6 tb (revJ j id per) A' k c' := (hb6.block _ (lt_of_blk HJ.out)).trans HJ.out
        clear g0 g1 g2 g3 g4 g5 d4
        obtain ⟨y0, y1, y2, y3, y4, y5⟩ := six_cells hr6
        have yf := fun o => warm_of hr6 o
        obtain ⟨g0, g1, g2, g3, g4, g5⟩ := six_cells hj6
        have HO6 : Hid (w6.ownsRow w1.heap.size 113 3 (.slice A' k c') k (lins (turnL j.lines))) := own_kept HOW.out fun q hq _ => hb6.block q hq
        have HBE : Hid (Below w.heap.size w w6) := HB2.out.trans ((HB2r.out.trans (hb6.mono HB2r.out.size)).mono HB2.out.size)
        clear hb6 hr6 hj6 kk HCK
        by_cases hE2 : checkE (revJ j id per) = 0
        · have hE0 := HE.out.trans hE2
          have HVV := Lib.hid (HV.out hE0)
          have HE0 := Lib.hid hE0
          rw [hE2]
          clear hE0 hE2
          go_wp2_with fail
          refine bodyPost_ret (v := .tuple #[.agg #[.int .i64 (revJ j id per).id, .int .i64 (revJ j id per).ent, .int .i64 (revJ j id per).per, .string (revJ j id per).ref, .slice A' k c', .bool (revJ j id per).void], .int .i64 0]) (by simp [results, Tryz.results59, go_sem, y0, y1, y2, y3, y4, y5]) rfl ?_
          unfold RevEnd
          rw [HVV.out, HE0.out]
          exact ⟨A', k, c', rfl, own_base (own_six HO6.out hlt1 _ _ _ _ _ _) (by omega), below_six HBE.out (Nat.le_succ _) _ _ _ _ _ _⟩
        · have hEE := HE.out
          have HNE := Lib.hid hE2
          generalize checkE (revJ j id per) = E2 at *
          have t1 : (E2 != 0) = true := by simpa using hE2
          clear hE2
          go_wp2_with fail
          refine bodyPost_ret (v := .tuple #[.agg #[.int .i64 0, .int .i64 0, .int .i64 0, .string ⟨#[]⟩, .slice none 0 0, .bool false], .int .i64 E2]) (by simp [results, Tryz.results59, go_sem, y0, y1, y2, y3, y4, y5]) rfl (RevEnd.no hEE HNE.out rfl ?_)
          exact below_six HBE.out (Nat.le_succ _) _ _ _ _ _ _
end Go.Proofs.YtjlokkjbdgcooaaGreat

