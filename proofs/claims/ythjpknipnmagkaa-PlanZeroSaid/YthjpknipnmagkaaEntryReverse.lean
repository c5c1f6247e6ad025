/-
  Contract of entry.Reverse.
-/
import Derived.Test.YthjpknipnmagkaaMany15
import Derived.Test.YthjpknipnmagkaaQuietTail
import Derived.Test.YthjpknipnmagkaaMany13
namespace Go.Proofs.Ythjpknipnmagkaa
open Go.RowKit Go.Sort

/-- What Reverse leaves. -/
def RevEnd (w : World) (j : Jrn) (id per : Int) (e : Ending) (w' : World) : Prop :=
  ∃ A n c, e = .returned (.tuple #[.agg #[.int .i64 (revV j id per).id, .int .i64 (revV j id per).ent, .int .i64 (revV j id per).per, .string (revV j id per).ref, .slice A n c, .bool (revV j id per).void], .int .i64 (revE j id per)]) ∧ w'.ownsRow w.heap.size 40 3 (.slice A n c) n (lins (revV j id per).lines) ∧ Below w.heap.size w w'
theorem RevEnd.no {w w' : World} {j : Jrn} {id per E : Int} {e : Ending} (hE : revE j id per = E) (h : E ≠ 0) (he : e = .returned (.tuple #[.agg #[.int .i64 0, .int .i64 0, .int .i64 0, .string ⟨#[]⟩, .slice none 0 0, .bool false], .int .i64 E])) (hb : Below w.heap.size w w') : RevEnd w j id per e w' := by
  unfold RevEnd revV
  rw [hE, if_neg h]
  exact ⟨none, 0, 0, he, World.ownsRow_nil _ _ _ _, hb⟩

set_option maxRecDepth 100000 in
set_option maxHeartbeats 4000000 in
theorem reverse_any (j : Jrn) (A : Option Addr) (n c B : Nat) (id per : Int) (w : World) (h : Rd w B 3 A n (lins j.lines)) (hB : B ≤ w.heap.size) (hn : n ≤ maxLen) (hs : j.ref.size ≤ maxLen) :
    Calls Try.prog 86 #[j.val A n c, .int .i64 id, .int .i64 per] w (RevEnd w j id per) := by
  have HL := Lib.hid h.lins_len
  obtain ⟨W2, hW2⟩ : ∃ W2, (w.alloc (.cells #[.int .i64 j.id, .int .i64 j.ent, .int .i64 j.per, .string j.ref, .slice A n c, .bool j.void] 38)).alloc (.cells #[.int .i64 0, .int .i64 0, .int .i64 0, .string ⟨#[]⟩, .slice none 0 0, .bool false] 38) = W2 := ⟨_, rfl⟩
  have hb2 : Below w.heap.size w W2 := by rw [← hW2]; exact ((Below.refl _ _).alloc (Nat.le_refl _) _).alloc (by simp) _
  have hz2 : W2.heap.size = w.heap.size + 2 := by rw [← hW2]; simp
  have hbox : JAt W2 w.heap.size j A n c := by
    rw [← hW2]
    exact (Below.heap_alloc _ _ _ (by simp)).trans (heap_new w _)
  have hres : JAt W2 (w.heap.size + 1) zeroJ none 0 0 := by
    rw [← hW2]
    have := heap_new (w.alloc (.cells #[.int .i64 j.id, .int .i64 j.ent, .int .i64 j.per, .string j.ref, .slice A n c, .bool j.void] 38)) (.cells #[.int .i64 0, .int .i64 0, .int .i64 0, .string ⟨#[]⟩, .slice none 0 0, .bool false] 38)
    rw [show (w.alloc (.cells #[.int .i64 j.id, .int .i64 j.ent, .int .i64 j.per, .string j.ref, .slice A n c, .bool j.void] 38)).heap.size = w.heap.size + 1 by simp] at this
    exact this
  have kc := Lib.hid (check_any j A n c B W2 (h.far hb2 hB) (Nat.le_trans hB hb2.size) hn hs)
  have HR : Hid (∀ w1, Below W2.heap.size W2 w1 → Rd w1 B 3 A n (lins j.lines)) := fun w1 hb => h.far (hb2.trans (hb.mono hb2.size)) hB
  have HW2 := Lib.hid hW2
  have HB2 := Lib.hid hb2
  have HBOX := Lib.hid hbox
  have HRES := Lib.hid hres
  have HZ2 := Lib.hid hz2
  clear hW2 hb2 hbox hres h hz2
  by_cases hE : checkE j = 0
  rotate_left
  · have HE : Hid (revE j id per = checkE j) := by unfold Hid revE; rw [if_neg hE]
    have hEE := hE
    unfold Jrn.val at *
    generalize checkE j = E at *
    have t1 : (E != 0) = true := by simpa using hE
    clear hE
    go_enter Try.func86, Try.ntmps86
    go_wp2_with fail
    rw [HW2.out]
    refine kc.out.mono ?_
    rintro e w1 ⟨rfl, hb⟩
    have hr1 : JAt w1 (w.heap.size + 1) zeroJ none 0 0 := (hb.block _ (lt_of_blk HRES.out)).trans HRES.out
    obtain ⟨y0, y1, y2, y3, y4, y5⟩ := six_cells hr1
    have yf := fun o => warm_of hr1 o
    have HB1 : Hid (Below w.heap.size w w1) := HB2.out.trans (hb.mono HB2.out.size)
    clear hb hr1
    go_wp2_with fail
    refine bodyPost_ret (v := .tuple #[.agg #[.int .i64 0, .int .i64 0, .int .i64 0, .string ⟨#[]⟩, .slice none 0 0, .bool false], .int .i64 E]) (by simp [results, Try.results86, go_sem, y0, y1, y2, y3, y4, y5]) rfl (RevEnd.no HE.out hEE rfl ?_)
    exact below_six HB1.out (Nat.le_succ _) _ _ _ _ _ _
  · obtain ⟨_, hLn, hfit, _⟩ := checkE_ok hE
    have HE : Hid (revE j id per = checkE (revJ j id per)) := by unfold Hid revE; rw [if_pos hE]
    have HF := Lib.hid hfit
    have hn8 := (linesOk_len hLn).2
    rw [HL.out] at hn8
    rw [hE] at kc
    have HCK : Hid (∀ (A' : Option Addr) (c' B' : Nat) (w1 : World), Rd w1 B' 3 A' n (lins (turnL j.lines)) → B' ≤ w1.heap.size → Calls Try.prog 64 #[.agg #[.int .i64 id, .int .i64 j.ent, .int .i64 per, .string ⟨#[]⟩, .slice A' n c', .bool false]] w1 fun e w' => e = .returned (.int .i64 (checkE (revJ j id per))) ∧ Below w1.heap.size w1 w') := fun A' c' B' w1 h1 h2 => check_any (revJ j id per) A' n c' B' w1 h1 h2 hn (by show (0 : Nat) ≤ _; exact Nat.zero_le _)
    have HV : Hid (revE j id per = 0 → revV j id per = revJ j id per) := by intro h0; unfold revV; rw [if_pos h0]
    clear hfit hLn hE
    unfold Jrn.val at *
    have z0 : ((0 : Int) != 0) = false := rfl
    go_enter Try.func86, Try.ntmps86
    go_wp2_with fail
    rw [HW2.out]
    refine kc.out.mono ?_
    rintro e w1 ⟨rfl, hb⟩
    have hx1 : JAt w1 w.heap.size j A n c := (hb.block _ (lt_of_blk HBOX.out)).trans HBOX.out
    have hr1 : JAt w1 (w.heap.size + 1) zeroJ none 0 0 := (hb.block _ (lt_of_blk HRES.out)).trans HRES.out
    obtain ⟨b0, b1, b2, b3, b4, b5⟩ := six_cells hx1
    have hlt1 : w.heap.size + 1 < w1.heap.size := lt_of_blk hr1
    have hlt0 : w.heap.size < w1.heap.size := by omega
    have HB1 := Lib.hid hb
    have HR1 := Lib.hid hr1
    clear hb hr1 kc
    go_wp2_with fail
    clear b0 b1 b2 b3 b4 b5
    obtain ⟨W3, hW3⟩ : ∃ W3, w1.alloc (.cells #[.int .i64 id, .int .i64 j.ent, .int .i64 per, .string ⟨#[]⟩, .slice none 0 0, .bool false] 38) = W3 := ⟨_, rfl⟩
    rw [hW3]
    have hz3 : W3.heap.size = w1.heap.size + 1 := by rw [← hW3]; simp
    have hb3 : Below w1.heap.size w1 W3 := by rw [← hW3]; exact (Below.refl _ _).alloc (Nat.le_refl _) _
    have hj3 : JAt W3 w1.heap.size (revJ j id per) none 0 0 := by rw [← hW3]; exact heap_new w1 _
    obtain ⟨tb, htb⟩ : ∃ tb, w1.heap.size = tb := ⟨_, rfl⟩
    rw [htb] at hj3 ⊢
    have HJ3 := Lib.hid hj3
    have HB3 := Lib.hid hb3
    have HZ3 := Lib.hid hz3
    have HTB := Lib.hid htb
    clear hW3 hb3 hj3 hz3 htb hx1
    go_loopw [27, 11] (fun iv _ wr => ∃ (k : Nat) (A' : Option Addr) (c' : Nat), k ≤ n ∧ iv = .int .i64 k ∧ JAt wr tb (revJ j id per) A' k c' ∧ wr.ownsRow W3.heap.size 40 3 (.slice A' k c') k (lins (turnL (j.lines.take k))) ∧ Kp (fun q => q = tb ∨ W3.heap.size ≤ q) W3 wr) (fun iv _ _ => n - (intOf iv).toNat)
    case atStart => exact ⟨0, none, 0, Nat.zero_le _, rfl, HJ3.out, World.ownsRow_nil _ _ _ _, Kp.refl _ _⟩
    case round =>
      obtain ⟨k, A', c', hk, rfl, hj, hown, hkp⟩ := hrel
      have hzr := hkp.size
      have hbr : Below w1.heap.size w1 wr := HB3.out.trans (hkp.below (by rintro q (rfl | hq) <;> (have := HZ3.out; have := HTB.out; omega)) (by have := HZ3.out; omega))
      have HB2r : Hid (Below W2.heap.size W2 wr) := HB1.out.trans (hbr.mono HB1.out.size)
      by_cases hlt : k < n
      · obtain ⟨ad, x, rfl, hbk, hx, p1, p2, p3⟩ := (HR.out wr HB2r.out).lin hlt
        have hkn : (k : Int) < (n : Int) := by omega
        have p2' := cell_behind p2 (by omega)
        have p3' := cell_behind p3 (by omega)
        have hfx := fits1_iff.1 (List.all_eq_true.1 HF.out x (List.mem_of_getElem? hx))
        have HST := Lib.hid (turnL_step hx)
        have d4 := cell_of hj 4
        simp only [List.getElem?_toArray, List.getElem?_cons_zero, List.getElem?_cons_succ] at d4
        have htl : tb < wr.heap.size := lt_of_blk hj
        obtain ⟨x1, x2, x3⟩ := x
        dsimp only at *
        have hown3 : ((wr.alloc (.cells #[.int .i64 x1, .int .i64 (-x2), .int .i64 x3] 40)).alloc (.cells #[.int .i64 x1, .int .i64 (-x2), .int .i64 x3] 40)).ownsRow W3.heap.size 40 3 (.slice A' k c') k (lins (turnL (j.lines.take k))) := own_kept hown fun q hq _ => (Below.heap_alloc _ _ _ (by simp; omega)).trans (Below.heap_alloc _ _ _ hq)
        have hrd : Rd ((wr.alloc (.cells #[.int .i64 x1, .int .i64 (-x2), .int .i64 x3] 40)).alloc (.cells #[.int .i64 x1, .int .i64 (-x2), .int .i64 x3] 40)) (wr.heap.size + 2) 3 (some ⟨wr.heap.size + 1, 0, none⟩) 1 (lins [⟨x1, -x2, x3⟩]) := by
          have := cells_new (wr.alloc (.cells #[.int .i64 x1, .int .i64 (-x2), .int .i64 x3] 40)) [.int .i64 x1, .int .i64 (-x2), .int .i64 x3] 40
          rw [show (wr.alloc (.cells #[.int .i64 x1, .int .i64 (-x2), .int .i64 x3] 40)).heap.size = wr.heap.size + 1 by simp] at this
          exact ⟨rfl, fun _ => ⟨_, rfl, by simp, this⟩⟩
        obtain ⟨v5, w5, hrun, hown5, hg5, _⟩ := append_fresh (P := Try.prog) (ty := 36) (c := 1) infoLin Try.underlying36 rfl (by omega) W3.heap.size _ k _ hown3 hrd (linsOne _) (by unfold maxLen; omega) (by omega) (by simp; omega)
        rw [← lins_append] at hown5
        obtain ⟨A5, c5, rfl⟩ := own_form hown5
        have keep : ∀ q, q < wr.heap.size → (q = tb ∨ q < W3.heap.size) → w5.heap[q]? = wr.heap[q]? := fun q hq hq2 => by
          have hno : ¬ some q = (Value.slice A' k c').ownBlock := fun e => by
            have := own_ge hown3 q e.symm
            have := HZ3.out; have := HTB.out
            omega
          have h1 := hg5.block q (by simp; omega) hno
          exact h1.trans ((Below.heap_alloc _ _ _ (by simp; omega)).trans (Below.heap_alloc _ _ _ hq))
        have hj5 : JAt w5 tb (revJ j id per) A' k c' := (keep tb htl (.inl rfl)).trans hj
        have f4 := warm_of hj5 4
        have e4 := cell_of hj5 4
        simp only [List.getElem?_toArray, List.getElem?_cons_zero, List.getElem?_cons_succ] at e4
        have hk5 : Kp (fun q => q = tb ∨ W3.heap.size ≤ q) wr w5 := (((Kp.refl _ wr).alloc _).alloc _).trans (Kp.grown hg5 fun q hq => .inr (own_ge hown3 q hq))
        have HEND : Hid (JAt (w5.setCell ⟨tb, 4, none⟩ (.slice A5 (k + 1) c5)) tb (revJ j id per) A5 (k + 1) c5 ∧ (w5.setCell ⟨tb, 4, none⟩ (.slice A5 (k + 1) c5)).ownsRow W3.heap.size 40 3 (.slice A5 (k + 1) c5) (k + 1) (lins (turnL (j.lines.take (k + 1)))) ∧ Kp (fun q => q = tb ∨ W3.heap.size ≤ q) W3 (w5.setCell ⟨tb, 4, none⟩ (.slice A5 (k + 1) c5))) := by
          have hks : Kp (fun q => q = tb) w5 (w5.setCell ⟨tb, 4, none⟩ (.slice A5 (k + 1) c5)) := Kp.setCell (S := fun q => q = tb) (p := ⟨tb, 4, none⟩) (Kp.refl _ _) (Eq.refl tb) _
          refine ⟨set_here hj5, ?_, (hkp.trans hk5).trans (hks.mono fun q h => .inl h)⟩
          rw [HST.out]
          refine own_kept hown5 fun q hq ho => hks.block q hq ?_
          have := own_ge hown5 q ho
          have := HZ3.out; have := HTB.out
          intro e
          omega
        have HR5 := Lib.hid hrun
        clear hrun hown5 hg5 hown3 hrd hk5 keep hj5 hj hown hkp hx p2 p3 hbr
        go_wp2_with (at_builtin; refine wpList_append_run rfl _ _ _ rfl _ _ _ _ rfl rfl HR5.out ?_)
        obtain ⟨f1, f2, f3⟩ := HEND.out
        exact ⟨⟨k + 1, A5, c5, by omega, by go_num, f1, f2, f3⟩, by simp [intOf]; omega⟩
      · obtain rfl : k = n := by omega
        rw [List.take_of_length_le (Nat.le_of_eq HL.out)] at hown
        obtain ⟨g0, g1, g2, g3, g4, g5⟩ := six_cells hj
        have kk := Lib.hid (HCK.out A' c' wr.heap.size wr (rd_of_own hown) (Nat.le_refl _))
        have HBR := Lib.hid hbr
        have HJ := Lib.hid hj
        have HOW := Lib.hid hown
        clear hj hown hkp hbr
        go_wp2_with fail
        refine kk.out.mono ?_
        rintro e w6 ⟨rfl, hb6⟩
        have hr6 : JAt w6 (w.heap.size + 1) zeroJ none 0 0 := by
          have h1 : JAt wr (w.heap.size + 1) zeroJ none 0 0 := (HBR.out.block _ (lt_of_blk HR1.out)).trans HR1.out
          exact (hb6.block _ (lt_of_blk h1)).trans h1
        have hj6 : JAt w6 tb (revJ j id per) A' k c' := (hb6.block _ (lt_of_blk HJ.out)).trans HJ.out
        obtain ⟨y0, y1, y2, y3, y4, y5⟩ := six_cells hr6
        have yf := fun o => warm_of hr6 o
        obtain ⟨g0, g1, g2, g3, g4, g5⟩ := six_cells hj6
        have HO6 : Hid (w6.ownsRow W3.heap.size 40 3 (.slice A' k c') k (lins (turnL j.lines))) := own_kept HOW.out fun q hq _ => hb6.block q hq
        have HBE : Hid (Below w.heap.size w w6) := HB2.out.trans ((HB2r.out.trans (hb6.mono HB2r.out.size)).mono HB2.out.size)
        clear hb6 hr6 hj6 kk HCK
        by_cases hE2 : checkE (revJ j id per) = 0
        · have hE0 := HE.out.trans hE2
          have HVV := Lib.hid (HV.out hE0)
          have HE0 := Lib.hid hE0
          rw [hE2]
          clear hE0 hE2
          go_wp2_with fail
          refine bodyPost_ret (v := .tuple #[.agg #[.int .i64 (revJ j id per).id, .int .i64 (revJ j id per).ent, .int .i64 (revJ j id per).per, .string (revJ j id per).ref, .slice A' k c', .bool (revJ j id per).void], .int .i64 0]) (by simp [results, Try.results86, go_sem, y0, y1, y2, y3, y4, y5]) rfl ?_
          unfold RevEnd
          rw [HVV.out, HE0.out]
          exact ⟨A', k, c', rfl, own_base (own_six HO6.out (by have := HZ3.out; omega) _ _ _ _ _ _) (by have := HZ3.out; omega), below_six HBE.out (Nat.le_succ _) _ _ _ _ _ _⟩
        · have hEE := HE.out
          have HNE := Lib.hid hE2
          generalize checkE (revJ j id per) = E2 at *
          have t1 : (E2 != 0) = true := by simpa using hE2
          clear hE2
          go_wp2_with fail
          refine bodyPost_ret (v := .tuple #[.agg #[.int .i64 0, .int .i64 0, .int .i64 0, .string ⟨#[]⟩, .slice none 0 0, .bool false], .int .i64 E2]) (by simp [results, Try.results86, go_sem, y0, y1, y2, y3, y4, y5]) rfl (RevEnd.no hEE HNE.out rfl ?_)
          exact below_six HBE.out (Nat.le_succ _) _ _ _ _ _ _
end Go.Proofs.Ythjpknipnmagkaa

