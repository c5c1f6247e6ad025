/-
  Several texts, one behind the other: what each holds stands ahead of it.
-/
import Derived.Test.YtjlokkjbdgcooaaGreatMany16
import Derived.Test.YtjlokkjbdgcooaaGreatMany11
import Derived.Test.YtjlokkjbdgcooaaGreatMany14
import Derived.Test.YtjlokkjbdgcooaaGreatMany15

/-
  Contract of entry.Reverse.
-/
namespace Go.Proofs.YtjlokkjbdgcooaaGreat
open Go.RowKit Go.Sort

/-- What Reverse leaves. -/
def RevEnd (w : World) (j : Jrn) (id per : Int) (e : Ending) (w' : World) : Prop :=
  ∃ A n c, e = .returned (.tuple #[.agg #[.int .i64 (revV j id per).id, .int .i64 (revV j id per).ent, .int .i64 (revV j id per).per, .string (revV j id per).ref, .slice A n c, .bool (revV j id per).void], .int .i64 (revE j id per)]) ∧ w'.ownsRow w.heap.size 113 3 (.slice A n c) n (lins (revV j id per).lines) ∧ Below w.heap.size w w'
theorem RevEnd.no {w w' : World} {j : Jrn} {id per E : Int} {e : Ending} (hE : revE j id per = E) (h : E ≠ 0) (he : e = .returned (.tuple #[.agg #[.int .i64 0, .int .i64 0, .int .i64 0, .string ⟨#[]⟩, .slice none 0 0, .bool false], .int .i64 E])) (hb : Below w.heap.size w w') : RevEnd w j id per e w' := by
  unfold RevEnd revV
  rw [hE, if_neg h]
  exact ⟨none, 0, 0, he, World.ownsRow_nil _ _ _ _, hb⟩

set_option maxRecDepth 100000 in
set_option maxHeartbeats 4000000 in
theorem reverse_any (j : Jrn) (A : Option Addr) (n c B : Nat) (id per : Int) (w : World) (h : Rd w B 3 A n (lins j.lines)) (hB : B ≤ w.heap.size) (hn : n ≤ maxLen) (hs : j.ref.size ≤ maxLen) :
    Calls Tryz.prog 181 #[j.val A n c, .int .i64 id, .int .i64 per] w (RevEnd w j id per) := by
  have HL := Lib.hid h.lins_len
  obtain ⟨W2, hW2⟩ : ∃ W2, (w.alloc (.cells #[.int .i64 j.id, .int .i64 j.ent, .int .i64 j.per, .string j.ref, .slice A n c, .bool j.void] 111)).alloc (.cells #[.int .i64 0, .int .i64 0, .int .i64 0, .string ⟨#[]⟩, .slice none 0 0, .bool false] 111) = W2 := ⟨_, rfl⟩
  have hb2 : Below w.heap.size w W2 := by rw [← hW2]; exact ((Below.refl _ _).alloc (Nat.le_refl _) _).alloc (by simp) _
  have hz2 : W2.heap.size = w.heap.size + 2 := by rw [← hW2]; simp
  have hbox : JAt W2 w.heap.size j A n c := by
    rw [← hW2]
    exact (Below.heap_alloc _ _ _ (by simp)).trans (heap_new w _)
  have hres : JAt W2 (w.heap.size + 1) zeroJ none 0 0 := by
    rw [← hW2]
    have := heap_new (w.alloc (.cells #[.int .i64 j.id, .int .i64 j.ent, .int .i64 j.per, .string j.ref, .slice A n c, .bool j.void] 111)) (.cells #[.int .i64 0, .int .i64 0, .int .i64 0, .string ⟨#[]⟩, .slice none 0 0, .bool false] 111)
    rw [show (w.alloc (.cells #[.int .i64 j.id, .int .i64 j.ent, .int .i64 j.per, .string j.ref, .slice A n c, .bool j.void] 111)).heap.size = w.heap.size + 1 by simp] at this
    exact this
  have kc := Lib.hid (check_any j A n c B W2 (h.far hb2 hB) (Nat.le_trans hB hb2.size) hn hs)
  have HR : Hid (∀ w1, Below W2.heap.size W2 w1 → Rd w1 B 3 A n (lins j.lines)) := fun w1 hb => h.far (hb2.trans (hb.mono hb2.size)) hB
  have HW2 := Lib.hid hW2
  have HB2 := Lib.hid hb2
  have HBOX := Lib.hid hbox
  have HRES := Lib.hid hres
  have HZ2 := Lib.hid hz2
  clear hW2 hb2 hbox hres h hz2
  by_cases hE : checkE j = 0
  rotate_left
  · have HE : Hid (revE j id per = checkE j) := by unfold Hid revE; rw [if_neg hE]
    have hEE := hE
    unfold Jrn.val at *
    generalize checkE j = E at *
    have t1 : (E != 0) = true := by simpa using hE
    clear hE
    go_enter Tryz.func181, Tryz.ntmps181
    go_wp2_with fail
    rw [HW2.out]
    refine kc.out.mono ?_
    rintro e w1 ⟨rfl, hb⟩
    have hr1 : JAt w1 (w.heap.size + 1) zeroJ none 0 0 := (hb.block _ (lt_of_blk HRES.out)).trans HRES.out
    obtain ⟨y0, y1, y2, y3, y4, y5⟩ := six_cells hr1
    have yf := fun o => warm_of hr1 o
    have HB1 : Hid (Below w.heap.size w w1) := HB2.out.trans (hb.mono HB2.out.size)
    clear hb hr1
    go_wp2_with fail
    refine bodyPost_ret (v := .tuple #[.agg #[.int .i64 0, .int .i64 0, .int .i64 0, .string ⟨#[]⟩, .slice none 0 0, .bool false], .int .i64 E]) (by simp [results, Tryz.results181, go_sem, y0, y1, y2, y3, y4, y5]) rfl (RevEnd.no HE.out hEE rfl ?_)
    exact below_six HB1.out (Nat.le_succ _) _ _ _ _ _ _
  · obtain ⟨_, hLn, hfit, _⟩ := checkE_ok hE
    have HE : Hid (revE j id per = checkE (revJ j id per)) := by unfold Hid revE; rw [if_pos hE]
    have HF := Lib.hid hfit
    have hn8 := (linesOk_len hLn).2
    rw [HL.out] at hn8
    rw [hE] at kc
    have HCK : Hid (∀ (A' : Option Addr) (c' B' : Nat) (w1 : World), Rd w1 B' 3 A' n (lins (turnL j.lines)) → B' ≤ w1.heap.size → Calls Tryz.prog 138 #[.agg #[.int .i64 id, .int .i64 j.ent, .int .i64 per, .string ⟨#[]⟩, .slice A' n c', .bool false]] w1 fun e w' => e = .returned (.int .i64 (checkE (revJ j id per))) ∧ Below w1.heap.size w1 w') := fun A' c' B' w1 h1 h2 => check_any (revJ j id per) A' n c' B' w1 h1 h2 hn (by show (0 : Nat) ≤ _; exact Nat.zero_le _)
    have HV : Hid (revE j id per = 0 → revV j id per = revJ j id per) := by intro h0; unfold revV; rw [if_pos h0]
    clear hfit hLn hE
    unfold Jrn.val at *
    have z0 : ((0 : Int) != 0) = false := rfl
    go_enter Tryz.func181, Tryz.ntmps181
    go_wp2_with fail
    rw [HW2.out]
    refine kc.out.mono ?_
    rintro e w1 ⟨rfl, hb⟩
    have hx1 : JAt w1 w.heap.size j A n c := (hb.block _ (lt_of_blk HBOX.out)).trans HBOX.out
    have hr1 : JAt w1 (w.heap.size + 1) zeroJ none 0 0 := (hb.block _ (lt_of_blk HRES.out)).trans HRES.out
    obtain ⟨b0, b1, b2, b3, b4, b5⟩ := six_cells hx1
    have hlt1 : w.heap.size + 1 < w1.heap.size := lt_of_blk hr1
    have hlt0 : w.heap.size < w1.heap.size := by omega
    have HB1 := Lib.hid hb
    have HR1 := Lib.hid hr1
    clear hb hr1 kc
    go_wp2_with fail
    clear b0 b1 b2 b3 b4 b5
    obtain ⟨W3, hW3⟩ : ∃ W3, w1.alloc (.cells #[.int .i64 id, .int .i64 j.ent, .int .i64 per, .string ⟨#[]⟩, .slice none 0 0, .bool false] 111) = W3 := ⟨_, rfl⟩
    rw [hW3]
    have hz3 : W3.heap.size = w1.heap.size + 1 := by rw [← hW3]; simp
    have hb3 : Below w1.heap.size w1 W3 := by rw [← hW3]; exact (Below.refl _ _).alloc (Nat.le_refl _) _
    have hj3 : JAt W3 w1.heap.size (revJ j id per) none 0 0 := by rw [← hW3]; exact heap_new w1 _
    obtain ⟨tb, htb⟩ : ∃ tb, w1.heap.size = tb := ⟨_, rfl⟩
    rw [htb] at hj3 ⊢
    have HJ3 := Lib.hid hj3
    have HB3 := Lib.hid hb3
    have HZ3 := Lib.hid hz3
    have HTB := Lib.hid htb
    clear hW3 hb3 hj3 hz3 htb hx1
    go_loopw [27, 11] (fun iv _ wr => ∃ (k : Nat) (A' : Option Addr) (c' : Nat), k ≤ n ∧ iv = .int .i64 k ∧ JAt wr tb (revJ j id per) A' k c' ∧ wr.ownsRow W3.heap.size 113 3 (.slice A' k c') k (lins (turnL (j.lines.take k))) ∧ Kp (fun q => q = tb ∨ W3.heap.size ≤ q) W3 wr) (fun iv _ _ => n - (intOf iv).toNat)
    case atStart => exact ⟨0, none, 0, Nat.zero_le _, rfl, HJ3.out, World.ownsRow_nil _ _ _ _, Kp.refl _ _⟩
    case round =>
      obtain ⟨k, A', c', hk, rfl, hj, hown, hkp⟩ := hrel
      have hzr := hkp.size
      have hbr : Below w1.heap.size w1 wr := HB3.out.trans (hkp.below (by rintro q (rfl | hq) <;> (have := HZ3.out; have := HTB.out; omega)) (by have := HZ3.out; omega))
      have HB2r : Hid (Below W2.heap.size W2 wr) := HB1.out.trans (hbr.mono HB1.out.size)
      by_cases hlt : k < n
      · obtain ⟨ad, x, rfl, hbk, hx, p1, p2, p3⟩ := (HR.out wr HB2r.out).lin hlt
        have hkn : (k : Int) < (n : Int) := by omega
        have p2' := cell_behind p2 (by omega)
        have p3' := cell_behind p3 (by omega)
        have hfx := fits1_iff.1 (List.all_eq_true.1 HF.out x (List.mem_of_getElem? hx))
        have HST := Lib.hid (turnL_step hx)
        have d4 := cell_of hj 4
        simp only [List.getElem?_toArray, List.getElem?_cons_zero, List.getElem?_cons_succ] at d4
        have htl : tb < wr.heap.size := lt_of_blk hj
        obtain ⟨x1, x2, x3⟩ := x
        dsimp only at *
        have hown3 : ((wr.alloc (.cells #[.int .i64 x1, .int .i64 (-x2), .int .i64 x3] 113)).alloc (.cells #[.int .i64 x1, .int .i64 (-x2), .int .i64 x3] 113)).ownsRow W3.heap.size 113 3 (.slice A' k c') k (lins (turnL (j.lines.take k))) := own_kept hown fun q hq _ => (Below.heap_alloc _ _ _ (by simp; omega)).trans (Below.heap_alloc _ _ _ hq)
        have hrd : Rd ((wr.alloc (.cells #[.int .i64 x1, .int .i64 (-x2), .int .i64 x3] 113)).alloc (.cells #[.int .i64 x1, .int .i64 (-x2), .int .i64 x3] 113)) (wr.heap.size + 2) 3 (some ⟨wr.heap.size + 1, 0, none⟩) 1 (lins [⟨x1, -x2, x3⟩]) := by
          have := cells_new (wr.alloc (.cells #[.int .i64 x1, .int .i64 (-x2), .int .i64 x3] 113)) [.int .i64 x1, .int .i64 (-x2), .int .i64 x3] 113
          rw [show (wr.alloc (.cells #[.int .i64 x1, .int .i64 (-x2), .int .i64 x3] 113)).heap.size = wr.heap.size + 1 by simp] at this
          exact ⟨rfl, fun _ => ⟨_, rfl, by simp, this⟩⟩
        obtain ⟨v5, w5, hrun, hown5, hg5, _⟩ := append_fresh (P := Tryz.prog) (ty := 109) (c := 1) infoLin Tryz.underlying109 rfl (by omega) W3.heap.size _ k _ hown3 hrd (linsOne _) (by unfold maxLen; omega) (by omega) (by simp; omega)
        rw [← lins_append] at hown5
        obtain ⟨A5, c5, rfl⟩ := own_form hown5
        have keep : ∀ q, q < wr.heap.size → (q = tb ∨ q < W3.heap.size) → w5.heap[q]? = wr.heap[q]? := fun q hq hq2 => by
          have hno : ¬ some q = (Value.slice A' k c').ownBlock := fun e => by
            have := own_ge hown3 q e.symm
            have := HZ3.out; have := HTB.out
            omega
          have h1 := hg5.block q (by simp; omega) hno
          exact h1.trans ((Below.heap_alloc _ _ _ (by simp; omega)).trans (Below.heap_alloc _ _ _ hq))
        have hj5 : JAt w5 tb (revJ j id per) A' k c' := (keep tb htl (.inl rfl)).trans hj
        have f4 := warm_of hj5 4
        have e4 := cell_of hj5 4
        simp only [List.getElem?_toArray, List.getElem?_cons_zero, List.getElem?_cons_succ] at e4
        have hk5 : Kp (fun q => q = tb ∨ W3.heap.size ≤ q) wr w5 := (((Kp.refl _ wr).alloc _).alloc _).trans (Kp.grown hg5 fun q hq => .inr (own_ge hown3 q hq))
        have HEND : Hid (JAt (w5.setCell ⟨tb, 4, none⟩ (.slice A5 (k + 1) c5)) tb (revJ j id per) A5 (k + 1) c5 ∧ (w5.setCell ⟨tb, 4, none⟩ (.slice A5 (k + 1) c5)).ownsRow W3.heap.size 113 3 (.slice A5 (k + 1) c5) (k + 1) (lins (turnL (j.lines.take (k + 1)))) ∧ Kp (fun q => q = tb ∨ W3.heap.size ≤ q) W3 (w5.setCell ⟨tb, 4, none⟩ (.slice A5 (k + 1) c5))) := by
          have hks : Kp (fun q => q = tb) w5 (w5.setCell ⟨tb, 4, none⟩ (.slice A5 (k + 1) c5)) := Kp.setCell (S := fun q => q = tb) (p := ⟨tb, 4, none⟩) (Kp.refl _ _) (Eq.refl tb) _
          refine ⟨set_here hj5, ?_, (hkp.trans hk5).trans (hks.mono fun q h => .inl h)⟩
          rw [HST.out]
          refine own_kept hown5 fun q hq ho => hks.block q hq ?_
          have := own_ge hown5 q ho
          have := HZ3.out; have := HTB.out
          intro e
          omega
        have HR5 := Lib.hid hrun
        clear hrun hown5 hg5 hown3 hrd hk5 keep hj5 hj hown hkp hx p2 p3 hbr
        go_wp2_with (at_builtin; refine wpList_append_run rfl _ _ _ rfl _ _ _ _ rfl rfl HR5.out ?_)
        obtain ⟨f1, f2, f3⟩ := HEND.out
        exact ⟨⟨k + 1, A5, c5, by omega, by go_num, f1, f2, f3⟩, by simp [intOf]; omega⟩
      · obtain rfl : k = n := by omega
        rw [List.take_of_length_le (Nat.le_of_eq HL.out)] at hown
        obtain ⟨g0, g1, g2, g3, g4, g5⟩ := six_cells hj
        have kk := Lib.hid (HCK.out A' c' wr.heap.size wr (rd_of_own hown) (Nat.le_refl _))
        have HBR := Lib.hid hbr
        have HJ := Lib.hid hj
        have HOW := Lib.hid hown
        clear hj hown hkp hbr
        go_wp2_with fail
        refine kk.out.mono ?_
        rintro e w6 ⟨rfl, hb6⟩
        have hr6 : JAt w6 (w.heap.size + 1) zeroJ none 0 0 := by
          have h1 : JAt wr (w.heap.size + 1) zeroJ none 0 0 := (HBR.out.block _ (lt_of_blk HR1.out)).trans HR1.out
          exact (hb6.block _ (lt_of_blk h1)).trans h1
        have hj6 : JAt w6 tb (revJ j id per) A' k c' := (hb6.block _ (lt_of_blk HJ.out)).trans HJ.out
        obtain ⟨y0, y1, y2, y3, y4, y5⟩ := six_cells hr6
        have yf := fun o => warm_of hr6 o
        obtain ⟨g0, g1, g2, g3, g4, g5⟩ := six_cells hj6
        have HO6 : Hid (w6.ownsRow W3.heap.size 113 3 (.slice A' k c') k (lins (turnL j.lines))) := own_kept HOW.out fun q hq _ => hb6.block q hq
        have HBE : Hid (Below w.heap.size w w6) := HB2.out.trans ((HB2r.out.trans (hb6.mono HB2r.out.size)).mono HB2.out.size)
        clear hb6 hr6 hj6 kk HCK
        by_cases hE2 : checkE (revJ j id per) = 0
        · have hE0 := HE.out.trans hE2
          have HVV := Lib.hid (HV.out hE0)
          have HE0 := Lib.hid hE0
          rw [hE2]
          clear hE0 hE2
          go_wp2_with fail
          refine bodyPost_ret (v := .tuple #[.agg #[.int .i64 (revJ j id per).id, .int .i64 (revJ j id per).ent, .int .i64 (revJ j id per).per, .string (revJ j id per).ref, .slice A' k c', .bool (revJ j id per).void], .int .i64 0]) (by simp [results, Tryz.results181, go_sem, y0, y1, y2, y3, y4, y5]) rfl ?_
          unfold RevEnd
          rw [HVV.out, HE0.out]
          exact ⟨A', k, c', rfl, own_base (own_six HO6.out (by have := HZ3.out; omega) _ _ _ _ _ _) (by have := HZ3.out; omega), below_six HBE.out (Nat.le_succ _) _ _ _ _ _ _⟩
        · have hEE := HE.out
          have HNE := Lib.hid hE2
          generalize checkE (revJ j id per) = E2 at *
          have t1 : (E2 != 0) = true := by simpa using hE2
          clear hE2
          go_wp2_with fail
          refine bodyPost_ret (v := .tuple #[.agg #[.int .i64 0, .int .i64 0, .int .i64 0, .string ⟨#[]⟩, .slice none 0 0, .bool false], .int .i64 E2]) (by simp [results, Tryz.results181, go_sem, y0, y1, y2, y3, y4, y5]) rfl (RevEnd.no hEE HNE.out rfl ?_)
          exact below_six HBE.out (Nat.le_succ _) _ _ _ _ _ _
end Go.Proofs.YtjlokkjbdgcooaaGreat

/-
  Contract of plan's (Template).accrue.
-/
namespace Go.Proofs.YtjlokkjbdgcooaaGreat
open Go.RowKit Go.Sort

def accJ (t : Tpl) (per id : Int) : Jrn := ⟨id, t.ent, per, ⟨#[]⟩, [⟨t.deb, t.amt, 0⟩, ⟨t.cre, -t.amt, 0⟩], false⟩
def accE (t : Tpl) (per id : Int) : Int := if per < 1199 then revE (accJ t per id) (id + 1) (per + 1) else 0
def accL (t : Tpl) (per id : Int) : List Jrn := accJ t per id :: if per < 1199 then [revJ (accJ t per id) (id + 1) (per + 1)] else []
/-- Journals that were made, or an error. -/
def MadeJs (w : World) (E : Int) (js : List Jrn) (e : Ending) (w' : World) : Prop :=
  Below w.heap.size w w' ∧ ((E ≠ 0 ∧ ∃ A n c, e = .returned (.tuple #[.slice A n c, .int .i64 E])) ∨ (E = 0 ∧ ∃ A c l, e = .returned (.tuple #[.slice A (List.length l) c, .int .i64 0]) ∧ l.map JR.j = js ∧ OwnJl w' w.heap.size A (List.length l) c l))
theorem own_form' {w : World} {B : Nat} {a : JR} (h : w.ownsRow B 113 3 a.lv a.j.lines.length (lins a.j.lines)) : w.ownsRow B 113 3 (.slice a.A a.j.lines.length a.c) a.j.lines.length (lins a.j.lines) := h
theorem own_one {w : World} {B : Nat} {a : JR} (h : w.ownsRow B 113 3 a.lv a.j.lines.length (lins a.j.lines)) (hB : B ≤ w.heap.size) :
    OwnJl (w.alloc (.cells a.cells.toArray 111)) B (some ⟨w.heap.size, 0, none⟩) 1 1 [a] := by
  refine ⟨?_, fun b hb => ?_⟩
  · exact ⟨by simp [jrs, JR.cells], .inr ⟨w.heap.size, 1, _, rfl, hB, heap_new w _, Nat.le_refl _, by unfold maxLen; omega, by simp [JR.cells], by simp [jrs, JR.cells]⟩⟩
  · obtain rfl : b = a := by simpa using hb
    exact own_kept h fun k hk _ => Below.heap_alloc _ _ _ hk
theorem own_two {w : World} {B : Nat} {a b : JR} (h : w.ownsRow B 113 3 a.lv a.j.lines.length (lins a.j.lines)) (h2 : w.ownsRow B 113 3 b.lv b.j.lines.length (lins b.j.lines)) (hB : B ≤ w.heap.size) :
    OwnJl (w.alloc (.cells (a.cells ++ b.cells).toArray 111)) B (some ⟨w.heap.size, 0, none⟩) 2 2 [a, b] := by
  refine ⟨?_, fun x hx => ?_⟩
  · exact ⟨by simp [jrs, JR.cells], .inr ⟨w.heap.size, 2, _, rfl, hB, heap_new w _, Nat.le_refl _, by unfold maxLen; omega, by simp [JR.cells], by simp [jrs, JR.cells]⟩⟩
  · have : x = a ∨ x = b := by simpa using hx
    rcases this with rfl | rfl
    · exact own_kept h fun k hk _ => Below.heap_alloc _ _ _ hk
    · exact own_kept h2 fun k hk _ => Below.heap_alloc _ _ _ hk

set_option maxRecDepth 100000 in
set_option maxHeartbeats 4000000 in
theorem accrue_any (t : Tpl) (per id : Int) (w : World) (ha : 1 ≤ t.amt ∧ t.amt ≤ 1000000000000000) (hp : okP per = true) (hid : -4611686018427387904 ≤ id ∧ id ≤ 4611686018427387904) :
    Calls Tryz.prog 130 #[.agg t.cells.toArray, .int .i64 per, .int .i64 id] w (MadeJs w (accE t per id) (accL t per id)) := by
  obtain ⟨W, hW⟩ : ∃ W, w.alloc (.cells t.cells.toArray 24) = W := ⟨_, rfl⟩
  have hbW : Below w.heap.size w W := by rw [← hW]; exact (Below.refl _ _).alloc (Nat.le_refl _) _
  have hzW : W.heap.size = w.heap.size + 1 := by rw [← hW]; simp
  have hx : TplAt W w.heap.size t := by rw [← hW]; exact heap_new w _
  obtain ⟨W1, hW1⟩ : ∃ W1, W.alloc (.cells #[.int .i64 t.deb, .int .i64 t.amt, .int .i64 0] 113) = W1 := ⟨_, rfl⟩
  have hb1 : Below W.heap.size W W1 := by rw [← hW1]; exact (Below.refl _ _).alloc (Nat.le_refl _) _
  have hz1 : W1.heap.size = W.heap.size + 1 := by rw [← hW1]; simp
  have ho1 : W1.ownsRow w.heap.size 113 3 (.slice (some ⟨W.heap.size, 0, none⟩) 1 1) 1 (lins [⟨t.deb, t.amt, 0⟩]) := by
    rw [← hW1]
    exact ⟨by simp [lins, Lin.cells], .inr ⟨W.heap.size, 1, _, rfl, by omega, heap_new W _, Nat.le_refl _, by unfold maxLen; omega, by simp, by simp [lins, Lin.cells]⟩⟩
  have kj := Lib.hid (journal_any t per id _ 1 w.heap.size _ W1 ho1 (by omega) (by omega) ha)
  have HB1 : Hid (Below w.heap.size w W1) := hbW.trans (hb1.mono hbW.size)
  have HX1 : Hid (TplAt W1 w.heap.size t) := hx.below hb1
  have HW := Lib.hid hW; have HW1 := Lib.hid hW1; have HZ1 : Hid (w.heap.size + 1 + 1 = W1.heap.size) := by unfold Hid; omega
  have HZW := Lib.hid hzW
  have hp2 := okP_t hp
  have ks := Lib.hid (fun w1 => shift_any per 1 w1 (by omega) (by omega))
  have HOKS : Hid (okS per 1 = decide (per < 1199)) := by unfold Hid okS; rw [hp, Bool.eq_iff_iff]; simp; omega
  obtain ⟨⟨x0, x1, x2, x3, x4, x5⟩, x6, x7, x8, x9, x10, x11⟩ := tpl_cells hx
  clear hW hbW hx hb1 ho1 hW1 hz1 hp hzW
  unfold Tpl.cells at *
  go_enter Tryz.func130, Tryz.ntmps130
  go_wp2_with fail
  rw [HW.out]
  rw [HW1.out]
  rw [HZW.out] at kj
  refine kj.out.mono ?_
  rintro e w2 ⟨A, c, rfl, hown2, hb2⟩
  have HO2 : Hid (w2.ownsRow w.heap.size 113 3 (JR.mk (accJ t per id) A c).lv (JR.mk (accJ t per id) A c).j.lines.length (lins (JR.mk (accJ t per id) A c).j.lines)) := hown2
  have HB2 : Hid (Below w.heap.size w w2) := HB1.out.trans hb2
  obtain ⟨W3, hW3⟩ : ∃ W3, w2.alloc (.cells #[.int .i64 id, .int .i64 t.ent, .int .i64 per, .string ⟨#[]⟩, .slice A 2 c, .bool false] 111) = W3 := ⟨_, rfl⟩
  have hb3 : Below w2.heap.size w2 W3 := by rw [← hW3]; exact (Below.refl _ _).alloc (Nat.le_refl _) _
  have HJ3 : Hid (JAt W3 w2.heap.size (accJ t per id) A 2 c) := by rw [← hW3]; exact heap_new w2 _
  have HW3 := Lib.hid hW3
  have HB3 := Lib.hid hb3
  have hz2 := HB2.out.size
  clear hown2 hb2 hW3 hb3 kj x0 x1 x2 x3 x4 x5 x6 x7 x8 x9 x10 x11
  go_wp2_with fail
  rw [HW3.out]
  refine (ks.out _).mono ?_
  rintro e w4 ⟨rfl, hb4⟩
  have HB24 : Hid (Below w2.heap.size w2 w4) := HB3.out.trans (hb4.mono HB3.out.size)
  have HB4 : Hid (Below w.heap.size w w4) := HB2.out.trans (HB24.out.mono HB2.out.size)
  have hj4 : JAt w4 w2.heap.size (accJ t per id) A 2 c := (hb4.block _ (lt_of_blk HJ3.out)).trans HJ3.out
  have HO4 : Hid (w4.ownsRow w.heap.size 113 3 (JR.mk (accJ t per id) A c).lv (JR.mk (accJ t per id) A c).j.lines.length (lins (JR.mk (accJ t per id) A c).j.lines)) := own_kept HO2.out fun k hk _ => HB24.out.block k hk
  obtain ⟨b0, b1, b2, b3, b4, b5⟩ := six_cells hj4
  have HJ4 := Lib.hid hj4
  clear hb4 hj4 ks
  by_cases hlt : per < 1199
  rotate_left
  · have hE : shiftE per 1 = 1 := by unfold shiftE; rw [HOKS.out, decide_eq_false hlt]; rfl
    have hA : accE t per id = 0 := by unfold accE; rw [if_neg hlt]
    have hL : accL t per id = [accJ t per id] := by unfold accL; rw [if_neg hlt]
    rw [hE]
    have HA := Lib.hid hA; have HL := Lib.hid hL
    have HLT := Lib.hid hlt
    unfold accJ at b0 b1 b2 b3 b5
    dsimp only at b0 b1 b2 b3 b5
    clear hE hA hL hlt
    go_wp2_with fail
    go_ret2
    refine ⟨HB4.out.alloc HB4.out.size _, .inr ⟨HA.out, some ⟨w4.heap.size, 0, none⟩, 1, [JR.mk (accJ t per id) A c], rfl, HL.out.symm, own_one HO4.out HB4.out.size⟩⟩
  · have hE : shiftE per 1 = 0 := by unfold shiftE; rw [HOKS.out, decide_eq_true hlt]; rfl
    have hV : shiftV per 1 = per + 1 := by unfold shiftV; rw [HOKS.out, decide_eq_true hlt]; rfl
    have hA : accE t per id = revE (accJ t per id) (id + 1) (per + 1) := by unfold accE; rw [if_pos hlt]
    have hL : accL t per id = [accJ t per id, revJ (accJ t per id) (id + 1) (per + 1)] := by unfold accL; rw [if_pos hlt]
    have hrd := rd_of_own (own_form' HO4.out)
    have kr := Lib.hid (reverse_any (accJ t per id) A 2 c w4.heap.size (id + 1) (per + 1) w4 hrd (Nat.le_refl _) (by unfold maxLen; omega) (Nat.zero_le _))
    have hwr : wrap64 (id + 1) = id + 1 := by unfold wrap64; omega
    rw [hE, hV]
    have HA := Lib.hid hA; have HL := Lib.hid hL
    have HLT := Lib.hid hlt
    unfold Jrn.val at kr
    have HRV : Hid (revE (accJ t per id) (id + 1) (per + 1) = 0 → revV (accJ t per id) (id + 1) (per + 1) = revJ (accJ t per id) (id + 1) (per + 1)) := fun h => by unfold revV; rw [if_pos h]
    clear hE hV hA hL hlt hrd
    unfold accJ at b0 b1 b2 b3 b5 kr
    dsimp only at b0 b1 b2 b3 b5 kr
    go_wp2_with fail
    refine kr.out.mono ?_
    rintro e w5 ⟨A5, n5, c5, he5, hown5, hb5⟩
    have hnl : (revV (accJ t per id) (id + 1) (per + 1)).lines.length = n5 := by have := hown5.1; rw [lins_len] at this; exact Nat.eq_of_mul_eq_mul_right (by omega) this
    subst hnl
    have he6 : e = .returned (.tuple #[.agg #[.int .i64 (revV (accJ t per id) (id + 1) (per + 1)).id, .int .i64 (revV (accJ t per id) (id + 1) (per + 1)).ent, .int .i64 (revV (accJ t per id) (id + 1) (per + 1)).per, .string (revV (accJ t per id) (id + 1) (per + 1)).ref, .slice A5 (revV (accJ t per id) (id + 1) (per + 1)).lines.length c5, .bool (revV (accJ t per id) (id + 1) (per + 1)).void], .int .i64 (revE (accJ t per id) (id + 1) (per + 1))]) := he5
    have HO5 : Hid (w5.ownsRow w4.heap.size 113 3 (JR.mk (revV (accJ t per id) (id + 1) (per + 1)) A5 c5).lv (JR.mk (revV (accJ t per id) (id + 1) (per + 1)) A5 c5).j.lines.length (lins (JR.mk (revV (accJ t per id) (id + 1) (per + 1)) A5 c5).j.lines)) := hown5
    have HOA : Hid (w5.ownsRow w.heap.size 113 3 (JR.mk (accJ t per id) A c).lv (JR.mk (accJ t per id) A c).j.lines.length (lins (JR.mk (accJ t per id) A c).j.lines)) := own_kept HO4.out fun k hk _ => hb5.block k hk
    have HB5 : Hid (Below w.heap.size w w5) := HB4.out.trans (hb5.mono HB4.out.size)
    have HJ5 : Hid (JAt w5 w2.heap.size (accJ t per id) A 2 c) := (hb5.block _ (lt_of_blk HJ4.out)).trans HJ4.out
    subst he6
    clear hown5 hb5 he5 kr b0 b1 b2 b3 b4 b5
    generalize revV (accJ t per id) (id + 1) (per + 1) = RV at *
    generalize revE (accJ t per id) (id + 1) (per + 1) = RE at *
    obtain ⟨W6, hW6⟩ : ∃ W6, w5.alloc (.cells #[.int .i64 RV.id, .int .i64 RV.ent, .int .i64 RV.per, .string RV.ref, .slice A5 RV.lines.length c5, .bool RV.void] 111) = W6 := ⟨_, rfl⟩
    have hb6 : Below w5.heap.size w5 W6 := by rw [← hW6]; exact (Below.refl _ _).alloc (Nat.le_refl _) _
    have HB6 : Hid (Below w.heap.size w W6) := HB5.out.trans (hb6.mono HB5.out.size)
    have HOB6 : Hid (W6.ownsRow w.heap.size 113 3 (JR.mk RV A5 c5).lv (JR.mk RV A5 c5).j.lines.length (lins (JR.mk RV A5 c5).j.lines)) := own_base (own_kept HO5.out fun k hk _ => hb6.block k hk) HB4.out.size
    have HOA6 : Hid (W6.ownsRow w.heap.size 113 3 (JR.mk (accJ t per id) A c).lv (JR.mk (accJ t per id) A c).j.lines.length (lins (JR.mk (accJ t per id) A c).j.lines)) := own_kept HOA.out fun k hk _ => hb6.block k hk
    have HZ6 : Hid (W6.heap.size = w5.heap.size + 1) := by rw [← hW6]; simp [Hid]
    have HW6 := Lib.hid hW6
    have HAL : Hid (∀ a v, w5.cell? a = some v → ∀ o, (w5.alloc o).cell? a = some v) := fun a v hv o => (((Below.refl w5.heap.size w5).alloc (Nat.le_refl _) o).cell (block_of_cell hv)).trans hv
    obtain ⟨b0, b1, b2, b3, b4, b5⟩ := six_cells HJ5.out
    replace b0 := HAL.out _ _ b0; replace b1 := HAL.out _ _ b1; replace b2 := HAL.out _ _ b2; replace b3 := HAL.out _ _ b3; replace b4 := HAL.out _ _ b4; replace b5 := HAL.out _ _ b5
    unfold accJ at b0 b1 b2 b3 b5
    dsimp only at b0 b1 b2 b3 b5
    clear hW6 hb6
    by_cases hv : RE = 0
    · subst hv
      have HR2 := Lib.hid (HRV.out rfl)
      go_wp2_with fail
      rw [HW6.out]
      go_ret2
      refine ⟨HB6.out.alloc HB6.out.size _, .inr ⟨HA.out, some ⟨w5.heap.size + 1, 0, none⟩, 2, [JR.mk (accJ t per id) A c, JR.mk RV A5 c5], rfl, by rw [HL.out, ← HR2.out]; rfl, HZ6.out ▸ own_two HOA6.out HOB6.out HB6.out.size⟩⟩
    · have hv2 : (RE != 0) = true := by simpa using hv
      have HV := Lib.hid hv
      clear hv
      go_wp2_with fail
      rw [HW6.out]
      go_ret2
      exact ⟨HB6.out, .inl ⟨fun h => HV.out (HA.out.symm.trans h), none, 0, 0, by rw [HA.out]; rfl⟩⟩
end Go.Proofs.YtjlokkjbdgcooaaGreat
