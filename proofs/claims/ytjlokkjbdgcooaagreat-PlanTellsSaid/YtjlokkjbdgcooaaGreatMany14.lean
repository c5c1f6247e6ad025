/-
  Several texts, one behind the other: what each holds stands ahead of it.
-/
import Derived.Test.YtjlokkjbdgcooaaGreatAgAt
import Derived.Test.YtjlokkjbdgcooaaGreatMany11
import Derived.Test.YtjlokkjbdgcooaaGreatMany8
import Derived.Test.YtjlokkjbdgcooaaGreatMany10
import Derived.Test.YtjlokkjbdgcooaaGreatMany13
import Derived.Lib.Overlaps
import Derived.Lib.AppendZerosOnto
import Derived.Laws.IdiomCopy

/-
  An agenda that is told of new items.
-/
namespace Go.Proofs.YtjlokkjbdgcooaaGreat
open Go.RowKit Go.Sort

/-- A new row of items, of which an agenda is told. -/
theorem rd_itms (w : World) (l : List Itm) : Rd (w.alloc (.cells (itms l).toArray 71)) (w.heap.size + 1) 3 (some ⟨w.heap.size, 0, none⟩) l.length (itms l) :=
  ⟨itms_len l, fun _ => ⟨_, rfl, by simp, cells_new w (itms l) 71⟩⟩
theorem agPut_new (l : List Itm) (c B b : Nat) (v : Value) (L : List Itm) (w : World) (h : AgAt w B b v L) (hn : l.length ≤ 1000000) (hnc : l.length ≤ c) :
    Calls Tryz.prog 104 #[.pointer (some ⟨b, 0, none⟩), .slice (some ⟨w.heap.size, 0, none⟩) l.length c] (w.alloc (.cells (itms l).toArray 71)) fun e w' => e = .returned (.int .i64 (putsI L l).length) ∧ AgTo w B b v (putsI L l) w' := by
  have hb : Below w.heap.size w (w.alloc (.cells (itms l).toArray 71)) := (Below.refl _ _).alloc (Nat.le_refl _) _
  refine (agPut_any l _ l.length c (w.heap.size + 1) B b v L _ (h.below hb) (rd_itms w l) (by simp) hn hnc ?_).mono fun e w' ⟨he, T⟩ => ⟨he, AgTo.trans (But.of_below hb) (fun _ h => .inl h) T⟩
  intro _ ad e hi
  injection e with e
  subst e
  exact Nat.lt_irrefl _ (h.ltB _ hi)
/-- An agenda whose memory is new since w0. -/
def AgOn (w0 : World) (b : Nat) (L : List Itm) (w : World) : Prop := ∃ v, AgAt w w0.heap.size b v L ∧ Below w0.heap.size w0 w
theorem AgOn.to {w0 w w' : World} {b : Nat} {v : Value} {L L' : List Itm} (h : AgAt w w0.heap.size b v L) (hb : Below w0.heap.size w0 w) (t : AgTo w w0.heap.size b v L' w') : AgOn w0 b L' w' := by
  have hb2 := t.bel h hb.size
  obtain ⟨v', h1, _⟩ := t
  exact ⟨v', h1, hb.trans hb2⟩
end Go.Proofs.YtjlokkjbdgcooaaGreat

/-
  Contract of plan.Items.
-/
namespace Go.Proofs.YtjlokkjbdgcooaaGreat
open Mo
open Go.RowKit Go.Sort

theorem TplAt.but {w w' : World} {b : Nat} {t : Tpl} {S : Nat → Prop} (h : TplAt w b t) (hb : But S w w') (hs : ¬ S b) : TplAt w' b t := (hb.block _ (lt_of_blk h) hs).trans h

set_option maxRecDepth 100000 in
set_option maxHeartbeats 4000000 in
theorem items_any (l : List Tpl) (A : Option Addr) (n c : Nat) (w : World) (hR : Rd w w.heap.size 12 A n (tpls l)) (hin : ∀ t ∈ l, TplIn w t) (hn : n ≤ 1000000) :
    Calls Tryz.prog 27 #[.slice A n c] w fun e w' => ∃ b v, e = .returned (.pointer (some ⟨b, 0, none⟩)) ∧ AgAt w' w.heap.size b v (putsI [] (itemsK l n)) ∧ Below w.heap.size w w' := by
  obtain ⟨W, hW⟩ : ∃ W, w.alloc (.cells #[.slice none 0 0] 153) = W := ⟨_, rfl⟩
  have hA := ag_new w
  rw [hW] at hA
  have hb : Below w.heap.size w W := by rw [← hW]; exact (Below.refl _ _).alloc (Nat.le_refl _) _
  have HW := Lib.hid hW; have HA := Lib.hid hA; have HB := Lib.hid hb
  have HTR : Hid (∀ w1, Below w.heap.size w w1 → Rd w1 w.heap.size 12 A n (tpls l)) := fun w1 h1 => hR.below h1
  have HIN : Hid (∀ t, t ∈ l → ∀ w1, Below w.heap.size w w1 → TplIn w1 t) := fun t ht w1 h1 => (hin t ht).below h1
  clear hW hA hb hR hin
  go_enter Tryz.func27, Tryz.ntmps27
  go_wp2_with fail
  rw [HW.out]
  go_wp2_with fail
  go_loopw [12, 4, 5, 7] (fun iv _ _ _ wr => ∃ k : Nat, k ≤ n ∧ iv = .int .i64 k ∧ AgTo W w.heap.size w.heap.size (.slice none 0 0) (putsI [] (itemsK l k)) wr) (fun iv _ _ _ _ => n - (intOf iv).toNat)
  case atStart => exact ⟨0, Nat.zero_le _, rfl, AgTo.refl HA.out⟩
  case round =>
    obtain ⟨wo, rfl⟩ : ∃ wo : World, wo = wr := ⟨_, rfl⟩
    obtain ⟨k, hk, rfl, hto⟩ := hrel
    have hbo := HB.out.trans (hto.bel HA.out HB.out.size)
    obtain ⟨v1, hat, hbut, hown⟩ := hto
    by_cases hlt : k < n
    · have hkI : (k : Int) < (n : Int) := by omega
      obtain ⟨ad, t, rfl, hb0, hx, ⟨x0, x1, x2, x3, x4, x5⟩, x6, x7, x8, x9, x10, x11⟩ := (HTR.out _ hbo).tpl hlt
      obtain ⟨P, hP⟩ : ∃ P, perT t = P := ⟨_, rfl⟩
      have HX : Hid (itemsK l (k + 1) = itemsK l k ++ tplP k t.rk P) := by rw [← hP]; exact itemsK_succ hx
      have hmem := List.mem_of_getElem? hx
      obtain ⟨Wt, hWt⟩ : ∃ Wt, wo.alloc (.cells t.cells.toArray 24) = Wt := ⟨_, rfl⟩
      have hbt : Below wo.heap.size wo Wt := by rw [← hWt]; exact (Below.refl _ _).alloc (Nat.le_refl _) _
      have htx : TplAt Wt wo.heap.size t := by rw [← hWt]; exact heap_new wo _
      have hzt : Wt.heap.size = wo.heap.size + 1 := by rw [← hWt]; simp
      have HBO := Lib.hid hbo
      have kp := periods_any t Wt (HIN.out t hmem Wt (hbo.trans (hbt.mono hbo.size)))
      have hpl := perT_le t
      rw [hP] at kp hpl
      have KP := Lib.hid kp
      have HPL := Lib.hid hpl
      obtain ⟨L0, hL0⟩ : ∃ L0, putsI [] (itemsK l k) = L0 := ⟨_, rfl⟩
      rw [hL0] at hat
      have HPX : Hid (putsI L0 (tplP k t.rk P) = putsI [] (itemsK l (k + 1))) := by rw [Hid, HX.out, ← hL0, putsI_app]
      have HWt := Lib.hid hWt; have HBT := Lib.hid hbt; have HTX := Lib.hid htx; have HZT := Lib.hid hzt
      have HAT := Lib.hid hat; have HBUT := Lib.hid hbut; have HOWN := Lib.hid hown
      obtain ⟨⟨y0, y1, y2, y3, y4, y5⟩, y6, y7, y8, y9, y10, y11⟩ := tpl_cells htx
      clear hbo hmem hWt hbt htx hzt hat hbut hown hx kp hpl hP hL0 HX
      unfold Tpl.cells at *
      go_wp2_with fail
      rw [HWt.out]
      go_wp2_with fail
      refine KP.out.mono ?_
      rintro e w3 ⟨A3, c3, rfl, hown3, hb3⟩
      have hsz3 := hb3.size
      have hat3 := (HAT.out.below HBT.out).below hb3
      have htx3 := HTX.out.below hb3
      have hg3 := own_ge hown3
      have hrd3 := rd_of_own hown3
      have HRD : Hid (∀ wr, But (InAg w.heap.size v1) w3 wr → Rd wr w3.heap.size 1 A3 P.length (ints .i64 P)) := fun wr hw => hrd3.but hw (Nat.le_refl _) fun _ ad2 e hi => by
        subst e
        have := own_ge hown3 ad2.block (by
          obtain ⟨g, cap, hv, _, _⟩ := hown3.form (by omega)
          injection hv with hv1
          injection hv1 with hv1
          subst hv1
          rfl)
        have := HAT.out.ltB _ hi
        have := HZT.out
        omega
      have HTX3 : Hid (∀ wr, But (InAg w.heap.size v1) w3 wr → TplAt wr wo.heap.size t) := fun wr hw => htx3.but hw fun hi => Nat.lt_irrefl _ (HAT.out.ltB _ hi)
      have HAT3 := Lib.hid hat3; have HB3 := Lib.hid hb3
      have HBW3 : Hid (Below w.heap.size w w3) := HBO.out.trans ((HBT.out.trans (hb3.mono HBT.out.size)).mono HBO.out.size)
      clear hown3 hb3 hsz3 hat3 htx3 hg3 hrd3 x0 x1 x2 x3 x4 x5 x6 x7 x8 x9 x10 x11 y0 y1 y2 y3 y4 y5 y6 y7 y8 y9 y10 y11 KP HWt
      go_wp2_with fail
      go_loopw [20, 7] (fun iv _ wr => ∃ j : Nat, j ≤ P.length ∧ iv = .int .i64 j ∧ AgTo w3 w.heap.size w.heap.size v1 (putsI L0 ((tplP k t.rk P).take j)) wr) (fun iv _ _ => P.length - (intOf iv).toNat)
      case atStart => exact ⟨0, Nat.zero_le _, rfl, AgTo.refl HAT3.out⟩
      case round =>
        obtain ⟨j, hj, rfl, v2, hat2, hbut2, hown2⟩ := hrel
        have hpl := HPL.out
        by_cases hlt2 : j < P.length
        · have hjI : (j : Int) < (P.length : Int) := by omega
          obtain ⟨ad2, rfl, hb2, z0⟩ := (HRD.out _ hbut2).int hlt2
          obtain ⟨p, hp⟩ : ∃ p, P[j]? = some p := ⟨_, List.getElem?_eq_getElem hlt2⟩
          rw [hp, Option.getD_some] at z0
          have HSTEP := Lib.hid (tplP_step (i := k) (rk := t.rk) hp)
          obtain ⟨⟨y0, y1, y2, y3, y4, y5⟩, y6, y7, y8, y9, y10, y11⟩ := tpl_cells (HTX3.out _ hbut2)
          have KPUT := Lib.hid (agPut_new [⟨p, t.rk, k⟩] 1 _ _ _ _ _ hat2 (by show 1 ≤ 1000000; omega) (Nat.le_refl _))
          have HBUT2 := Lib.hid hbut2; have HOWN2 := Lib.hid hown2
          clear hat2 hbut2 hown2 hp hb2 y0 y1 y2 y3 y4 y5 y6 y7 y8 y9 y10
          go_wp2_with fail
          refine KPUT.out.mono ?_
          rintro e w4 ⟨rfl, T⟩
          have T2 := AgTo.trans HBUT2.out HOWN2.out T
          rw [putsI_app, ← HSTEP.out] at T2
          have T3 := Lib.hid T2
          clear T T2 KPUT
          go_wp2_with fail
          exact ⟨⟨j + 1, by omega, by go_num, T3.out⟩, by simp [intOf]; omega⟩
        · obtain rfl : j = P.length := by omega
          rw [List.take_of_length_le (by rw [tplP_len]; exact Nat.le_refl _)] at hat2
          have T : AgTo wo w.heap.size w.heap.size v1 (putsI L0 (tplP k t.rk P)) wr := AgTo.trans (But.of_below (HBT.out.trans ((HB3.out).mono HBT.out.size))) (fun _ h => .inl h) ⟨v2, hat2, hbut2, hown2⟩
          have T2 := AgTo.trans HBUT.out HOWN.out T
          rw [HPX.out] at T2
          have T3 := Lib.hid T2
          clear T T2 hat2 hbut2 hown2
          go_wp2_with fail
          exact ⟨⟨k + 1, by omega, by go_num, T3.out⟩, by simp [intOf]; omega⟩
    · obtain rfl : k = n := by omega
      have HBO := Lib.hid hbo; have HAT := Lib.hid hat
      clear hbo hat hbut hown
      go_wp2_with fail
      go_ret
      exact ⟨_, _, rfl, HAT.out, HBO.out⟩
end Go.Proofs.YtjlokkjbdgcooaaGreat

/-
  Contracts of LentLines, StaysLines.
-/
namespace Go.Proofs.YtjlokkjbdgcooaaGreat
open Go.RowKit

theorem linsOne (l : List Lin) : ∀ u ∈ lins l, u.oneCell' = true := by
  intro u hu
  obtain ⟨a, _, hu⟩ := List.mem_flatMap.1 hu
  simp [Lin.cells] at hu
  rcases hu with rfl | rfl | rfl <;> rfl
end Go.Proofs.YtjlokkjbdgcooaaGreat

/-
  Contract of plan's (Template).journal.
-/
namespace Go.Proofs.YtjlokkjbdgcooaaGreat
open Go.RowKit

/-- A line appended to a row of one's own. -/
theorem append_lin {w : World} {base m : Nat} {v : Value} {L : List Lin} (x : Lin) (h : w.ownsRow base 113 3 v m (lins L)) (hb : base ≤ w.heap.size) (hm : m ≤ 1000000) :
    ∃ v' w', (∀ ty, (Builtin.append_ #[109, 109] ty #[v, .slice (some ⟨w.heap.size, 0, none⟩) 1 1]).run Tryz.prog (w.alloc (.cells #[.int .i64 x.acct, .int .i64 x.amt, .int .i64 x.part] 113)) = .ok v' w') ∧ w'.ownsRow base 113 3 v' (m + 1) (lins (L ++ [x])) ∧ But (fun k => v.ownBlock = some k) w w' ∧ Below base w w' := by
  have hR : Rd (w.alloc (.cells #[.int .i64 x.acct, .int .i64 x.amt, .int .i64 x.part] 113)) (w.heap.size + 1) 3 (some ⟨w.heap.size, 0, none⟩) 1 (lins [x]) := ⟨rfl, fun _ => ⟨_, rfl, by simp, cells_new w [.int .i64 x.acct, .int .i64 x.amt, .int .i64 x.part] 113⟩⟩
  have h1 : (w.alloc (.cells #[.int .i64 x.acct, .int .i64 x.amt, .int .i64 x.part] 113)).ownsRow base 113 3 v m (lins L) := own_kept h fun k hk _ => Below.heap_alloc w _ _ hk
  obtain ⟨v', w', hrun, hown, hg, _⟩ := append_fresh (P := Tryz.prog) (ty := 0) (c := 1) infoLin Tryz.underlying109 rfl (by omega) base v m (lins L) h1 hR (linsOne _) (by unfold maxLen; omega) (by omega) (by simp; omega)
  rw [← lins_append] at hown
  refine ⟨v', w', fun ty => hrun, hown, ?_, ?_⟩
  · exact (But.of_below ((Below.refl _ _).alloc (Nat.le_refl _) _)).trans (But.of_grown hg)
  · exact ((Below.refl _ _).alloc hb _).grown hg (by simp; omega) (own_ge h)

theorem six_far {w : World} {b q : Nat} (hq : q ≠ b) (v0 v1 v2 v3 v4 v5 : Value) : ((((((w.setCell ⟨b, 0, none⟩ v0).setCell ⟨b, 1, none⟩ v1).setCell ⟨b, 2, none⟩ v2).setCell ⟨b, 3, none⟩ v3).setCell ⟨b, 4, none⟩ v4).setCell ⟨b, 5, none⟩ v5).heap[q]? = w.heap[q]? := by
  have e : ∀ (u : World) (i : Nat) (v : Value), (u.setCell ⟨b, i, none⟩ v).heap[q]? = u.heap[q]? := fun u i v => Below.heap_setCell _ _ _ _ hq
  rw [e, e, e, e, e, e]
set_option maxRecDepth 100000 in
set_option maxHeartbeats 2000000 in
theorem journal_any (t : Tpl) (per id : Int) (v : Value) (m base : Nat) (L : List Lin) (w : World) (h : w.ownsRow base 113 3 v m (lins L)) (hb : base ≤ w.heap.size) (hm : m ≤ 1000000) (ha : 1 ≤ t.amt ∧ t.amt ≤ 1000000000000000) :
    Calls Tryz.prog 179 #[.agg t.cells.toArray, .int .i64 per, .int .i64 id, v] w fun e w' => ∃ A c, e = .returned (.agg #[.int .i64 id, .int .i64 t.ent, .int .i64 per, .string ⟨#[]⟩, .slice A (m + 1) c, .bool false]) ∧ w'.ownsRow base 113 3 (.slice A (m + 1) c) (m + 1) (lins (L ++ [⟨t.cre, -t.amt, 0⟩])) ∧ Below base w w' := by
  obtain ⟨W, hW⟩ : ∃ W, (w.alloc (.cells t.cells.toArray 24)).alloc (.cells #[.int .i64 0, .int .i64 0, .int .i64 0, .string ⟨#[]⟩, .slice none 0 0, .bool false] 111) = W := ⟨_, rfl⟩
  have hbW : Below w.heap.size w W := by rw [← hW]; exact ((Below.refl _ _).alloc (Nat.le_refl _) _).alloc (by simp) _
  have hzW : W.heap.size = w.heap.size + 1 + 1 := by rw [← hW]; simp
  have hx : TplAt W w.heap.size t := by rw [← hW]; exact (Below.heap_alloc _ _ _ (by simp)).trans (heap_new w _)
  have hj : JAt W (w.heap.size + 1) zeroJ none 0 0 := by
    rw [← hW]
    have := heap_new (w.alloc (.cells t.cells.toArray 24)) (.cells #[.int .i64 0, .int .i64 0, .int .i64 0, .string ⟨#[]⟩, .slice none 0 0, .bool false] 111)
    rw [show (w.alloc (.cells t.cells.toArray 24)).heap.size = w.heap.size + 1 by simp] at this
    exact this
  have hwr : wrap64 (-t.amt) = -t.amt := by unfold wrap64; omega
  obtain ⟨v', w', hrun, hown, hbut, hbel⟩ := append_lin ⟨t.cre, -t.amt, 0⟩ (own_kept h fun k hk _ => hbW.block k hk) (Nat.le_trans hb hbW.size) hm
  rw [hzW, ← hW] at hrun
  obtain ⟨A, c, rfl⟩ := own_form hown
  have HR := Lib.hid hrun
  have HOWN := Lib.hid hown
  have HBEL : Hid (Below base w w') := (hbW.mono hb).trans hbel
  obtain ⟨⟨x0, x1, x2, x3, x4, x5⟩, x6, x7, x8, x9, x10, x11⟩ := tpl_cells hx
  have hne : ∀ k, k = w.heap.size ∨ k = w.heap.size + 1 → v.ownBlock ≠ some k := fun k hk e => by
    have := own_lt h k e
    omega
  have hx' : TplAt w' w.heap.size t := (hbut.block _ (by omega) (hne _ (.inl rfl))).trans hx
  have hj' : JAt w' (w.heap.size + 1) zeroJ none 0 0 := (hbut.block _ (by omega) (hne _ (.inr rfl))).trans hj
  have HX := Lib.hid hx'; have HJ := Lib.hid hj'
  clear hW hbW hzW hx hj h hrun hown hbut hbel hne hx' hj' x0 x1 x2 x3 x4 x5 x6 x7 x8 x9 x10 x11
  obtain ⟨⟨x0, x1, x2, x3, x4, x5⟩, x6, x7, x8, x9, x10, x11⟩ := tpl_cells HX.out
  obtain ⟨y0, y1, y2, y3, y4, y5⟩ := six_cells HJ.out
  have yf := fun o => warm_of HJ.out o
  unfold Tpl.cells at *
  go_enter Tryz.func179, Tryz.ntmps179
  go_wp2_with (at_builtin; refine wpList_append_run rfl _ _ _ rfl _ _ _ _ rfl rfl (HR.out _) ?_)
  refine bodyPost_ret (v := .agg #[.int .i64 id, .int .i64 t.ent, .int .i64 per, .string ⟨#[]⟩, .slice A (m + 1) c, .bool false]) (by simp [results, Tryz.results179, go_sem, y0, y1, y2, y3, y4, y5]) rfl ?_
  refine ⟨A, c, rfl, own_kept HOWN.out fun k _ hk => six_far (fun e => ?_) _ _ _ _ _ _, below_six HBEL.out (by omega) _ _ _ _ _ _⟩
  rw [e] at hk
  exact own_ne HOWN.out HJ.out (by decide) hk
end Go.Proofs.YtjlokkjbdgcooaaGreat

/-
  What slices.Insert does with a row of one's own: copies within a row, a row that is opened by one element. No code.
-/
namespace Go.Proofs.YtjlokkjbdgcooaaGreat
open Go.RowKit

theorem step_copy_run {P : Program} {w : World} {ops : Array Oper} {o : Oper} {a : Act} {K : Act → World → Prop} {Q : Exit → Act → World → Prop} {E : Prop} (hgd : o.guard = none) (d s : Operand) (t t' : TypeId)
    (ho : o.op = .call { callee := .builtin .copy, args := #[d, s], argTypes := #[t, t'] }) (vd vs v' : Value) (w' : World) (hd : a.eval d = vd) (hs : a.eval s = vs)
    (hrun : (Builtin.copy_ #[t, t'] o.type #[vd, vs]).run P w = .ok v' w') (h : K (a.put o.dst v') w') : if Region.wanted o (yielded ops a.tmps) = true then Oper.wp P o a w K Q else E := by
  have hw : Region.wanted o (yielded ops a.tmps) = true := by simp [Region.wanted, hgd]
  rw [if_pos hw]
  unfold Oper.wp execOp
  simp only [ho, resolve, invoke, builtin, Sem.run_bind, Sem.run_pure, Result.andThen_ok, List.map_toArray, List.map_cons, List.map_nil, hd, hs, hrun]
  exact h
theorem wpList_copy_run1 {P : Program} {w : World} {ops : Array Oper} {rest : List Oper} {o : Oper} {a : Act} {Q : Exit → Act → World → Prop} (hgd : o.guard = none) (d s : Operand) (t t' : TypeId)
    (ho : o.op = .call { callee := .builtin .copy, args := #[d, s], argTypes := #[t, t'] }) (vd vs v' : Value) (w' : World) (hd : a.eval d = vd) (hs : a.eval s = vs)
    (hrun : (Builtin.copy_ #[t, t'] o.type #[vd, vs]).run P w = .ok v' w') (h : wpList P ops Q rest (a.put o.dst v') w') : wpList P ops Q (o :: rest) a w :=
  wpList_plain hgd fun _ hK => by
    unfold Oper.wp execOp
    simp only [ho, resolve, invoke, builtin, Sem.run_bind, Sem.run_pure, Result.andThen_ok, List.map_toArray, List.map_cons, List.map_nil, hd, hs, hrun]
    exact hK _ _ h
theorem wpList_append_run2 {P : Program} {w : World} {ops : Array Oper} {rest : List Oper} {o : Oper} {a : Act} {Q : Exit → Act → World → Prop} (hgd : o.guard = none) (s x : Operand) (t t' : TypeId)
    (ho : o.op = .call { callee := .builtin .append, args := #[s, x], argTypes := #[t, t'] }) (vs vx v' : Value) (w' : World) (hs : a.eval s = vs) (hx : a.eval x = vx)
    (hrun : (Builtin.append_ #[t, t'] o.type #[vs, vx]).run P w = .ok v' w') (h : wpList P ops Q rest (a.put o.dst v') w') : wpList P ops Q (o :: rest) a w :=
  wpList_plain hgd fun _ hK => by
    unfold Oper.wp execOp
    simp only [ho, resolve, invoke, builtin, Sem.run_bind, Sem.run_pure, Result.andThen_ok, List.map_toArray, List.map_cons, List.map_nil, hs, hx, hrun]
    exact hK _ _ h

section
variable {P : Program} {w : World} {B g n c size : Nat} {e : TypeId} {L : List Value}
theorem own_blk (h : w.ownsRow B e size (.slice (some ⟨g, 0, none⟩) n c) n L) : ∃ cur, w.heap[g]? = some (.cells cur e (0, 0)) ∧ B ≤ g ∧ n ≤ c ∧ c ≤ maxLen ∧ cur.size = c * size ∧ cur.toList.take (n * size) = L := by
  rcases h.2 with ⟨h1, _⟩ | ⟨g', cap', cur, h1, hB, hh, r⟩
  · cases h1
  · injection h1 with h1 _ hc
    injection h1 with h1
    injection h1 with h1
    subst h1 hc
    exact ⟨cur, hh, hB, r⟩
/-- copy into a row of one's own, from wherever, where all of it fits. -/
theorem copy_own (h : w.ownsRow B e size (.slice (some ⟨g, 0, none⟩) n c) n L) {dT ty : TypeId} (hu : P.underlying dT = some (.slice e)) (hi : (P.info? e).map (·.size) = some size) (oi k dLen dCap sLen sCap : Nat) (a : Addr) (cs : List Value)
    (hk : Nat.min sLen dLen = k) (hl : cs.length = k * size) (ho : oi + k ≤ n) (hsrc : ∀ j u, cs[j]? = some u → w.cell? (a.add j) = some u) (h1 : ∀ u ∈ cs, u.oneCell' = true) :
    (Builtin.copy_ #[dT, dT] ty #[.slice (some ⟨g, oi * size, none⟩) dLen dCap, .slice (some a) sLen sCap]).run P w = .ok (goInt k) (w.setCells g (oi * size) cs) ∧ (w.setCells g (oi * size) cs).ownsRow B e size (.slice (some ⟨g, 0, none⟩) n c) n (setL L (oi * size) cs) := by
  refine ⟨?_, own_setL cs w _ L h⟩
  obtain ⟨cur, hh, _, _, _, hsz, _⟩ := own_blk h
  have hle : oi * size + cs.length ≤ c * size := by
    rw [hl, ← Nat.add_mul]
    have hnc : n ≤ c := by obtain ⟨_, _, _, h2, _⟩ := own_blk h; exact h2
    exact Nat.mul_le_mul_right _ (by omega)
  have hst := run_storeCells_cells (P := P) g (oi * size) cs 0 w (fun j hj => by rw [cell_of hh, Array.getElem?_eq_getElem (by omega)]; rfl) (fun j _ => warm_of hh _) h1
  have hld := run_firstCells_some (P := P) w size k a sLen sCap cs hl hsrc
  simp only [Nat.add_zero] at hst
  cases hq : P.info? e with
  | none => simp [hq] at hi
  | some i =>
    have hi2 : i.size = size := by simpa [hq] using hi
    simp [Builtin.copy_, run_underlying hu, Builtin.lenOf, sizeOf, typeInfo, hq, hi2, hk, hld, hst]
/-- A row that has room, taken for one element longer. -/
theorem own_more (h : w.ownsRow B e size (.slice (some ⟨g, 0, none⟩) n c) n L) (hc : n + 1 ≤ c) : ∃ junk, junk.length = size ∧ w.ownsRow B e size (.slice (some ⟨g, 0, none⟩) (n + 1) c) (n + 1) (L ++ junk) := by
  obtain ⟨cur, hh, hB, _, hm, hsz, hL⟩ := own_blk h
  have hlen : n * size + size ≤ c * size := by
    have := Nat.mul_le_mul_right size hc
    rw [Nat.succ_mul] at this; exact this
  refine ⟨(cur.toList.drop (n * size)).take size, ?_, ?_, .inr ⟨g, c, cur, rfl, hB, hh, hc, hm, hsz, ?_⟩⟩
  · simp; omega
  · have := h.1
    rw [List.length_append, this, Nat.succ_mul]
    simp; omega
  · rw [Nat.succ_mul, List.take_add, hL]
end

theorem setL_off {s : Nat} (a b vs : List Value) (ha : a.length = s) (h : vs.length ≤ b.length) : setL (a ++ b) s vs = a ++ vs ++ b.drop vs.length := by subst ha; exact setL_mid vs a b h
theorem ins_core0 {a d junk ys : List Value} {p s : Nat} (ha : a.length = p) (hj : junk.length = s) (hy : ys.length = s) :
    setL (setL (a ++ (d ++ junk)) (p + s) d) p ys = a ++ (ys ++ d) := by
  obtain ⟨t, u, e, ht, hu⟩ : ∃ t u, d ++ junk = t ++ u ∧ t.length = s ∧ u.length = d.length := ⟨(d ++ junk).take s, (d ++ junk).drop s, (List.take_append_drop _ _).symm, by simp [hj], by simp [hj]⟩
  have h1 : u.drop d.length = [] := List.drop_eq_nil_of_le (by omega)
  rw [e, ← List.append_assoc, setL_off (a ++ t) u d (by simp [ha, ht]) (by omega), h1, List.append_nil, List.append_assoc, setL_off a (t ++ d) ys ha (by simp; omega), List.append_assoc]
  congr 2
  rw [List.drop_append_of_le_length (by omega), List.drop_eq_nil_of_le (by omega), List.nil_append]
theorem ins_core1 {a d zs ys : List Value} {p s : Nat} (ha : a.length = p) (hz : zs.length = d.length + s) (hy : ys.length = s) :
    setL (setL (a ++ zs) p ys) (p + s) d = a ++ (ys ++ d) := by
  have h1 : (zs.drop ys.length).drop d.length = [] := List.drop_eq_nil_of_le (by simp; omega)
  rw [setL_off a zs ys ha (by omega), setL_off (a ++ ys) _ d (by simp [ha, hy]) (by simp; omega), h1, List.append_nil, List.append_assoc]
theorem ins_core {p q s : Nat} {xs junk ys : List Value} (hx : xs.length = q) (hp : p ≤ q) (hj : junk.length = s) (hy : ys.length = s) :
    setL (setL (xs ++ junk) (p + s) (xs.drop p)) p ys = xs.take p ++ (ys ++ xs.drop p) := by
  have := ins_core0 (a := xs.take p) (d := xs.drop p) (p := p) (by simp; omega) hj hy
  rwa [← List.append_assoc, List.take_append_drop] at this
theorem ins_core2 {p q s : Nat} {xs zs ys : List Value} (hx : xs.length = q) (hp : p ≤ q) (hz : zs.length = q - p + s) (hy : ys.length = s) :
    setL (setL (xs.take p ++ zs) p ys) (p + s) (xs.drop p) = xs.take p ++ (ys ++ xs.drop p) :=
  ins_core1 (by simp; omega) (by simp; omega) hy
theorem ins_here {size n i : Nat} {xs junk ys : List Value} (hx : xs.length = n * size) (hi : i ≤ n) (hj : junk.length = size) (hy : ys.length = size) :
    setL (setL (xs ++ junk) ((i + 1) * size) (xs.drop (i * size))) (i * size) ys = xs.take (i * size) ++ (ys ++ xs.drop (i * size)) := by
  rw [Nat.succ_mul]
  exact ins_core hx (Nat.mul_le_mul_right _ hi) hj hy
theorem ins_new {size n i : Nat} {xs zs ys : List Value} (hx : xs.length = n * size) (hi : i ≤ n) (hz : zs.length = (n + 1 - i) * size) (hy : ys.length = size) :
    setL (setL (xs.take (i * size) ++ zs) (i * size) ys) ((i + 1) * size) (xs.drop (i * size)) = xs.take (i * size) ++ (ys ++ xs.drop (i * size)) := by
  rw [Nat.succ_mul]
  refine ins_core2 hx (Nat.mul_le_mul_right _ hi) ?_ hy
  rw [hz, show n + 1 - i = (n - i) + 1 by omega, Nat.succ_mul, Nat.sub_mul]
end Go.Proofs.YtjlokkjbdgcooaaGreat
