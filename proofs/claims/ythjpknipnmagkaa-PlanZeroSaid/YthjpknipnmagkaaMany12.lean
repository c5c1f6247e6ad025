/-
  Several texts, one behind the other: what each holds stands ahead of it.
-/
import Derived.Test.YthjpknipnmagkaaAgAt
import Derived.Test.YthjpknipnmagkaaMany9

/-
  An agenda that is told of new items.
-/
namespace Go.Proofs.Ythjpknipnmagkaa
open Go.RowKit Go.Sort

/-- A new row of items, of which an agenda is told. -/
theorem rd_itms (w : World) (l : List Itm) : Rd (w.alloc (.cells (itms l).toArray 86)) (w.heap.size + 1) 3 (some ⟨w.heap.size, 0, none⟩) l.length (itms l) :=
  ⟨itms_len l, fun _ => ⟨_, rfl, by simp, cells_new w (itms l) 86⟩⟩
theorem agPut_new (l : List Itm) (c B b : Nat) (v : Value) (L : List Itm) (w : World) (h : AgAt w B b v L) (hn : l.length ≤ 1000000) (hnc : l.length ≤ c) :
    Calls Try.prog 65 #[.pointer (some ⟨b, 0, none⟩), .slice (some ⟨w.heap.size, 0, none⟩) l.length c] (w.alloc (.cells (itms l).toArray 86)) fun e w' => e = .returned (.int .i64 (putsI L l).length) ∧ AgTo w B b v (putsI L l) w' := by
  have hb : Below w.heap.size w (w.alloc (.cells (itms l).toArray 86)) := (Below.refl _ _).alloc (Nat.le_refl _) _
  refine (agPut_any l _ l.length c (w.heap.size + 1) B b v L _ (h.below hb) (rd_itms w l) (by simp) hn hnc ?_).mono fun e w' ⟨he, T⟩ => ⟨he, AgTo.trans (But.of_below hb) (fun _ h => .inl h) T⟩
  intro _ ad e hi
  injection e with e
  subst e
  exact Nat.lt_irrefl _ (h.ltB _ hi)
/-- An agenda whose memory is new since w0. -/
def AgOn (w0 : World) (b : Nat) (L : List Itm) (w : World) : Prop := ∃ v, AgAt w w0.heap.size b v L ∧ Below w0.heap.size w0 w
theorem AgOn.to {w0 w w' : World} {b : Nat} {v : Value} {L L' : List Itm} (h : AgAt w w0.heap.size b v L) (hb : Below w0.heap.size w0 w) (t : AgTo w w0.heap.size b v L' w') : AgOn w0 b L' w' := by
  have hb2 := t.bel h hb.size
  obtain ⟨v', h1, _⟩ := t
  exact ⟨v', h1, hb.trans hb2⟩
end Go.Proofs.Ythjpknipnmagkaa

/-
  Contract of plan.Items.
-/
namespace Go.Proofs.Ythjpknipnmagkaa
open Mo
open Go.RowKit Go.Sort

theorem TplAt.but {w w' : World} {b : Nat} {t : Tpl} {S : Nat → Prop} (h : TplAt w b t) (hb : But S w w') (hs : ¬ S b) : TplAt w' b t := (hb.block _ (lt_of_blk h) hs).trans h

set_option maxRecDepth 100000 in
set_option maxHeartbeats 4000000 in
theorem items_any (l : List Tpl) (A : Option Addr) (n c : Nat) (w : World) (hR : Rd w w.heap.size 12 A n (tpls l)) (hin : ∀ t ∈ l, TplIn w t) (hn : n ≤ 1000000) :
    Calls Try.prog 38 #[.slice A n c] w fun e w' => ∃ b v, e = .returned (.pointer (some ⟨b, 0, none⟩)) ∧ AgAt w' w.heap.size b v (putsI [] (itemsK l n)) ∧ Below w.heap.size w w' := by
  obtain ⟨W, hW⟩ : ∃ W, w.alloc (.cells #[.slice none 0 0] 116) = W := ⟨_, rfl⟩
  have hA := ag_new w
  rw [hW] at hA
  have hb : Below w.heap.size w W := by rw [← hW]; exact (Below.refl _ _).alloc (Nat.le_refl _) _
  have HW := Lib.hid hW; have HA := Lib.hid hA; have HB := Lib.hid hb
  have HTR : Hid (∀ w1, Below w.heap.size w w1 → Rd w1 w.heap.size 12 A n (tpls l)) := fun w1 h1 => hR.below h1
  have HIN : Hid (∀ t, t ∈ l → ∀ w1, Below w.heap.size w w1 → TplIn w1 t) := fun t ht w1 h1 => (hin t ht).below h1
  clear hW hA hb hR hin
  go_enter Try.func38, Try.ntmps38
  go_wp2_with fail
  rw [HW.out]
  go_wp2_with fail
  go_loopw [12, 4, 5, 7] (fun iv _ _ _ wr => ∃ k : Nat, k ≤ n ∧ iv = .int .i64 k ∧ AgTo W w.heap.size w.heap.size (.slice none 0 0) (putsI [] (itemsK l k)) wr) (fun iv _ _ _ _ => n - (intOf iv).toNat)
  case atStart => exact ⟨0, Nat.zero_le _, rfl, AgTo.refl HA.out⟩
  case round =>
    obtain ⟨wo, rfl⟩ : ∃ wo : World, wo = wr := ⟨_, rfl⟩
    obtain ⟨k, hk, rfl, hto⟩ := hrel
    have hbo := HB.out.trans (hto.bel HA.out HB.out.size)
    obtain ⟨v1, hat, hbut, hown⟩ := hto
    by_cases hlt : k < n
    · have hkI : (k : Int) < (n : Int) := by omega
      obtain ⟨ad, t, rfl, hb0, hx, ⟨x0, x1, x2, x3, x4, x5⟩, x6, x7, x8, x9, x10, x11⟩ := (HTR.out _ hbo).tpl hlt
      obtain ⟨P, hP⟩ : ∃ P, perT t = P := ⟨_, rfl⟩
      have HX : Hid (itemsK l (k + 1) = itemsK l k ++ tplP k t.rk P) := by rw [← hP]; exact itemsK_succ hx
      have hmem := List.mem_of_getElem? hx
      obtain ⟨Wt, hWt⟩ : ∃ Wt, wo.alloc (.cells t.cells.toArray 24) = Wt := ⟨_, rfl⟩
      have hbt : Below wo.heap.size wo Wt := by rw [← hWt]; exact (Below.refl _ _).alloc (Nat.le_refl _) _
      have htx : TplAt Wt wo.heap.size t := by rw [← hWt]; exact heap_new wo _
      have hzt : Wt.heap.size = wo.heap.size + 1 := by rw [← hWt]; simp
      have HBO := Lib.hid hbo
      have kp := periods_any t Wt (HIN.out t hmem Wt (hbo.trans (hbt.mono hbo.size)))
      have hpl := perT_le t
      rw [hP] at kp hpl
      have KP := Lib.hid kp
      have HPL := Lib.hid hpl
      obtain ⟨L0, hL0⟩ : ∃ L0, putsI [] (itemsK l k) = L0 := ⟨_, rfl⟩
      rw [hL0] at hat
      have HPX : Hid (putsI L0 (tplP k t.rk P) = putsI [] (itemsK l (k + 1))) := by rw [Hid, HX.out, ← hL0, putsI_app]
      have HWt := Lib.hid hWt; have HBT := Lib.hid hbt; have HTX := Lib.hid htx; have HZT := Lib.hid hzt
      have HAT := Lib.hid hat; have HBUT := Lib.hid hbut; have HOWN := Lib.hid hown
      obtain ⟨⟨y0, y1, y2, y3, y4, y5⟩, y6, y7, y8, y9, y10, y11⟩ := tpl_cells htx
      clear hbo hmem hWt hbt htx hzt hat hbut hown hx kp hpl hP hL0 HX
      unfold Tpl.cells at *
      go_wp2_with fail
      rw [HWt.out]
      go_wp2_with fail
      refine KP.out.mono ?_
      rintro e w3 ⟨A3, c3, rfl, hown3, hb3⟩
      have hsz3 := hb3.size
      have hat3 := (HAT.out.below HBT.out).below hb3
      have htx3 := HTX.out.below hb3
      have hg3 := own_ge hown3
      have hrd3 := rd_of_own hown3
      have HRD : Hid (∀ wr, But (InAg w.heap.size v1) w3 wr → Rd wr w3.heap.size 1 A3 P.length (ints .i64 P)) := fun wr hw => hrd3.but hw (Nat.le_refl _) fun _ ad2 e hi => by
        subst e
        have := own_ge hown3 ad2.block (by
          obtain ⟨g, cap, hv, _, _⟩ := hown3.form (by omega)
          injection hv with hv1
          injection hv1 with hv1
          subst hv1
          rfl)
        have := HAT.out.ltB _ hi
        have := HZT.out
        omega
      have HTX3 : Hid (∀ wr, But (InAg w.heap.size v1) w3 wr → TplAt wr wo.heap.size t) := fun wr hw => htx3.but hw fun hi => Nat.lt_irrefl _ (HAT.out.ltB _ hi)
      have HAT3 := Lib.hid hat3; have HB3 := Lib.hid hb3
      have HBW3 : Hid (Below w.heap.size w w3) := HBO.out.trans ((HBT.out.trans (hb3.mono HBT.out.size)).mono HBO.out.size)
      clear hown3 hb3 hsz3 hat3 htx3 hg3 hrd3 x0 x1 x2 x3 x4 x5 x6 x7 x8 x9 x10 x11 y0 y1 y2 y3 y4 y5 y6 y7 y8 y9 y10 y11 KP HWt
      go_wp2_with fail
      go_loopw [20, 7] (fun iv _ wr => ∃ j : Nat, j ≤ P.length ∧ iv = .int .i64 j ∧ AgTo w3 w.heap.size w.heap.size v1 (putsI L0 ((tplP k t.rk P).take j)) wr) (fun iv _ _ => P.length - (intOf iv).toNat)
      case atStart => exact ⟨0, Nat.zero_le _, rfl, AgTo.refl HAT3.out⟩
      case round =>
        obtain ⟨j, hj, rfl, v2, hat2, hbut2, hown2⟩ := hrel
        have hpl := HPL.out
        by_cases hlt2 : j < P.length
        · have hjI : (j : Int) < (P.length : Int) := by omega
          obtain ⟨ad2, rfl, hb2, z0⟩ := (HRD.out _ hbut2).int hlt2
          obtain ⟨p, hp⟩ : ∃ p, P[j]? = some p := ⟨_, List.getElem?_eq_getElem hlt2⟩
          rw [hp, Option.getD_some] at z0
          have HSTEP := Lib.hid (tplP_step (i := k) (rk := t.rk) hp)
          obtain ⟨⟨y0, y1, y2, y3, y4, y5⟩, y6, y7, y8, y9, y10, y11⟩ := tpl_cells (HTX3.out _ hbut2)
          have KPUT := Lib.hid (agPut_new [⟨p, t.rk, k⟩] 1 _ _ _ _ _ hat2 (by show 1 ≤ 1000000; omega) (Nat.le_refl _))
          have HBUT2 := Lib.hid hbut2; have HOWN2 := Lib.hid hown2
          clear hat2 hbut2 hown2 hp hb2 y0 y1 y2 y3 y4 y5 y6 y7 y8 y9 y10
          go_wp2_with fail
          refine KPUT.out.mono ?_
          rintro e w4 ⟨rfl, T⟩
          have T2 := AgTo.trans HBUT2.out HOWN2.out T
          rw [putsI_app, ← HSTEP.out] at T2
          have T3 := Lib.hid T2
          clear T T2 KPUT
          go_wp2_with fail
          exact ⟨⟨j + 1, by omega, by go_num, T3.out⟩, by simp [intOf]; omega⟩
        · obtain rfl : j = P.length := by omega
          rw [List.take_of_length_le (by rw [tplP_len]; exact Nat.le_refl _)] at hat2
          have T : AgTo wo w.heap.size w.heap.size v1 (putsI L0 (tplP k t.rk P)) wr := AgTo.trans (But.of_below (HBT.out.trans ((HB3.out).mono HBT.out.size))) (fun _ h => .inl h) ⟨v2, hat2, hbut2, hown2⟩
          have T2 := AgTo.trans HBUT.out HOWN.out T
          rw [HPX.out] at T2
          have T3 := Lib.hid T2
          clear T T2 hat2 hbut2 hown2
          go_wp2_with fail
          exact ⟨⟨k + 1, by omega, by go_num, T3.out⟩, by simp [intOf]; omega⟩
    · obtain rfl : k = n := by omega
      have HBO := Lib.hid hbo; have HAT := Lib.hid hat
      clear hbo hat hbut hown
      go_wp2_with fail
      go_ret
      exact ⟨_, _, rfl, HAT.out, HBO.out⟩
end Go.Proofs.Ythjpknipnmagkaa
