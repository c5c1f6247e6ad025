/-
  Several texts, one behind the other: what each holds stands ahead of it.
-/
import Derived.Test.YtjlokkjbdgcooaaGreatRefPlan
import Derived.Test.YtjlokkjbdgcooaaGreatPlanRun
import Derived.Test.YtjlokkjbdgcooaaGreatOwn
import Derived.Test.YtjlokkjbdgcooaaGreatMany8
import Derived.Test.YtjlokkjbdgcooaaGreatMany20
import Derived.Deep.RegionHeld3

/-
  The statements' helpers Ref and Small, of plan.
-/
namespace Go.Proofs.YtjlokkjbdgcooaaGreat
open Mo
open Go.RowKit

theorem tpl_regrown {w : World} {b : Nat} {t : Tpl} {T : TypeId} (h : w.heap[b]? = some (.cells t.cells.toArray T (0, 0))) : (∀ o, w.frozen? ⟨b, o, none⟩ = false) := fun o => warm_of h o
set_option maxRecDepth 100000 in
set_option maxHeartbeats 4000000 in
theorem refT_any (t : Tpl) (w : World) : Calls Tryz.prog 11 #[.agg t.cells.toArray] w fun e w' => e = .returned (.agg t.cells.toArray) ∧ Below w.heap.size w w' := by
  unfold Tpl.cells
  go_enter Tryz.func11, Tryz.ntmps11
  go_wp2_with fail
  have hb1 : Below w.heap.size w (w.alloc (.cells t.cells.toArray 24)) := (Below.refl _ _).alloc (Nat.le_refl _) _
  have hb := hb1.alloc hb1.size (.cells t.cells.toArray 28)
  have hr := heap_new (w.alloc (.cells t.cells.toArray 24)) (.cells t.cells.toArray 28)
  rw [show (w.alloc (.cells t.cells.toArray 24)).heap.size = w.heap.size + 1 by simp] at hr
  unfold Tpl.cells at hb hr
  generalize World.alloc (World.alloc w _) _ = W3 at *
  have y0 := cell_of hr 0; have y1 := cell_of hr 1; have y2 := cell_of hr 2; have y3 := cell_of hr 3; have y4 := cell_of hr 4; have y5 := cell_of hr 5
  have y6 := cell_of hr 6; have y7 := cell_of hr 7; have y8 := cell_of hr 8; have y9 := cell_of hr 9; have y10 := cell_of hr 10; have y11 := cell_of hr 11
  simp only [List.getElem?_toArray, List.getElem?_cons_zero, List.getElem?_cons_succ] at y0 y1 y2 y3 y4 y5 y6 y7 y8 y9 y10 y11
  have HB := Lib.hid hb
  clear hb1 hb hr
  refine bodyPost_ret (v := .agg #[.int .i64 t.kind, .int .i64 t.id, .int .i64 t.ent, .int .i64 t.frm, .int .i64 t.til, .int .i64 t.ev, .int .i64 t.amt, .int .i64 t.deb, .int .i64 t.cre, .slice t.At t.tg.length t.ct, .slice t.Aw t.wt.length t.cw, .int .i64 t.rk]) (by simp [results, Tryz.results11, go_sem, y0, y1, y2, y3, y4, y5, y6, y7, y8, y9, y10, y11]) rfl ⟨rfl, HB.out⟩
end Go.Proofs.YtjlokkjbdgcooaaGreat

/-
  The statements' helper Small, of plan.
-/
namespace Go.Proofs.YtjlokkjbdgcooaaGreat
open Mo
open Go.RowKit

/-- Templates that are few and short. -/
structure FewT (l : List Tpl) : Prop where
  few : l.length ≤ 8
  items : (itemsK l l.length).length ≤ 120
  short : ∀ t ∈ l, t.tg.length ≤ 20 ∧ t.wt.length ≤ 20
def ShortK (l : List Tpl) (k : Nat) : Prop := ∀ i, i < k → ∀ t, l[i]? = some t → t.tg.length ≤ 20 ∧ t.wt.length ≤ 20
theorem itemsK_le (l : List Tpl) : ∀ k, (itemsK l k).length ≤ k * 1200
  | 0 => Nat.zero_le _
  | k + 1 => by
    have h := itemsK_le l k
    cases hg : l[k]? with
    | none =>
      have e : itemsK l (k + 1) = itemsK l k ++ [] := by show itemsK l k ++ _ = _; rw [hg]
      rw [e, List.length_append, Nat.add_mul]
      exact Nat.le_trans h (Nat.le_add_right _ _)
    | some t =>
      rw [itemsK_succ hg, List.length_append]
      have h2 := perT_le t
      have h3 : (tplI k t).length = (perT t).length := tplP_len _ _ _
      omega
def SmallEnd (l : List Tpl) (w : World) (e : Ending) (w' : World) : Prop := ∃ b, e = .returned (.bool b) ∧ (b = true → FewT l) ∧ Below w.heap.size w w'
theorem tdiv_per {t : Tpl} (h : chkT t = true) : Int.tdiv (t.til - t.frm) t.ev + 1 = ((perT t).length : Int) := by
  obtain ⟨h1, h2, h3, h4, _⟩ := front_of h
  have hp : (perT t).length = perN t.frm t.til t.ev := by unfold perT; rw [if_pos h, perL_len]
  rw [hp, Int.tdiv_eq_ediv_of_nonneg (by omega)]
  unfold perN
  have := Int.ediv_nonneg (a := t.til - t.frm) (b := t.ev) (by omega) (by omega)
  omega
theorem perT_no {t : Tpl} (h : chkT t = false) : perT t = [] := by unfold perT; rw [h]; rfl

set_option maxRecDepth 100000 in
set_option maxHeartbeats 4000000 in
theorem small_any (l : List Tpl) (A : Option Addr) (n c : Nat) (w : World) (hR : Rd w w.heap.size 12 A n (tpls l)) (hin : ∀ t ∈ l, TplIn w t) :
    Calls Tryz.prog 8 #[.slice A n c] w (SmallEnd l w) := by
  have hln := hR.tpls_len
  have HTR : Hid (∀ w1, Below w.heap.size w w1 → Rd w1 w.heap.size 12 A n (tpls l)) := fun w1 h1 => hR.below h1
  have HIN : Hid (∀ t, t ∈ l → ∀ w1, Below w.heap.size w w1 → TplIn w1 t) := fun t ht w1 h1 => (hin t ht).below h1
  have HLN := Lib.hid hln
  clear hR hin hln
  go_enter Tryz.func8, Tryz.ntmps8
  go_wp2_with fail
  go_loopw [3, 4, 5] (fun sv iv _ wr => ∃ k : Nat, k ≤ n ∧ k ≤ 20 ∧ iv = .int .i64 k ∧ sv = .int .i64 ((itemsK l k).length : Int) ∧ ShortK l k ∧ Below w.heap.size w wr) (fun _ iv _ _ => 20 - (intOf iv).toNat)
  case atStart => exact ⟨0, Nat.zero_le _, by omega, rfl, rfl, fun i hi => absurd hi (Nat.not_lt_zero _), Below.refl _ _⟩
  case round =>
    obtain ⟨k, hk, hk20, rfl, rfl, hsh, hbel⟩ := hrel
    by_cases hlt : k < n
    · have hkI : (k : Int) < (n : Int) := by omega
      by_cases hlt2 : k < 20
      · have hkJ : (k : Int) < 20 := by omega
        obtain ⟨ad, t, rfl, hb0, hx, ⟨x0, x1, x2, x3, x4, x5⟩, x6, x7, x8, x9, x10, x11⟩ := (HTR.out _ hbel).tpl hlt
        have HX := Lib.hid (itemsK_succ hx)
        have hmem := List.mem_of_getElem? hx
        obtain ⟨Wt, hWt⟩ : ∃ Wt, wr.alloc (.cells t.cells.toArray 24) = Wt := ⟨_, rfl⟩
        have hbt : Below wr.heap.size wr Wt := by rw [← hWt]; exact (Below.refl _ _).alloc (Nat.le_refl _) _
        have htx : TplAt Wt wr.heap.size t := by rw [← hWt]; exact heap_new wr _
        have HBT : Hid (Below w.heap.size w Wt) := hbel.trans (hbt.mono hbel.size)
        have KR := Lib.hid (refT_any t Wt)
        have HTX := Lib.hid htx
        have HWt := Lib.hid hWt
        have HSH : Hid (t.tg.length ≤ 20 → t.wt.length ≤ 20 → ShortK l (k + 1)) := fun h1 h2 i hi u hu => by
          rcases Nat.lt_or_ge i k with h | h
          · exact hsh i h u hu
          · obtain rfl : i = k := by omega
            rw [hx] at hu
            injection hu with hu
            subst hu
            exact ⟨h1, h2⟩
        have HLE := Lib.hid (itemsK_le l k)
        have KC : Hid (∀ w1, Below w.heap.size w w1 → Calls Tryz.prog 12 #[.agg t.cells.toArray] w1 fun e w' => e = .returned (.bool (chkT t)) ∧ Below w1.heap.size w1 w') := fun w1 h1 => refCheckPlan_any t w1 (HIN.out t hmem w1 h1)
        obtain ⟨⟨y0, y1, y2, y3, y4, y5⟩, y6, y7, y8, y9, y10, y11⟩ := tpl_cells htx
        have hl1 := (HIN.out t hmem _ HBT.out).lt
        have hl2 := (HIN.out t hmem _ HBT.out).lw
        clear hsh hbel hx hmem hWt hbt htx
        by_cases c1 : 20 < (t.tg.length : Int)
        · clear KR KC HSH HX
          unfold Tpl.cells at *
          go_wp2_with fail
          go_ret
          rw [HWt.out]
          exact ⟨false, rfl, fun h => absurd h (by decide), HBT.out⟩
        by_cases c2 : 20 < (t.wt.length : Int)
        · clear KR KC HSH HX
          unfold Tpl.cells at *
          go_wp2_with fail
          go_ret
          rw [HWt.out]
          exact ⟨false, rfl, fun h => absurd h (by decide), HBT.out⟩
        have HS := Lib.hid (HSH.out (by omega) (by omega))
        clear HSH
        unfold Tpl.cells at *
        go_wp2_with fail
        rw [HWt.out]
        go_wp2_with fail
        refine KR.out.mono ?_
        rintro e w3 ⟨rfl, hb3⟩
        have HB3 : Hid (Below w.heap.size w w3) := HBT.out.trans (hb3.mono HBT.out.size)
        have HTX3 := Lib.hid (HTX.out.below hb3)
        clear hb3 KR HWt x0 x1 x2 x3 x4 x5 x6 x7 x8 x9 x10 x11 y0 y1 y2 y3 y4 y5 y6 y7 y8 y9 y10 y11
        go_wp2_with fail
        refine (KC.out w3 HB3.out).mono ?_
        rintro e w4 ⟨rfl, hb4⟩
        have HB4 : Hid (Below w.heap.size w w4) := HB3.out.trans (hb4.mono HB3.out.size)
        obtain ⟨⟨y0, y1, y2, y3, y4, y5⟩, y6, y7, y8, y9, y10, y11⟩ := tpl_cells (HTX3.out.below hb4)
        clear hb4 KC y0 y1 y2 y6 y7 y8 y9 y10 y11
        have HLX : Hid ((itemsK l (k + 1)).length = (itemsK l k).length + (perT t).length) := by
          rw [Hid, HX.out, List.length_append]
          exact congrArg ((itemsK l k).length + ·) (tplP_len _ _ _)
        have hle := HLE.out
        cases hc : chkT t
        · have HE : Hid (((itemsK l k).length : Int) = ((itemsK l (k + 1)).length : Int)) := by rw [Hid, HLX.out, perT_no hc]; rfl
          generalize (itemsK l k).length = S at *
          clear HLX HX HLE hc
          go_wp2_with fail
          exact ⟨⟨k + 1, by omega, by omega, by go_num, congrArg (Value.int .i64) HE.out, HS.out, HB4.out⟩, by simp [intOf]; omega⟩
        · have htd := tdiv_per hc
          have hpl := perT_le t
          obtain ⟨h1, h2, h3, h4, _⟩ := front_of hc
          have HE : Hid (((itemsK l k).length : Int) + ((perT t).length : Int) = ((itemsK l (k + 1)).length : Int)) := by rw [Hid, HLX.out]; simp
          generalize (perT t).length = P at *
          generalize (itemsK l k).length = S at *
          have hev : ¬ t.ev = 0 := by omega
          have hw1 : wrap64 (t.til - t.frm) = t.til - t.frm := by unfold wrap64; omega
          have hw2 : wrap64 (Int.tdiv (t.til - t.frm) t.ev) = Int.tdiv (t.til - t.frm) t.ev := by unfold wrap64; omega
          have hw3 : wrap64 (Int.tdiv (t.til - t.frm) t.ev + 1) = (P : Int) := by rw [htd]; unfold wrap64; omega
          have hw4 : wrap64 ((S : Int) + (P : Int)) = (S : Int) + (P : Int) := by unfold wrap64; omega
          clear HLX HX HLE hc htd h1 h2 h3 h4 hle hpl
          go_wp2_with fail
          exact ⟨⟨k + 1, by omega, by omega, by go_num, by rw [hw4, HE.out], HS.out, HB4.out⟩, by simp [intOf]; omega⟩
      · obtain rfl : k = 20 := by omega
        have HBE := Lib.hid hbel
        have hlt3 : ¬ (n : Int) ≤ 8 := by omega
        clear hsh hbel
        generalize (itemsK l 20).length = S at *
        go_wp2_with fail
        go_ret
        exact ⟨false, rfl, fun h => absurd h (by decide), HBE.out⟩
    · obtain rfl : k = n := by omega
      have HBE := Lib.hid hbel; have HS := Lib.hid hsh
      clear hsh hbel
      obtain ⟨S, hS⟩ : ∃ S, (itemsK l k).length = S := ⟨_, rfl⟩
      have HSS := Lib.hid hS
      rw [hS]
      clear hS
      by_cases h8 : (k : Int) ≤ 8
      · by_cases h120 : (S : Int) ≤ 120
        · go_wp2_with fail
          go_ret
          refine ⟨true, rfl, fun _ => ?_, HBE.out⟩
          have hl := HLN.out
          exact ⟨by omega, by rw [hl, HSS.out]; omega, fun t ht => by
            obtain ⟨i, hi, e⟩ := List.getElem_of_mem ht
            exact HS.out i (by omega) t (by rw [← e]; exact List.getElem?_eq_getElem hi)⟩
        · go_wp2_with fail
          go_ret
          exact ⟨false, rfl, fun h => absurd h (by decide), HBE.out⟩
      · go_wp2_with fail
        go_ret
        exact ⟨false, rfl, fun h => absurd h (by decide), HBE.out⟩
end Go.Proofs.YtjlokkjbdgcooaaGreat

/-
  The statements' helper alive, of plan.
-/
namespace Go.Proofs.YtjlokkjbdgcooaaGreat
open Mo
open Go.RowKit Go.Sort

def t9 : Tpl := ⟨1, 1, 1, 3, 4, 1, 5, 1, 2, [], [], none, 0, none, 0, 0⟩
theorem t9_chk : chkT t9 = true := by decide
theorem t9_per : perT t9 = [3, 4] := by
  unfold perT
  rw [if_pos t9_chk]
  decide
theorem t9_mkL (p id : Int) : mkL t9 p id = accL t9 p id := by unfold mkL; exact if_pos rfl
theorem t9_run : runJ [t9] 10 = some [accJ t9 3 10, revJ (accJ t9 3 10) 11 4, accJ t9 4 12, revJ (accJ t9 4 12) 13 5] := by
  have hi : itemsK [t9] 1 = [⟨3, 0, 0⟩, ⟨4, 0, 0⟩] := by
    rw [itemsK_succ (t := t9) rfl]
    show [] ++ tplP 0 t9.rk (perT t9) = _
    rw [t9_per]
    rfl
  have hp : putsI [] [⟨3, 0, 0⟩, ⟨4, 0, 0⟩] = [⟨3, 0, 0⟩, ⟨4, 0, 0⟩] := by decide
  have m1 : mkB t9 3 10 = true := by unfold mkB; rw [t9_per, t9_mkL, t9_chk]; decide
  have m2 : mkB t9 4 12 = true := by unfold mkB; rw [t9_per, t9_mkL, t9_chk]; decide
  unfold runJ
  rw [show [t9].length = 1 from rfl, hi, hp, runT_step (i := 0) rfl rfl]
  rw [show (10 : Int) + (([] : List Jrn).length : Int) = 10 from rfl, if_pos m1, t9_mkL, show accL t9 3 10 = [accJ t9 3 10, revJ (accJ t9 3 10) 11 4] from rfl, runT_step (i := 0) rfl rfl]
  rw [show (10 : Int) + ((([] : List Jrn) ++ [accJ t9 3 10, revJ (accJ t9 3 10) 11 4]).length : Int) = 12 from rfl, if_pos m2, t9_mkL, show accL t9 4 12 = [accJ t9 4 12, revJ (accJ t9 4 12) 13 5] from rfl]
  rfl

theorem tpl_one (w : World) (t : Tpl) : Rd (w.alloc (.cells t.cells.toArray 24)) (w.alloc (.cells t.cells.toArray 24)).heap.size 12 (some ⟨w.heap.size, 0, none⟩) 1 (tpls [t]) :=
  ⟨rfl, fun _ => ⟨_, rfl, by simp, by
    have := cells_new w t.cells 24
    rwa [show tpls [t] = t.cells by simp [tpls]]⟩⟩
theorem t9_in (w : World) : TplIn w t9 := ⟨⟨rfl, fun h => absurd h (by decide)⟩, ⟨rfl, fun h => absurd h (by decide)⟩, by decide, by decide⟩
theorem chkT_size {js : List Jrn} (h : js = [accJ t9 3 10, revJ (accJ t9 3 10) 11 4, accJ t9 4 12, revJ (accJ t9 4 12) 13 5]) : ∀ j ∈ js, j.ref.size ≤ maxLen ∧ j.lines.length ≤ maxLen := by
  subst h
  intro j hj
  have : j = accJ t9 3 10 ∨ j = revJ (accJ t9 3 10) 11 4 ∨ j = accJ t9 4 12 ∨ j = revJ (accJ t9 4 12) 13 5 := by simpa using hj
  rcases this with rfl | rfl | rfl | rfl <;> exact ⟨Nat.zero_le _, by show 2 ≤ maxLen; unfold maxLen; omega⟩
set_option maxRecDepth 100000 in
set_option maxHeartbeats 4000000 in
theorem alive9_any (w : World) : Calls Tryz.prog 9 #[] w fun e w' => e = .returned (.bool true) ∧ Below w.heap.size w w' := by
  obtain ⟨W, hW⟩ : ∃ W, w.alloc (.cells t9.cells.toArray 24) = W := ⟨_, rfl⟩
  have hb : Below w.heap.size w W := by rw [← hW]; exact (Below.refl _ _).alloc (Nat.le_refl _) _
  have hx : TplAt W w.heap.size t9 := by rw [← hW]; exact heap_new w _
  have hz : W.heap.size = w.heap.size + 1 := by rw [← hW]; simp
  obtain ⟨W2, hW2⟩ : ∃ W2, W.alloc (.cells t9.cells.toArray 24) = W2 := ⟨_, rfl⟩
  have hb2 : Below W.heap.size W W2 := by rw [← hW2]; exact (Below.refl _ _).alloc (Nat.le_refl _) _
  have hrd := tpl_one W t9
  rw [hW2, hz] at hrd
  have kr := run_any 10 [t9] _ 1 1 W2 hrd (fun t ht => by have : t = t9 := by simpa using ht
                                                          subst this; exact t9_in _) (by omega) (by omega)
  rw [t9_run] at kr
  have HB2 : Hid (Below w.heap.size w W2) := hb.trans (hb2.mono hb.size)
  have HX2 : Hid (∀ w', Below W2.heap.size W2 w' → TplAt w' w.heap.size t9) := fun w' h => (hx.below hb2).below h
  have KR := Lib.hid kr
  have HW : Hid (w.alloc (.cells #[.int .i64 1, .int .i64 1, .int .i64 1, .int .i64 3, .int .i64 4, .int .i64 1, .int .i64 5, .int .i64 1, .int .i64 2, .slice none 0 0, .slice none 0 0, .int .i64 0] 24) = W) := hW
  have HW2 : Hid (W.alloc (.cells #[.int .i64 1, .int .i64 1, .int .i64 1, .int .i64 3, .int .i64 4, .int .i64 1, .int .i64 5, .int .i64 1, .int .i64 2, .slice none 0 0, .slice none 0 0, .int .i64 0] 24) = W2) := hW2
  have HZ := Lib.hid hz
  have hx' := hx
  obtain ⟨⟨x0, x1, x2, x3, x4, x5⟩, x6, x7, x8, x9, x10, x11⟩ := tpl_cells hx
  simp only [t9] at x0 x1 x2 x3 x4 x5 x6 x7 x8 x9 x10 x11
  clear hW hb hx hz hW2 hb2 hrd kr hx'
  go_enter Tryz.func9, Tryz.ntmps9
  go_wp2_with fail
  rw [HW.out]
  go_wp2_with fail
  rw [HW2.out]
  refine KR.out.mono ?_
  rintro e w3 ⟨hb3, hres⟩
  rcases hres with ⟨h, _⟩ | ⟨A, c, la, h, rfl, hown⟩
  · cases h
  injection h with hm
  have hb03 : Below w.heap.size w w3 := HB2.out.trans (hb3.mono HB2.out.size)
  have HBW := Lib.hid hb03
  obtain ⟨⟨y0, y1, y2, y3, y4, y5⟩, y6, y7, y8, y9, y10, y11⟩ := tpl_cells (HX2.out w3 hb3)
  simp only [t9] at y0 y1 y2 y3 y4 y5 y6 y7 y8 y9 y10 y11
  have KC : Hid (Calls Tryz.prog 13 #[.agg #[.int .i64 1, .int .i64 1, .int .i64 1, .int .i64 3, .int .i64 4, .int .i64 1, .int .i64 5, .int .i64 1, .int .i64 2, .slice none 0 0, .slice none 0 0, .int .i64 0]] w3 fun e w' => e = .returned (.int .i64 0) ∧ Below w3.heap.size w3 w') := by
    have := checkT_any t9 w3 (t9_in w3)
    rwa [chkTE_yes t9_chk] at this
  obtain ⟨a, b, c', d, rfl, ha, hbj, hd⟩ : ∃ a b c' d, la = [a, b, c', d] ∧ a.j = accJ t9 3 10 ∧ b.j = revJ (accJ t9 3 10) 11 4 ∧ d.j = revJ (accJ t9 4 12) 13 5 := by
    rcases la with _ | ⟨a, _ | ⟨b, _ | ⟨c', _ | ⟨d, _ | ⟨e', r⟩⟩⟩⟩⟩ <;> simp at hm
    exact ⟨a, b, c', d, rfl, hm.1.symm, hm.2.1.symm, hm.2.2.2.symm⟩
  obtain ⟨g, cap, hv, _, _⟩ := hown.own.form (by simp)
  injection hv with hA hn hc
  subst hA
  have q := hown.own.cells (g := g) rfl
  have Q : ∀ j u, (jrs [a, b, c', d])[j]? = some u → w3.cell? ⟨g, j, none⟩ = some u := fun j u hu => by
    have := q j u hu
    rwa [Addr.add_lit, Nat.zero_add] at this
  have c0 : w3.cell? ⟨g, 0, none⟩ = some (.int .i64 10) := (Q 0 _ rfl).trans (by rw [ha]; rfl)
  have c18 : w3.cell? ⟨g, 18, none⟩ = some (.int .i64 13) := (Q 18 _ rfl).trans (by rw [hd]; rfl)
  have c20 : w3.cell? ⟨g, 20, none⟩ = some (.int .i64 5) := (Q 20 _ rfl).trans (by rw [hd]; rfl)
  have hl := hown.lines b (by simp)
  have hl' : w3.ownsRow W2.heap.size 113 3 (.slice b.A b.j.lines.length b.c) b.j.lines.length (lins b.j.lines) := hl
  have c10 : w3.cell? ⟨g, 10, none⟩ = some (.slice b.A b.j.lines.length b.c) := Q 10 _ rfl
  rw [hbj] at hl' c10
  obtain ⟨g1, cap1, hv1, _, _⟩ := hl'.form (by show 0 < 2; omega)
  injection hv1 with hA1 hn1 hc1
  rw [hA1] at hl' c10
  have c1 : w3.cell? ⟨g1, 1, none⟩ = some (.int .i64 (-5)) := by
    have := hl'.cells (g := g1) rfl 1 _ rfl
    rwa [Addr.add_lit, Nat.zero_add] at this
  replace c10 : w3.cell? ⟨g, 10, none⟩ = some (.slice (some ⟨g1, 0, none⟩) 2 b.c) := c10
  clear hb3 hown hm hb03 ha hbj hd q Q hl hl' KR HW HW2 x0 x1 x2 x3 x4 x5 x6 x7 x8 x9 x10 x11
  go_wp2_with fail
  refine KC.out.mono ?_
  rintro e w4 ⟨rfl, hb4⟩
  have HB4 := Lib.hid (HBW.out.trans (hb4.mono HBW.out.size))
  clear hb4 KC y0 y1 y2 y3 y4 y5 y6 y7 y8 y9 y10 y11
  go_wp2_with fail
  go_ret
  exact ⟨rfl, HB4.out⟩
end Go.Proofs.YtjlokkjbdgcooaaGreat

/-
  Parts of a function's code. No code of the program.
-/
namespace Go.Proofs.YtjlokkjbdgcooaaGreat
open Go.RowKit

/-- The part of a code that a way leads to: 0 the first half, 1 the second one; a block's, a loop's inside is 0. -/
def subCode : List Nat → Code → Code
  | [], c => c
  | 0 :: r, .seq a _ => subCode r a
  | _ :: r, .seq _ b => subCode r b
  | 0 :: r, .cond _ a _ => subCode r a
  | _ :: r, .cond _ _ b => subCode r b
  | _ :: r, .block _ c => subCode r c
  | _ :: r, .loop c => subCode r c
  | _ :: r, .scope c => subCode r c
  | _ :: _, c => c
end Go.Proofs.YtjlokkjbdgcooaaGreat

/-
  PlanTells: both lists of a template lent, in whatever order.
-/
namespace Go.Proofs.YtjlokkjbdgcooaaGreat
open Go.RowKit

def lentT (t : Tpl) (g1 cap1 g2 cap2 : Nat) : Tpl := { t with At := some ⟨g1, 0, none⟩, ct := cap1, Aw := some ⟨g2, 0, none⟩, cw := cap2 }
def onEndT (Q : Act → World → Prop) : Exit → Act → World → Prop := fun e a w => match e with | .normal => Q a w | _ => False
theorem wp_onEndT {P : Program} {c : Code} {Q : Exit → Act → World → Prop} {a : Act} {w : World} (h : Code.wp P c (onEndT (Q .normal)) a w) : Code.wp P c Q a w :=
  wp_mono h fun e _ _ hh => by
    cases e with
    | normal => exact hh
    | _ => exact hh.elim
noncomputable def ptR4 : Code := subCode [1, 1, 1, 0] (Tryz.f3.body.getD .skip)
set_option maxRecDepth 100000 in
set_option maxHeartbeats 4000000 in
theorem ptR4_any (s0 s1 s2 s4 s5 s6 s8 s9 s10 s11 s12 s13 s14 s15 s16 s17 s18 s19 s20 s21 s22 s23 s24 s25 s26 s27 s28 s29 s30 s31 s32 s33 s34 s35 s36 s37 s38 s39 s40 s41 s42 s43 s44 s45 s46 s47 s48 s49 s50 s51 s52 s53 s54 s55 s56 s57 s58 s59 s60 s61 s62 s63 s64 s65 s66 s67 s68 s69 s70 s71 s72 s73 s74 s75 s76 s77 s78 s79 s80 s81 s82 s83 s84 s85 s86 s87 s88 s89 s90 s91 s92 s93 s94 s95 s96 s97 s98 s99 s100 s101 s102 s103 s104 s105 s106 s107 s108 s109 s110 s111 s112 s113 s114 s115 s116 s117 s118 s119 s120 s121 s122 s123 s124 s125 s126 s127 s128 s129 s130 s131 s132 s133 s134 : Value) (Q0 : Exit → Act → World → Prop) (t : Tpl) (tb mb : Nat) (W : World) (hx : TplAt W tb t) (hm : TplAt W mb t) (hlt : tb < mb)
    (HL1 : ∀ w1, Below W.heap.size W w1 → Calls Tryz.prog 10 #[.slice t.At t.tg.length t.ct] w1 fun e w' => ∃ g cap, e = .returned (.slice (some ⟨g, 0, none⟩) t.tg.length cap) ∧ LentAt w' w1.heap.size g cap t.tg ∧ Below w1.heap.size w1 w')
    (HL2 : ∀ w1, Below W.heap.size W w1 → Calls Tryz.prog 10 #[.slice t.Aw t.wt.length t.cw] w1 fun e w' => ∃ g cap, e = .returned (.slice (some ⟨g, 0, none⟩) t.wt.length cap) ∧ LentAt w' w1.heap.size g cap t.wt ∧ Below w1.heap.size w1 w')
    (hQ : ∀ (u27 u28 u29 u30 u31 u32 u33 u34 : Value) (g1 cap1 g2 cap2 : Nat) (w' : World), TplAt w' tb t → TplAt w' mb (lentT t g1 cap1 g2 cap2) → LentAt w' W.heap.size g1 cap1 t.tg → LentAt w' W.heap.size g2 cap2 t.wt → Below mb W w' →
      Q0 .normal ⟨#[s0, s1, s2, .pointer (some ⟨tb, 0, none⟩), s4, s5, s6, .pointer (some ⟨mb, 0, none⟩), s8, s9, s10, s11, s12, s13, s14, s15, s16, s17, s18, s19, s20, s21, s22, s23, s24, s25, s26, u27, u28, u29, u30, u31, u32, u33, u34, s35, s36, s37, s38, s39, s40, s41, s42, s43, s44, s45, s46, s47, s48, s49, s50, s51, s52, s53, s54, s55, s56, s57, s58, s59, s60, s61, s62, s63, s64, s65, s66, s67, s68, s69, s70, s71, s72, s73, s74, s75, s76, s77, s78, s79, s80, s81, s82, s83, s84, s85, s86, s87, s88, s89, s90, s91, s92, s93, s94, s95, s96, s97, s98, s99, s100, s101, s102, s103, s104, s105, s106, s107, s108, s109, s110, s111, s112, s113, s114, s115, s116, s117, s118, s119, s120, s121, s122, s123, s124, s125, s126, s127, s128, s129, s130, s131, s132, s133, s134], []⟩ w') :
    Code.wp Tryz.prog ptR4 Q0 ⟨#[s0, s1, s2, .pointer (some ⟨tb, 0, none⟩), s4, s5, s6, .pointer (some ⟨mb, 0, none⟩), s8, s9, s10, s11, s12, s13, s14, s15, s16, s17, s18, s19, s20, s21, s22, s23, s24, s25, s26, s27, s28, s29, s30, s31, s32, s33, s34, s35, s36, s37, s38, s39, s40, s41, s42, s43, s44, s45, s46, s47, s48, s49, s50, s51, s52, s53, s54, s55, s56, s57, s58, s59, s60, s61, s62, s63, s64, s65, s66, s67, s68, s69, s70, s71, s72, s73, s74, s75, s76, s77, s78, s79, s80, s81, s82, s83, s84, s85, s86, s87, s88, s89, s90, s91, s92, s93, s94, s95, s96, s97, s98, s99, s100, s101, s102, s103, s104, s105, s106, s107, s108, s109, s110, s111, s112, s113, s114, s115, s116, s117, s118, s119, s120, s121, s122, s123, s124, s125, s126, s127, s128, s129, s130, s131, s132, s133, s134], []⟩ W := by
  have KL1 := Lib.hid (HL1 W.drew (Below.refl _ W).drew)
  have HL2' : Hid (∀ w1, Below W.heap.size W w1 → Calls Tryz.prog 10 #[.slice t.Aw t.wt.length t.cw] w1 fun e w' => ∃ g cap, e = .returned (.slice (some ⟨g, 0, none⟩) t.wt.length cap) ∧ LentAt w' w1.heap.size g cap t.wt ∧ Below w1.heap.size w1 w') := HL2
  have hml := lt_of_blk hm
  have htl := lt_of_blk hx
  -- what stands behind both calls
  have HEND : Hid (∀ (g1 cap1 g2 cap2 : Nat) (w6 w7 : World), LentAt w6 W.heap.size g1 cap1 t.tg → Below W.heap.size W w6 → LentAt w7 w6.heap.size g2 cap2 t.wt → Below w6.heap.size w6 w7 →
      (w7.cell? ⟨mb, 9, none⟩ = some (.slice t.At t.tg.length t.ct) ∧ w7.cell? ⟨mb, 10, none⟩ = some (.slice t.Aw t.wt.length t.cw) ∧ w7.frozen? ⟨mb, 9, none⟩ = false ∧ w7.frozen? ⟨mb, 10, none⟩ = false) ∧
      ∀ (u27 u28 u29 u30 u31 u32 u33 u34 : Value), Q0 .normal ⟨#[s0, s1, s2, .pointer (some ⟨tb, 0, none⟩), s4, s5, s6, .pointer (some ⟨mb, 0, none⟩), s8, s9, s10, s11, s12, s13, s14, s15, s16, s17, s18, s19, s20, s21, s22, s23, s24, s25, s26, u27, u28, u29, u30, u31, u32, u33, u34, s35, s36, s37, s38, s39, s40, s41, s42, s43, s44, s45, s46, s47, s48, s49, s50, s51, s52, s53, s54, s55, s56, s57, s58, s59, s60, s61, s62, s63, s64, s65, s66, s67, s68, s69, s70, s71, s72, s73, s74, s75, s76, s77, s78, s79, s80, s81, s82, s83, s84, s85, s86, s87, s88, s89, s90, s91, s92, s93, s94, s95, s96, s97, s98, s99, s100, s101, s102, s103, s104, s105, s106, s107, s108, s109, s110, s111, s112, s113, s114, s115, s116, s117, s118, s119, s120, s121, s122, s123, s124, s125, s126, s127, s128, s129, s130, s131, s132, s133, s134], []⟩ ((w7.setCell ⟨mb, 9, none⟩ (.slice (some ⟨g1, 0, none⟩) t.tg.length cap1)).setCell ⟨mb, 10, none⟩ (.slice (some ⟨g2, 0, none⟩) t.wt.length cap2))) := by
    intro g1 cap1 g2 cap2 w6 w7 h1 h2 h3 h4
    have hb7 : Below W.heap.size W w7 := h2.trans (h4.mono h2.size)
    have hm7 := hm.below hb7
    have hx7 := hx.below hb7
    have hz := h2.size
    obtain ⟨a1, a2, a3⟩ := h1.cap_ge
    obtain ⟨a4, a5, a6⟩ := h3.cap_ge
    have h17 := h1.below h4
    refine ⟨⟨cell_of hm7 9, cell_of hm7 10, warm_of hm7 9, warm_of hm7 10⟩, fun u27 u28 u29 u30 u31 u32 u33 u34 => hQ _ _ _ _ _ _ _ _ g1 cap1 g2 cap2 _ ?_ ?_ ?_ ?_ ?_⟩
    · unfold TplAt
      rw [Below.heap_setCell _ _ _ _ (by show tb ≠ mb; omega), Below.heap_setCell _ _ _ _ (by show tb ≠ mb; omega)]
      exact hx7
    · exact set_here (set_here hm7)
    · refine own_kept (own_kept h17 fun k _ hk => Below.heap_setCell _ _ _ _ ?_) fun k _ hk => Below.heap_setCell _ _ _ _ ?_
      · have := own_ge h17 k hk; show k ≠ mb; omega
      · have := own_ge h17 k hk; show k ≠ mb; omega
    · refine own_base (own_kept (own_kept h3 fun k _ hk => Below.heap_setCell _ _ _ _ ?_) fun k _ hk => Below.heap_setCell _ _ _ _ ?_) hz
      · have := own_ge h3 k hk; show k ≠ mb; omega
      · have := own_ge h3 k hk; show k ≠ mb; omega
    · exact ((hb7.mono (Nat.le_of_lt hml)).setCell (Nat.le_refl _) _).setCell (Nat.le_refl _) _
  have HX := Lib.hid hx
  have x9 : W.drew.cell? ⟨tb, 9, none⟩ = some (.slice t.At t.tg.length t.ct) := (tpl_cells hx).2.2.2.2.1
  have x10 : W.drew.cell? ⟨tb, 10, none⟩ = some (.slice t.Aw t.wt.length t.cw) := (tpl_cells hx).2.2.2.2.2.1
  have hne : ¬ tb = mb := by omega
  have hne2 : ¬ mb = tb := by omega
  clear hQ HL1 HL2 hx hm
  refine wp_onEndT ?_
  conv => arg 2; whnf
  conv => arg 4; dsimp only
  go_region_held3 (fun w' => w'.cell? ⟨tb, 9, none⟩ = some (.slice t.At t.tg.length t.ct) ∧ w'.cell? ⟨tb, 10, none⟩ = some (.slice t.Aw t.wt.length t.cw)) (first | exact ⟨x9, x10⟩ | exact ⟨z9, z10⟩ | exact ⟨u9, u10⟩ | (go_keep; done)) (first
    | (go_at_call 10; refine KL1.out.mono ?_; rintro e w6 ⟨g1, cap1, rfl, hl1, hb6⟩; have hbw6 : Below W.heap.size W w6 := ((Below.refl _ W).drew).trans hb6; have z9 := (tpl_cells (HX.out.below hbw6)).2.2.2.2.1; have z10 := (tpl_cells (HX.out.below hbw6)).2.2.2.2.2.1; have KL2 := Lib.hid (HL2'.out w6 hbw6); have HL1B := Lib.hid hl1; have HB6 := Lib.hid hbw6; clear hl1 hb6 hbw6)
    | (go_at_call 10; refine KL2.out.mono ?_; rintro e w7 ⟨g2, cap2, rfl, hl2, hb7⟩; have hbw7 : Below W.heap.size W w7 := HB6.out.trans (hb7.mono HB6.out.size); have u9 := (tpl_cells (HX.out.below hbw7)).2.2.2.2.1; have u10 := (tpl_cells (HX.out.below hbw7)).2.2.2.2.2.1; obtain ⟨⟨c9, c10, f9, f10⟩, hfin⟩ := HEND.out g1 cap1 g2 cap2 w6 w7 HL1B.out HB6.out hl2 hb7; have HFIN := Lib.hid hfin; clear hfin hl2 hb7 hbw7))
  all_goals
    first | exact HFIN.out _ _ _ _ _ _ _ _ | trace_state
end Go.Proofs.YtjlokkjbdgcooaaGreat
