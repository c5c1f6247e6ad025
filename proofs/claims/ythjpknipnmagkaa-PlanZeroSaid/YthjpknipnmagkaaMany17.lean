/-
  Several texts, one behind the other: what each holds stands ahead of it.
-/
import Derived.Test.YthjpknipnmagkaaRefPlan

/-
  The statements' helpers Ref and Small, of plan.
-/
namespace Go.Proofs.Ythjpknipnmagkaa
open Mo
open Go.RowKit

theorem tpl_regrown {w : World} {b : Nat} {t : Tpl} {T : TypeId} (h : w.heap[b]? = some (.cells t.cells.toArray T (0, 0))) : (∀ o, w.frozen? ⟨b, o, none⟩ = false) := fun o => warm_of h o
set_option maxRecDepth 100000 in
set_option maxHeartbeats 4000000 in
theorem refT_any (t : Tpl) (w : World) : Calls Try.prog 10 #[.agg t.cells.toArray] w fun e w' => e = .returned (.agg t.cells.toArray) ∧ Below w.heap.size w w' := by
  unfold Tpl.cells
  go_enter Try.func10, Try.ntmps10
  go_wp2_with fail
  have hb1 : Below w.heap.size w (w.alloc (.cells t.cells.toArray 24)) := (Below.refl _ _).alloc (Nat.le_refl _) _
  have hb := hb1.alloc hb1.size (.cells t.cells.toArray 27)
  have hr := heap_new (w.alloc (.cells t.cells.toArray 24)) (.cells t.cells.toArray 27)
  rw [show (w.alloc (.cells t.cells.toArray 24)).heap.size = w.heap.size + 1 by simp] at hr
  unfold Tpl.cells at hb hr
  generalize World.alloc (World.alloc w _) _ = W3 at *
  have y0 := cell_of hr 0; have y1 := cell_of hr 1; have y2 := cell_of hr 2; have y3 := cell_of hr 3; have y4 := cell_of hr 4; have y5 := cell_of hr 5
  have y6 := cell_of hr 6; have y7 := cell_of hr 7; have y8 := cell_of hr 8; have y9 := cell_of hr 9; have y10 := cell_of hr 10; have y11 := cell_of hr 11
  simp only [List.getElem?_toArray, List.getElem?_cons_zero, List.getElem?_cons_succ] at y0 y1 y2 y3 y4 y5 y6 y7 y8 y9 y10 y11
  have HB := Lib.hid hb
  clear hb1 hb hr
  refine bodyPost_ret (v := .agg #[.int .i64 t.kind, .int .i64 t.id, .int .i64 t.ent, .int .i64 t.frm, .int .i64 t.til, .int .i64 t.ev, .int .i64 t.amt, .int .i64 t.deb, .int .i64 t.cre, .slice t.At t.tg.length t.ct, .slice t.Aw t.wt.length t.cw, .int .i64 t.rk]) (by simp [results, Try.results10, go_sem, y0, y1, y2, y3, y4, y5, y6, y7, y8, y9, y10, y11]) rfl ⟨rfl, HB.out⟩
end Go.Proofs.Ythjpknipnmagkaa

/-
  The statements' helper Small, of plan.
-/
namespace Go.Proofs.Ythjpknipnmagkaa
open Mo
open Go.RowKit

/-- Templates that are few and short. -/
structure FewT (l : List Tpl) : Prop where
  few : l.length ≤ 8
  items : (itemsK l l.length).length ≤ 120
  short : ∀ t ∈ l, t.tg.length ≤ 20 ∧ t.wt.length ≤ 20
def ShortK (l : List Tpl) (k : Nat) : Prop := ∀ i, i < k → ∀ t, l[i]? = some t → t.tg.length ≤ 20 ∧ t.wt.length ≤ 20
theorem itemsK_le (l : List Tpl) : ∀ k, (itemsK l k).length ≤ k * 1200
  | 0 => Nat.zero_le _
  | k + 1 => by
    have h := itemsK_le l k
    cases hg : l[k]? with
    | none =>
      have e : itemsK l (k + 1) = itemsK l k ++ [] := by show itemsK l k ++ _ = _; rw [hg]
      rw [e, List.length_append, Nat.add_mul]
      exact Nat.le_trans h (Nat.le_add_right _ _)
    | some t =>
      rw [itemsK_succ hg, List.length_append]
      have h2 := perT_le t
      have h3 : (tplI k t).length = (perT t).length := tplP_len _ _ _
      omega
def SmallEnd (l : List Tpl) (w : World) (e : Ending) (w' : World) : Prop := ∃ b, e = .returned (.bool b) ∧ (b = true → FewT l) ∧ Below w.heap.size w w'
theorem tdiv_per {t : Tpl} (h : chkT t = true) : Int.tdiv (t.til - t.frm) t.ev + 1 = ((perT t).length : Int) := by
  obtain ⟨h1, h2, h3, h4, _⟩ := front_of h
  have hp : (perT t).length = perN t.frm t.til t.ev := by unfold perT; rw [if_pos h, perL_len]
  rw [hp, Int.tdiv_eq_ediv_of_nonneg (by omega)]
  unfold perN
  have := Int.ediv_nonneg (a := t.til - t.frm) (b := t.ev) (by omega) (by omega)
  omega
theorem perT_no {t : Tpl} (h : chkT t = false) : perT t = [] := by unfold perT; rw [h]; rfl

set_option maxRecDepth 100000 in
set_option maxHeartbeats 4000000 in
theorem small_any (l : List Tpl) (A : Option Addr) (n c : Nat) (w : World) (hR : Rd w w.heap.size 12 A n (tpls l)) (hin : ∀ t ∈ l, TplIn w t) :
    Calls Try.prog 8 #[.slice A n c] w (SmallEnd l w) := by
  have hln := hR.tpls_len
  have HTR : Hid (∀ w1, Below w.heap.size w w1 → Rd w1 w.heap.size 12 A n (tpls l)) := fun w1 h1 => hR.below h1
  have HIN : Hid (∀ t, t ∈ l → ∀ w1, Below w.heap.size w w1 → TplIn w1 t) := fun t ht w1 h1 => (hin t ht).below h1
  have HLN := Lib.hid hln
  clear hR hin hln
  go_enter Try.func8, Try.ntmps8
  go_wp2_with fail
  go_loopw [3, 4, 5] (fun sv iv _ wr => ∃ k : Nat, k ≤ n ∧ k ≤ 20 ∧ iv = .int .i64 k ∧ sv = .int .i64 ((itemsK l k).length : Int) ∧ ShortK l k ∧ Below w.heap.size w wr) (fun _ iv _ _ => 20 - (intOf iv).toNat)
  case atStart => exact ⟨0, Nat.zero_le _, by omega, rfl, rfl, fun i hi => absurd hi (Nat.not_lt_zero _), Below.refl _ _⟩
  case round =>
    obtain ⟨k, hk, hk20, rfl, rfl, hsh, hbel⟩ := hrel
    by_cases hlt : k < n
    · have hkI : (k : Int) < (n : Int) := by omega
      by_cases hlt2 : k < 20
      · have hkJ : (k : Int) < 20 := by omega
        obtain ⟨ad, t, rfl, hb0, hx, ⟨x0, x1, x2, x3, x4, x5⟩, x6, x7, x8, x9, x10, x11⟩ := (HTR.out _ hbel).tpl hlt
        have HX := Lib.hid (itemsK_succ hx)
        have hmem := List.mem_of_getElem? hx
        obtain ⟨Wt, hWt⟩ : ∃ Wt, wr.alloc (.cells t.cells.toArray 24) = Wt := ⟨_, rfl⟩
        have hbt : Below wr.heap.size wr Wt := by rw [← hWt]; exact (Below.refl _ _).alloc (Nat.le_refl _) _
        have htx : TplAt Wt wr.heap.size t := by rw [← hWt]; exact heap_new wr _
        have HBT : Hid (Below w.heap.size w Wt) := hbel.trans (hbt.mono hbel.size)
        have KR := Lib.hid (refT_any t Wt)
        have HTX := Lib.hid htx
        have HWt := Lib.hid hWt
        have HSH : Hid (t.tg.length ≤ 20 → t.wt.length ≤ 20 → ShortK l (k + 1)) := fun h1 h2 i hi u hu => by
          rcases Nat.lt_or_ge i k with h | h
          · exact hsh i h u hu
          · obtain rfl : i = k := by omega
            rw [hx] at hu
            injection hu with hu
            subst hu
            exact ⟨h1, h2⟩
        have HLE := Lib.hid (itemsK_le l k)
        have KC : Hid (∀ w1, Below w.heap.size w w1 → Calls Try.prog 9 #[.agg t.cells.toArray] w1 fun e w' => e = .returned (.bool (chkT t)) ∧ Below w1.heap.size w1 w') := fun w1 h1 => refCheckPlan_any t w1 (HIN.out t hmem w1 h1)
        obtain ⟨⟨y0, y1, y2, y3, y4, y5⟩, y6, y7, y8, y9, y10, y11⟩ := tpl_cells htx
        have hl1 := (HIN.out t hmem _ HBT.out).lt
        have hl2 := (HIN.out t hmem _ HBT.out).lw
        clear hsh hbel hx hmem hWt hbt htx
        by_cases c1 : 20 < (t.tg.length : Int)
        · clear KR KC HSH HX
          unfold Tpl.cells at *
          go_wp2_with fail
          go_ret
          rw [HWt.out]
          exact ⟨false, rfl, fun h => absurd h (by decide), HBT.out⟩
        by_cases c2 : 20 < (t.wt.length : Int)
        · clear KR KC HSH HX
          unfold Tpl.cells at *
          go_wp2_with fail
          go_ret
          rw [HWt.out]
          exact ⟨false, rfl, fun h => absurd h (by decide), HBT.out⟩
        have HS := Lib.hid (HSH.out (by omega) (by omega))
        clear HSH
        unfold Tpl.cells at *
        go_wp2_with fail
        rw [HWt.out]
        go_wp2_with fail
        refine KR.out.mono ?_
        rintro e w3 ⟨rfl, hb3⟩
        have HB3 : Hid (Below w.heap.size w w3) := HBT.out.trans (hb3.mono HBT.out.size)
        have HTX3 := Lib.hid (HTX.out.below hb3)
        clear hb3 KR HWt x0 x1 x2 x3 x4 x5 x6 x7 x8 x9 x10 x11 y0 y1 y2 y3 y4 y5 y6 y7 y8 y9 y10 y11
        go_wp2_with fail
        refine (KC.out w3 HB3.out).mono ?_
        rintro e w4 ⟨rfl, hb4⟩
        have HB4 : Hid (Below w.heap.size w w4) := HB3.out.trans (hb4.mono HB3.out.size)
        obtain ⟨⟨y0, y1, y2, y3, y4, y5⟩, y6, y7, y8, y9, y10, y11⟩ := tpl_cells (HTX3.out.below hb4)
        clear hb4 KC y0 y1 y2 y6 y7 y8 y9 y10 y11
        have HLX : Hid ((itemsK l (k + 1)).length = (itemsK l k).length + (perT t).length) := by
          rw [Hid, HX.out, List.length_append]
          exact congrArg ((itemsK l k).length + ·) (tplP_len _ _ _)
        have hle := HLE.out
        cases hc : chkT t
        · have HE : Hid (((itemsK l k).length : Int) = ((itemsK l (k + 1)).length : Int)) := by rw [Hid, HLX.out, perT_no hc]; rfl
          generalize (itemsK l k).length = S at *
          clear HLX HX HLE hc
          go_wp2_with fail
          exact ⟨⟨k + 1, by omega, by omega, by go_num, congrArg (Value.int .i64) HE.out, HS.out, HB4.out⟩, by simp [intOf]; omega⟩
        · have htd := tdiv_per hc
          have hpl := perT_le t
          obtain ⟨h1, h2, h3, h4, _⟩ := front_of hc
          have HE : Hid (((itemsK l k).length : Int) + ((perT t).length : Int) = ((itemsK l (k + 1)).length : Int)) := by rw [Hid, HLX.out]; simp
          generalize (perT t).length = P at *
          generalize (itemsK l k).length = S at *
          have hev : ¬ t.ev = 0 := by omega
          have hw1 : wrap64 (t.til - t.frm) = t.til - t.frm := by unfold wrap64; omega
          have hw2 : wrap64 (Int.tdiv (t.til - t.frm) t.ev) = Int.tdiv (t.til - t.frm) t.ev := by unfold wrap64; omega
          have hw3 : wrap64 (Int.tdiv (t.til - t.frm) t.ev + 1) = (P : Int) := by rw [htd]; unfold wrap64; omega
          have hw4 : wrap64 ((S : Int) + (P : Int)) = (S : Int) + (P : Int) := by unfold wrap64; omega
          clear HLX HX HLE hc htd h1 h2 h3 h4 hle hpl
          go_wp2_with fail
          exact ⟨⟨k + 1, by omega, by omega, by go_num, by rw [hw4, HE.out], HS.out, HB4.out⟩, by simp [intOf]; omega⟩
      · obtain rfl : k = 20 := by omega
        have HBE := Lib.hid hbel
        have hlt3 : ¬ (n : Int) ≤ 8 := by omega
        clear hsh hbel
        generalize (itemsK l 20).length = S at *
        go_wp2_with fail
        go_ret
        exact ⟨false, rfl, fun h => absurd h (by decide), HBE.out⟩
    · obtain rfl : k = n := by omega
      have HBE := Lib.hid hbel; have HS := Lib.hid hsh
      clear hsh hbel
      obtain ⟨S, hS⟩ : ∃ S, (itemsK l k).length = S := ⟨_, rfl⟩
      have HSS := Lib.hid hS
      rw [hS]
      clear hS
      by_cases h8 : (k : Int) ≤ 8
      · by_cases h120 : (S : Int) ≤ 120
        · go_wp2_with fail
          go_ret
          refine ⟨true, rfl, fun _ => ?_, HBE.out⟩
          have hl := HLN.out
          exact ⟨by omega, by rw [hl, HSS.out]; omega, fun t ht => by
            obtain ⟨i, hi, e⟩ := List.getElem_of_mem ht
            exact HS.out i (by omega) t (by rw [← e]; exact List.getElem?_eq_getElem hi)⟩
        · go_wp2_with fail
          go_ret
          exact ⟨false, rfl, fun h => absurd h (by decide), HBE.out⟩
      · go_wp2_with fail
        go_ret
        exact ⟨false, rfl, fun h => absurd h (by decide), HBE.out⟩
end Go.Proofs.Ythjpknipnmagkaa
