/-
  Contracts of plan's kindOf, Check.
-/
import Derived.Test.YthjpknipnmagkaaPlanCheck2
import Derived.Laws.EntriesVeiled
namespace Go.Proofs.Ythjpknipnmagkaa
open Mo
open Go.RowKit

/-- A kind: what it asks of a template, and its journals. -/
def kindV (n : Int) : Value :=
  if n = 1 then .agg #[.func (.func 59) #[] #[], .func (.func 60) #[] #[]]
  else if n = 2 then .agg #[.func (.func 61) #[] #[], .func (.func 62) #[] #[]]
  else .agg #[.nilFunc, .nilFunc]
set_option maxRecDepth 100000 in
set_option maxHeartbeats 1000000 in
theorem kindOf_any (n : Int) (w : World) : Calls Try.prog 34 #[.int .i64 n] w fun e w' => e = .returned (.tuple #[kindV n, .bool (decide (n = 1) || decide (n = 2))]) ∧ Below w.heap.size w w' := by
  have HB : Hid (∀ f g : Value, Below w.heap.size w (w.alloc (.cells #[f, g] 77))) := fun f g => (Below.refl _ _).alloc (Nat.le_refl _) _
  by_cases h1 : n = 1
  · subst h1
    show Calls _ _ _ _ fun e w' => e = .returned (.tuple #[.agg #[.func (.func 59) #[] #[], .func (.func 60) #[] #[]], .bool true]) ∧ _
    go_enter Try.func34, Try.ntmps34
    go_wp2_with fail
    refine bodyPost_ret (v := .tuple #[.agg #[.func (.func 59) #[] #[], .func (.func 60) #[] #[]], .bool true]) (by simp [results, Try.results34, go_sem]) rfl ⟨rfl, HB.out _ _⟩
  by_cases h2 : n = 2
  · subst h2
    show Calls _ _ _ _ fun e w' => e = .returned (.tuple #[.agg #[.func (.func 61) #[] #[], .func (.func 62) #[] #[]], .bool true]) ∧ _
    go_enter Try.func34, Try.ntmps34
    go_wp2_with fail
    refine bodyPost_ret (v := .tuple #[.agg #[.func (.func 61) #[] #[], .func (.func 62) #[] #[]], .bool true]) (by simp [results, Try.results34, go_sem]) rfl ⟨rfl, HB.out _ _⟩
  have e1 : (n == 1) = false := by simpa using h1
  have e2 : (n == 2) = false := by simpa using h2
  have hk : kindV n = .agg #[.nilFunc, .nilFunc] := by unfold kindV; rw [if_neg h1, if_neg h2]
  rw [hk, decide_eq_false h1, decide_eq_false h2]
  clear h1 h2 hk
  go_enter Try.func34, Try.ntmps34
  go_wp2_with fail
  refine bodyPost_ret (v := .tuple #[.agg #[.nilFunc, .nilFunc], .bool false]) (by simp [results, Try.results34, go_sem]) rfl ⟨rfl, HB.out _ _⟩

set_option maxRecDepth 100000 in
set_option maxHeartbeats 2000000 in
theorem checkT_any (t : Tpl) (w : World) (h : TplIn w t) : Calls Try.prog 31 #[.agg t.cells.toArray] w fun e w' => e = .returned (.int .i64 (chkTE t)) ∧ Below w.heap.size w w' := by
  obtain ⟨W, hW⟩ : ∃ W, w.alloc (.cells t.cells.toArray 24) = W := ⟨_, rfl⟩
  have hb : Below w.heap.size w W := by rw [← hW]; exact (Below.refl _ _).alloc (Nat.le_refl _) _
  have hx : TplAt W w.heap.size t := by rw [← hW]; exact heap_new w _
  have hin := h.below hb
  have HW := Lib.hid hW; have HB := Lib.hid hb
  have HTX : Hid (∀ w1, Below W.heap.size W w1 → TplAt w1 w.heap.size t) := fun w1 hb1 => hx.below hb1
  have HIN : Hid (∀ w1, Below W.heap.size W w1 → TplIn w1 t) := fun w1 hb1 => hin.below hb1
  have HFIN : Hid (∀ w1, Below W.heap.size W w1 → Below w.heap.size w w1) := fun w1 hb1 => hb.trans (hb1.mono hb.size)
  have kk := Lib.hid (kindOf_any t.kind W)
  have KF : Hid (∀ w1, Calls Try.prog 57 #[.agg t.cells.toArray] w1 fun e w' => e = .returned (.bool (frontT t)) ∧ Below w1.heap.size w1 w') := fun w1 => front_any t w1
  have K1 : Hid (∀ w1, Calls Try.prog 59 #[.agg t.cells.toArray] w1 fun e w' => e = .returned (.bool (accrT t)) ∧ Below w1.heap.size w1 w') := fun w1 => accr_any t w1
  have K2 : Hid (∀ w1, Below W.heap.size W w1 → Calls Try.prog 61 #[.agg t.cells.toArray] w1 fun e w' => e = .returned (.bool (allocT t)) ∧ Below w1.heap.size w1 w') := fun w1 hb1 => allocB_any t w1 (HIN.out w1 hb1)
  have HE : Hid (chkTE t = if (frontT t && ((decide (t.kind = 1) && accrT t) || (decide (t.kind = 2) && allocT t))) = true then 0 else 1) := rfl
  obtain ⟨⟨x0, _, _, _, _, _⟩, _⟩ := tpl_cells hx
  clear hW hb hx hin h HIN
  generalize chkTE t = R at *
  generalize frontT t = F at *
  generalize accrT t = A at *
  generalize allocT t = L at *
  have HALT : Hid ((t.kind = 1 ∧ F = true ∧ R = if A = true then 0 else 1) ∨ (t.kind = 2 ∧ F = true ∧ R = if L = true then 0 else 1) ∨ (t.kind = 1 ∧ F = false ∧ R = 1) ∨ (t.kind = 2 ∧ F = false ∧ R = 1) ∨ (t.kind ≠ 1 ∧ t.kind ≠ 2 ∧ R = 1)) := by
    unfold Hid
    rw [HE.out]
    by_cases h1 : t.kind = 1
    · cases F <;> simp [h1]
    · by_cases h2 : t.kind = 2
      · cases F <;> simp [h2]
      · simp [h1, h2]
  have HT2 := Lib.hid (fun w1 hb1 => tpl_cells (HTX.out w1 hb1))
  clear HE HTX
  unfold Tpl.cells at *
  generalize t.kind = kd at *
  rcases HALT.out with ⟨rfl, rfl, hR⟩ | ⟨rfl, rfl, hR⟩ | ⟨rfl, rfl, hR⟩ | ⟨rfl, rfl, hR⟩ | ⟨h1, h2, hR⟩
  all_goals
    try have hdec : (decide (kd = 1) || decide (kd = 2)) = false := by simp [h1, h2]
    try have hkv : kindV kd = .agg #[.nilFunc, .nilFunc] := by unfold kindV; rw [if_neg h1, if_neg h2]
    try rw [hdec, hkv] at kk
    try change Hid (Calls _ _ _ _ fun e w' => e = .returned (.tuple #[.agg #[.func (.func 59) #[] #[], .func (.func 60) #[] #[]], .bool true]) ∧ _) at kk
    try change Hid (Calls _ _ _ _ fun e w' => e = .returned (.tuple #[.agg #[.func (.func 61) #[] #[], .func (.func 62) #[] #[]], .bool true]) ∧ _) at kk
    have HR := Lib.hid hR
    try clear hdec
    try clear hkv
    try clear h1 h2
    clear hR HALT
    go_enter Try.func31, Try.ntmps31
    go_wp2_with fail
    rw [HW.out]
    refine kk.out.mono ?_
    rintro e w1 ⟨rfl, hb1⟩
    obtain ⟨⟨x0, x1, x2, x3, x4, x5⟩, x6, x7, x8, x9, x10, x11⟩ := HT2.out w1 hb1
    have HB1 := Lib.hid hb1
    have HBA : Hid (∀ o, Below W.heap.size W (w1.alloc o)) := fun o => hb1.alloc hb1.size o
    have hal : ∀ a v, w1.cell? a = some v → ∀ o, (w1.alloc o).cell? a = some v := fun a v hv o => (((Below.refl w1.heap.size w1).alloc (Nat.le_refl _) o).cell (block_of_cell hv)).trans hv
    replace x0 := hal _ _ x0; replace x1 := hal _ _ x1; replace x2 := hal _ _ x2; replace x3 := hal _ _ x3; replace x4 := hal _ _ x4; replace x5 := hal _ _ x5
    replace x6 := hal _ _ x6; replace x7 := hal _ _ x7; replace x8 := hal _ _ x8; replace x9 := hal _ _ x9; replace x10 := hal _ _ x10; replace x11 := hal _ _ x11
    clear hb1 hal
    go_wp2_with fail
  · generalize hW2 : World.alloc w1 _ = W2 at *
    have hk : W2.heap[w1.heap.size]? = some (.cells #[.func (.func 59) #[] #[], .func (.func 60) #[] #[]] 77 (0, 0)) := by rw [← hW2]; exact heap_new w1 _
    have hb2 : Below W.heap.size W W2 := by rw [← hW2]; exact HBA.out _
    have HB2 := Lib.hid hb2; have HK := Lib.hid hk
    clear hW2 hk hb2 x0 x1 x2 x3 x4 x5 x6 x7 x8 x9 x10 x11
    refine (KF.out _).mono ?_
    rintro e w3 ⟨rfl, hb3⟩
    have hb23 : Below W.heap.size W w3 := HB2.out.trans (hb3.mono HB2.out.size)
    obtain ⟨⟨x0, x1, x2, x3, x4, x5⟩, x6, x7, x8, x9, x10, x11⟩ := HT2.out w3 hb23
    have c0 := cell_of ((hb3.block _ (lt_of_blk HK.out)).trans HK.out) 0
    simp only [List.getElem?_toArray, List.getElem?_cons_zero] at c0
    have HB3 := Lib.hid hb23
    clear hb3 hb23
    go_wp2_with fail
    refine (K1.out w3).mono ?_
    rintro e w4 ⟨rfl, hb4⟩
    have HB4 := Lib.hid (HFIN.out _ (HB3.out.trans (hb4.mono HB3.out.size)))
    clear hb4 x0 x1 x2 x3 x4 x5 x6 x7 x8 x9 x10 x11 c0
    cases A
    all_goals
      go_wp2_with fail
      go_ret
      exact ⟨ret_int HR.out.symm, HB4.out⟩
  · generalize hW2 : World.alloc w1 _ = W2 at *
    have hk : W2.heap[w1.heap.size]? = some (.cells #[.func (.func 61) #[] #[], .func (.func 62) #[] #[]] 77 (0, 0)) := by rw [← hW2]; exact heap_new w1 _
    have hb2 : Below W.heap.size W W2 := by rw [← hW2]; exact HBA.out _
    have HB2 := Lib.hid hb2; have HK := Lib.hid hk
    clear hW2 hk hb2 x0 x1 x2 x3 x4 x5 x6 x7 x8 x9 x10 x11
    refine (KF.out _).mono ?_
    rintro e w3 ⟨rfl, hb3⟩
    have hb23 : Below W.heap.size W w3 := HB2.out.trans (hb3.mono HB2.out.size)
    obtain ⟨⟨x0, x1, x2, x3, x4, x5⟩, x6, x7, x8, x9, x10, x11⟩ := HT2.out w3 hb23
    have c0 := cell_of ((hb3.block _ (lt_of_blk HK.out)).trans HK.out) 0
    simp only [List.getElem?_toArray, List.getElem?_cons_zero] at c0
    have HB3 := Lib.hid hb23
    clear hb3 hb23
    go_wp2_with fail
    refine (K2.out w3 HB3.out).mono ?_
    rintro e w4 ⟨rfl, hb4⟩
    have HB4 := Lib.hid (HFIN.out _ (HB3.out.trans (hb4.mono HB3.out.size)))
    clear hb4 x0 x1 x2 x3 x4 x5 x6 x7 x8 x9 x10 x11 c0
    cases L
    all_goals
      go_wp2_with fail
      go_ret
      exact ⟨ret_int HR.out.symm, HB4.out⟩
  · generalize hW2 : World.alloc w1 _ = W2 at *
    have hb2 : Below W.heap.size W W2 := by rw [← hW2]; exact HBA.out _
    have HB2 := Lib.hid hb2
    clear hW2 hb2 x0 x1 x2 x3 x4 x5 x6 x7 x8 x9 x10 x11
    refine (KF.out _).mono ?_
    rintro e w3 ⟨rfl, hb3⟩
    have HB3 := Lib.hid (HFIN.out _ (HB2.out.trans (hb3.mono HB2.out.size)))
    clear hb3
    go_wp2_with fail
    go_ret
    exact ⟨ret_int HR.out.symm, HB3.out⟩
  · generalize hW2 : World.alloc w1 _ = W2 at *
    have hb2 : Below W.heap.size W W2 := by rw [← hW2]; exact HBA.out _
    have HB2 := Lib.hid hb2
    clear hW2 hb2 x0 x1 x2 x3 x4 x5 x6 x7 x8 x9 x10 x11
    refine (KF.out _).mono ?_
    rintro e w3 ⟨rfl, hb3⟩
    have HB3 := Lib.hid (HFIN.out _ (HB2.out.trans (hb3.mono HB2.out.size)))
    clear hb3
    go_wp2_with fail
    go_ret
    exact ⟨ret_int HR.out.symm, HB3.out⟩
  · go_ret
    exact ⟨ret_int HR.out.symm, HFIN.out _ (HBA.out _)⟩
end Go.Proofs.Ythjpknipnmagkaa

