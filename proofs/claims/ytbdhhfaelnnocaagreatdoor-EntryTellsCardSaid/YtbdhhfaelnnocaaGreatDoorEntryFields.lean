/-
  Contracts of the reader's id, entity, period, ref, state.
-/
import Derived.Test.YtbdhhfaelnnocaaGreatDoorEntryNumber
namespace Go.Proofs.YtbdhhfaelnnocaaGreatDoor
open Go.RowKit Go.Sort

theorem JAt.kept {w w' : World} {q : Nat} {j : Jrn} {A : Option Addr} {n c : Nat} {S : Nat → Prop} (h : JAt w q j A n c) (hk : Kp S w w') (hq : ¬ S q) : JAt w' q j A n c := (hk.block q (lt_of_blk h) hq).trans h

set_option maxRecDepth 100000 in
set_option maxHeartbeats 1000000 in
theorem rdId_any (B b q : Nat) (g : UInt8) (ps : List (List UInt8)) (j : Jrn) (A : Option Addr) (n c : Nat) (w : World) (G : GB B w) (hBb : B ≤ b) (hBq : B ≤ q) (h : RdrAt w b g ps) (hq : JAt w q j A n c) (hne : q ≠ b) :
    Calls Tryz.prog 78 #[.pointer (some ⟨b, 0, none⟩), .pointer (some ⟨q, 0, none⟩)] w fun e w' => e = .returned (.bool (numOf (ps.headD [])).isSome) ∧ RdrAt w' b g ps.tail ∧
      JAt w' q { j with id := (numOf (ps.headD [])).getD j.id } A n c ∧ Kp (fun k => k = b ∨ k = q) w w' := by
  have kn := Lib.hid (rdNumber_any B b q 0 g ps _ _ w G hBb hBq h hq (by simp) hne)
  clear G h hq
  generalize numOf (ps.headD []) = N at *
  obtain ⟨z, hz⟩ : ∃ z : Bool, N.isSome = z := ⟨_, rfl⟩
  rw [hz] at kn ⊢
  go_enter Tryz.func78, Tryz.ntmps78
  go_wp2_with fail
  refine kn.out.mono ?_
  rintro e w1 ⟨rfl, h1, h2, h3⟩
  have H1 := Lib.hid h1
  have H2 := Lib.hid h2
  have H3 := Lib.hid h3
  clear h1 h2 h3
  go_wp2_with fail
  go_ret
  refine ⟨rfl, H1.out, ?_, H3.out⟩
  have := H2.out
  unfold JAt
  rw [this]
  cases N <;> rfl

set_option maxRecDepth 100000 in
set_option maxHeartbeats 1000000 in
theorem rdEntity_any (B b q : Nat) (g : UInt8) (ps : List (List UInt8)) (j : Jrn) (A : Option Addr) (n c : Nat) (w : World) (G : GB B w) (hBb : B ≤ b) (hBq : B ≤ q) (h : RdrAt w b g ps) (hq : JAt w q j A n c) (hne : q ≠ b) :
    Calls Tryz.prog 79 #[.pointer (some ⟨b, 0, none⟩), .pointer (some ⟨q, 0, none⟩)] w fun e w' => e = .returned (.bool (numOf (ps.headD [])).isSome) ∧ RdrAt w' b g ps.tail ∧
      JAt w' q { j with ent := (numOf (ps.headD [])).getD j.ent } A n c ∧ Kp (fun k => k = b ∨ k = q) w w' := by
  have kn := Lib.hid (rdNumber_any B b q 1 g ps _ _ w G hBb hBq h hq (by simp) hne)
  clear G h hq
  generalize numOf (ps.headD []) = N at *
  obtain ⟨z, hz⟩ : ∃ z : Bool, N.isSome = z := ⟨_, rfl⟩
  rw [hz] at kn ⊢
  go_enter Tryz.func79, Tryz.ntmps79
  go_wp2_with fail
  refine kn.out.mono ?_
  rintro e w1 ⟨rfl, h1, h2, h3⟩
  have H1 := Lib.hid h1
  have H2 := Lib.hid h2
  have H3 := Lib.hid h3
  clear h1 h2 h3
  go_wp2_with fail
  go_ret
  refine ⟨rfl, H1.out, ?_, H3.out⟩
  have := H2.out
  unfold JAt
  rw [this]
  cases N <;> rfl

set_option maxRecDepth 100000 in
set_option maxHeartbeats 1000000 in
theorem rdPeriod_any (B b q : Nat) (g : UInt8) (ps : List (List UInt8)) (j : Jrn) (A : Option Addr) (n c : Nat) (w : World) (_G : GB B w) (h : RdrAt w b g ps) (hq : JAt w q j A n c) (hne : q ≠ b) :
    Calls Tryz.prog 80 #[.pointer (some ⟨b, 0, none⟩), .pointer (some ⟨q, 0, none⟩)] w fun e w' => e = .returned (.bool (parseOk (ps.headD []))) ∧ RdrAt w' b g ps.tail ∧
      JAt w' q { j with per := parseV (ps.headD []) } A n c ∧ Kp (fun k => k = b ∨ k = q) w w' := by
  have kp := Lib.hid (part_any b g ps w h)
  have hl : (ps.headD []).length ≤ 1000000 := Nat.le_trans (head_le g ps) h.len
  have kt : Hid (∀ w, Calls Tryz.prog 114 #[.string (bs (ps.headD []))] w fun e w' => e = .returned (.tuple #[.int .i64 (parseV (ps.headD [])), .int .i64 (parseE (ps.headD []))]) ∧ Below w.heap.size w w') := fun w => by
    have := parse_any (bs (ps.headD [])) w (by rw [bs_size]; unfold maxLen; omega)
    rwa [bs_list] at this
  have HP : Hid (parseOk (ps.headD []) = (parseE (ps.headD []) == 0)) := by
    unfold Hid parseE
    cases parseOk (ps.headD []) <;> rfl
  rw [HP.out]
  generalize parseE (ps.headD []) = PE at *
  generalize parseV (ps.headD []) = PV at *
  generalize ps.headD [] = p at *
  have hql := lt_of_blk hq
  have HQ := Lib.hid hq
  clear h hq HP _G
  go_enter Tryz.func80, Tryz.ntmps80
  go_wp2_with fail
  refine kp.out.mono ?_
  rintro e w1 ⟨rfl, hr1, hk1⟩
  have HK1 := Lib.hid hk1
  have HR1 := Lib.hid hr1
  clear hk1 hr1
  go_wp2_with fail
  refine (kt.out _).mono ?_
  rintro e w2 ⟨rfl, hb2⟩
  have HK2 : Hid (Kp (fun k => k = b) w w2) := HK1.out.trans (Kp.of_below hb2)
  have HR2 : Hid (RdrAt w2 b g ps.tail) := HR1.out.kept (S := fun _ => False) (Kp.of_below hb2) (fun h => h.elim)
  have hQ2 : JAt w2 q j A n c := (HK2.out.block q hql hne).trans HQ.out
  have hf := warm_of hQ2 2
  have hc := cell_of hQ2 2
  simp only [List.getElem?_toArray, List.getElem?_cons_zero, List.getElem?_cons_succ] at hc
  have HQ2 := Lib.hid hQ2
  clear hQ2 hb2
  go_wp2_with fail
  go_ret
  refine ⟨rfl, HR2.out.kept (S := fun k => k = q) (Kp.setCell (S := fun k => k = q) (p := ⟨q, 2, none⟩) (Kp.refl _ _) (Eq.refl q) _) (fun h => hne h.symm), set_here HQ2.out, ?_⟩
  exact Kp.setCell (S := fun k => k = b ∨ k = q) (p := ⟨q, 2, none⟩) (HK2.out.mono fun k h => .inl h) (.inr (Eq.refl q)) _

theorem lit_beq (p q : List UInt8) : ((bs p).toList == q) = decide (p = q) := by
  rw [ByteArray.toList_eq, bs_list, Bool.eq_iff_iff]
  simp
set_option maxRecDepth 100000 in
set_option maxHeartbeats 1000000 in
theorem rdRef_any (b q : Nat) (g : UInt8) (ps : List (List UInt8)) (j : Jrn) (A : Option Addr) (n c : Nat) (w : World) (h : RdrAt w b g ps) (hq : JAt w q j A n c) (hne : q ≠ b) :
    Calls Tryz.prog 81 #[.pointer (some ⟨b, 0, none⟩), .pointer (some ⟨q, 0, none⟩)] w fun e w' => e = .returned (.bool (!decide (ps.headD [] = []))) ∧ RdrAt w' b g ps.tail ∧
      JAt w' q { j with ref := if ps.headD [] = [45] then j.ref else bs (ps.headD []) } A n c ∧ Kp (fun k => k = b ∨ k = q) w w' := by
  have kp := Lib.hid (part_any b g ps w h)
  generalize ps.headD [] = p at *
  have hql := lt_of_blk hq
  have HQ := Lib.hid hq
  clear h hq
  have t2 : (bs p).toList.isEmpty = decide (p = []) := by rw [ByteArray.toList_eq, bs_list]; cases p <;> rfl
  by_cases hp : p = [45]
  · subst hp
    rw [if_pos rfl]
    have t1 : ((bs [45]).toList == [45]) = true := by rw [lit_beq]; rfl
    have t3 : (bs [45]).toList.isEmpty = false := by rw [t2]; rfl
    rw [show (!decide (([45] : List UInt8) = [])) = true from rfl]
    clear t2
    go_enter Tryz.func81, Tryz.ntmps81
    go_wp2_with fail
    refine kp.out.mono ?_
    rintro e w1 ⟨rfl, hr1, hk1⟩
    have HK1 := Lib.hid hk1
    have HR1 := Lib.hid hr1
    clear hk1 hr1
    go_wp2_with fail
    go_ret
    exact ⟨rfl, HR1.out, (HK1.out.block q hql hne).trans HQ.out, HK1.out.mono fun k h => .inl h⟩
  · rw [if_neg hp]
    have t1 : ((bs p).toList == [45]) = false := by
      rw [lit_beq]
      simpa using hp
    obtain ⟨z, hz⟩ : ∃ z : Bool, decide (p = []) = z := ⟨_, rfl⟩
    rw [hz] at t2 ⊢
    clear hz hp
    go_enter Tryz.func81, Tryz.ntmps81
    go_wp2_with fail
    refine kp.out.mono ?_
    rintro e w1 ⟨rfl, hr1, hk1⟩
    have HK1 := Lib.hid hk1
    have HR1 := Lib.hid hr1
    have hQ1 : JAt w1 q j A n c := (hk1.block q hql hne).trans HQ.out
    have hf := warm_of hQ1 3
    have hc := cell_of hQ1 3
    simp only [List.getElem?_toArray, List.getElem?_cons_zero, List.getElem?_cons_succ] at hc
    have HQ1 := Lib.hid hQ1
    clear hk1 hr1 hQ1
    go_wp2_with fail
    go_ret
    refine ⟨rfl, HR1.out.kept (S := fun k => k = q) (Kp.setCell (S := fun k => k = q) (p := ⟨q, 3, none⟩) (Kp.refl _ _) (Eq.refl q) _) (fun h => hne h.symm), set_here HQ1.out, ?_⟩
    exact Kp.setCell (S := fun k => k = b ∨ k = q) (p := ⟨q, 3, none⟩) (HK1.out.mono fun k h => .inl h) (.inr (Eq.refl q)) _

set_option maxRecDepth 100000 in
set_option maxHeartbeats 1000000 in
theorem rdState_any (b q : Nat) (g : UInt8) (ps : List (List UInt8)) (j : Jrn) (A : Option Addr) (n c : Nat) (w : World) (h : RdrAt w b g ps) (hq : JAt w q j A n c) (hne : q ≠ b) :
    Calls Tryz.prog 82 #[.pointer (some ⟨b, 0, none⟩), .pointer (some ⟨q, 0, none⟩)] w fun e w' => e = .returned (.bool (stateOk (ps.headD []))) ∧ RdrAt w' b g ps.tail ∧
      JAt w' q { j with void := voidOf (ps.headD []) } A n c ∧ Kp (fun k => k = b ∨ k = q) w w' := by
  have kp := Lib.hid (part_any b g ps w h)
  generalize ps.headD [] = p at *
  have hql := lt_of_blk hq
  have HQ := Lib.hid hq
  clear h hq
  have t1 : ((bs p).toList == [118, 111, 105, 100]) = decide (p = [118, 111, 105, 100]) := lit_beq p _
  have t2 : ((bs p).toList == [108, 105, 118, 101]) = decide (p = [108, 105, 118, 101]) := lit_beq p _
  unfold stateOk voidOf
  obtain ⟨z1, hz1⟩ : ∃ z : Bool, decide (p = [118, 111, 105, 100]) = z := ⟨_, rfl⟩
  obtain ⟨z2, hz2⟩ : ∃ z : Bool, decide (p = [108, 105, 118, 101]) = z := ⟨_, rfl⟩
  rw [hz1] at t1 ⊢
  rw [hz2] at t2 ⊢
  clear hz1 hz2
  have fin : ∀ w1, Hid (RdrAt w1 b g ps.tail) → Hid (Kp (fun k => k = b) w w1) → Hid (RdrAt (w1.setCell ⟨q, 5, none⟩ (.bool z1)) b g ps.tail ∧ JAt (w1.setCell ⟨q, 5, none⟩ (.bool z1)) q { j with void := z1 } A n c ∧ Kp (fun k => k = b ∨ k = q) w (w1.setCell ⟨q, 5, none⟩ (.bool z1))) := fun w1 h1 h2 =>
    ⟨h1.out.kept (S := fun k => k = q) (Kp.setCell (S := fun k => k = q) (p := ⟨q, 5, none⟩) (Kp.refl _ _) (Eq.refl q) _) (fun h => hne h.symm), set_here ((h2.out.block q hql hne).trans HQ.out), Kp.setCell (S := fun k => k = b ∨ k = q) (p := ⟨q, 5, none⟩) (h2.out.mono fun k h => .inl h) (.inr (Eq.refl q)) _⟩
  have FIN := Lib.hid fin
  clear fin
  cases z2
  all_goals
    go_enter Tryz.func82, Tryz.ntmps82
    go_wp2_with fail
    refine kp.out.mono ?_
    rintro e w1 ⟨rfl, hr1, hk1⟩
    have HK1 := Lib.hid hk1
    have HR1 := Lib.hid hr1
    have hQ1 : JAt w1 q j A n c := (hk1.block q hql hne).trans HQ.out
    have hf := warm_of hQ1 5
    have hc := cell_of hQ1 5
    simp only [List.getElem?_toArray, List.getElem?_cons_zero, List.getElem?_cons_succ] at hc
    clear hk1 hr1 hQ1
    go_wp2_with fail
    go_ret
    obtain ⟨f1, f2, f3⟩ := (FIN.out w1 HR1 HK1).out
    exact ⟨rfl, f1, f2, f3⟩
end Go.Proofs.YtbdhhfaelnnocaaGreatDoor
