/-
  The reference's CheckPlan.
-/
import Derived.Test.YtjlokkjbdgcooaaGreatMany9
import Derived.Test.YtjlokkjbdgcooaaGreatRefSplitW
import Derived.Test.YtjlokkjbdgcooaaGreatMany11
import Derived.Deep.CutRange
namespace Go.Proofs.YtjlokkjbdgcooaaGreat
open Mo
open Go.RowKit

/-- A template of the reference's own type in its block. -/
def RTplAt (w : World) (b : Nat) (t : Tpl) : Prop := w.heap[b]? = some (.cells #[.int .i64 t.kind, .int .i64 t.id, .int .i64 t.ent, .int .i64 t.frm, .int .i64 t.til, .int .i64 t.ev, .int .i64 t.amt, .int .i64 t.deb, .int .i64 t.cre, .slice t.At t.tg.length t.ct, .slice t.Aw t.wt.length t.cw, .int .i64 t.rk] 28 (0, 0))
theorem rtpl_cells {w : World} {b : Nat} {t : Tpl} (h : RTplAt w b t) :
    (w.cell? ⟨b, 0, none⟩ = some (.int .i64 t.kind) ∧ w.cell? ⟨b, 1, none⟩ = some (.int .i64 t.id) ∧ w.cell? ⟨b, 2, none⟩ = some (.int .i64 t.ent) ∧ w.cell? ⟨b, 3, none⟩ = some (.int .i64 t.frm) ∧ w.cell? ⟨b, 4, none⟩ = some (.int .i64 t.til) ∧ w.cell? ⟨b, 5, none⟩ = some (.int .i64 t.ev)) ∧
    (w.cell? ⟨b, 6, none⟩ = some (.int .i64 t.amt) ∧ w.cell? ⟨b, 7, none⟩ = some (.int .i64 t.deb) ∧ w.cell? ⟨b, 8, none⟩ = some (.int .i64 t.cre) ∧ w.cell? ⟨b, 9, none⟩ = some (.slice t.At t.tg.length t.ct) ∧ w.cell? ⟨b, 10, none⟩ = some (.slice t.Aw t.wt.length t.cw) ∧ w.cell? ⟨b, 11, none⟩ = some (.int .i64 t.rk)) :=
  ⟨⟨cell_of h 0, cell_of h 1, cell_of h 2, cell_of h 3, cell_of h 4, cell_of h 5⟩, cell_of h 6, cell_of h 7, cell_of h 8, cell_of h 9, cell_of h 10, cell_of h 11⟩
theorem RTplAt.below {w w' : World} {b : Nat} {t : Tpl} (h : RTplAt w b t) (hb : Below w.heap.size w w') : RTplAt w' b t := (hb.block _ (lt_of_blk h)).trans h
set_option maxRecDepth 100000 in
theorem code_any (c : Int) (w : World) : Calls Tryz.prog 51 #[.int .i64 c] w fun e w' => e = .returned (.bool (isAcc c)) ∧ w = w' := by
  by_cases h1 : 1 ≤ c
  · have e : isAcc c = decide (c ≤ 9999) := by unfold isAcc inB; simp [h1]
    rw [e]
    go_enter Tryz.func51, Tryz.ntmps51
    go_wp2_with fail
    go_ret
    exact ⟨rfl, rfl⟩
  · have e : isAcc c = false := by unfold isAcc inB; simp [h1]
    rw [e]
    go_enter Tryz.func51, Tryz.ntmps51
    go_wp2_with fail
    go_ret
    exact ⟨rfl, rfl⟩
theorem quiet_same {P : Program} {f : FuncId} {args : Array Value} {w : World} {n : Nat} {v : Value} (h : Calls P f args (w.drewN n) fun e w' => e = .returned v ∧ w.drewN n = w') : Calls P f args (w.drewN n) fun e w'' => e = .returned v ∧ ∃ m, w'' = w.drewN m :=
  h.mono fun _ _ ⟨he, hm⟩ => ⟨he, n, hm.symm⟩
/-- The target ahead. -/
def prevT (l : List Int) : Nat → Int
  | 0 => 0
  | k + 1 => (l[k]?).getD 0
theorem tg_next {cre x : Int} {l : List Int} {k : Nat} (hx : l[k]? = some x) : tgOk cre (prevT l k) (l.drop k) = (isAcc x && decide (prevT l k < x) && !(x == cre) && tgOk cre (prevT l (k + 1)) (l.drop (k + 1))) := by
  rw [tgOk_step hx]
  show _ = (_ && tgOk cre ((l[k]?).getD 0) _)
  rw [hx]
  rfl
theorem isAcc_pos {x : Int} (h : isAcc x = true) : 0 < x := by
  have := (inB_iff.1 h).1
  omega
theorem refSplit_err (a : Int) (l : List Int) (A : Option Addr) (n c B : Nat) (w : World) (h : Rd w B 1 A n (ints .i64 l)) (hB : B ≤ w.heap.size) (hn : n ≤ maxLen) :
    Calls Tryz.prog 52 #[.int .i64 a, .slice A n c] w fun e w' => (∃ A2 n2 c2, e = .returned (.tuple #[.slice A2 n2 c2, .int .i64 (if splitOk a l = true then 0 else 1)])) ∧ Below w.heap.size w w' := by
  cases hs : splitOk a l
  · refine (refSplit_bad a l A n c B w h hn hs).mono ?_
    rintro e w' ⟨rfl, rfl⟩
    exact ⟨⟨none, 0, 0, rfl⟩, Below.refl _ _⟩
  · have hs2 := hs
    unfold splitOk at hs2
    simp only [Bool.and_eq_true, decide_eq_true_eq] at hs2
    obtain ⟨⟨⟨h1, h2⟩, h3⟩, h4⟩ := hs2
    have hl := h.ints_len
    refine (refSplit_ok a l A n c B w h hB h1 h3 (by omega) h4).mono fun e w' hh => ?_
    obtain ⟨p, S, he, _, _, _, hb⟩ := hh
    exact ⟨⟨_, _, _, he⟩, hb⟩
theorem frontT_iff (t : Tpl) : frontT t = true ↔ (1 ≤ t.id ∧ t.id ≤ 999999 ∧ 1 ≤ t.ent ∧ t.ent ≤ 9 ∧ okP t.frm = true ∧ okP t.til = true ∧ t.frm ≤ t.til ∧ 1 ≤ t.ev ∧ t.ev ≤ 60 ∧ 1 ≤ t.amt ∧ fits1 t.amt = true ∧ isAcc t.cre = true) := by
  unfold frontT fits1
  simp only [Bool.and_eq_true, decide_eq_true_eq, inB_iff]
  constructor
  · rintro ⟨⟨⟨⟨⟨⟨⟨a1, a2⟩, b1, b2⟩, p1, p2⟩, c⟩, e1, e2⟩, m1, m2⟩, z⟩
    exact ⟨a1, a2, b1, b2, p1, p2, c, e1, e2, m1, ⟨by omega, m2⟩, z⟩
  · rintro ⟨a1, a2, b1, b2, p1, p2, c, e1, e2, m1, ⟨_, m2⟩, z⟩
    exact ⟨⟨⟨⟨⟨⟨⟨a1, a2⟩, b1, b2⟩, p1, p2⟩, c⟩, e1, e2⟩, m1, m2⟩, z⟩
set_option maxHeartbeats 4000000 in
theorem front_alt (t : Tpl) : (¬ 1 ≤ t.id ∧ frontT t = false) ∨
      (1 ≤ t.id ∧ ¬ t.id ≤ 999999 ∧ frontT t = false) ∨
      (1 ≤ t.id ∧ t.id ≤ 999999 ∧ ¬ 1 ≤ t.ent ∧ frontT t = false) ∨
      (1 ≤ t.id ∧ t.id ≤ 999999 ∧ 1 ≤ t.ent ∧ ¬ t.ent ≤ 9 ∧ frontT t = false) ∨
      (1 ≤ t.id ∧ t.id ≤ 999999 ∧ 1 ≤ t.ent ∧ t.ent ≤ 9 ∧ okP t.frm = false ∧ frontT t = false) ∨
      (1 ≤ t.id ∧ t.id ≤ 999999 ∧ 1 ≤ t.ent ∧ t.ent ≤ 9 ∧ okP t.frm = true ∧ okP t.til = false ∧ frontT t = false) ∨
      (1 ≤ t.id ∧ t.id ≤ 999999 ∧ 1 ≤ t.ent ∧ t.ent ≤ 9 ∧ okP t.frm = true ∧ okP t.til = true ∧ ¬ t.frm ≤ t.til ∧ frontT t = false) ∨
      (1 ≤ t.id ∧ t.id ≤ 999999 ∧ 1 ≤ t.ent ∧ t.ent ≤ 9 ∧ okP t.frm = true ∧ okP t.til = true ∧ t.frm ≤ t.til ∧ ¬ 1 ≤ t.ev ∧ frontT t = false) ∨
      (1 ≤ t.id ∧ t.id ≤ 999999 ∧ 1 ≤ t.ent ∧ t.ent ≤ 9 ∧ okP t.frm = true ∧ okP t.til = true ∧ t.frm ≤ t.til ∧ 1 ≤ t.ev ∧ ¬ t.ev ≤ 60 ∧ frontT t = false) ∨
      (1 ≤ t.id ∧ t.id ≤ 999999 ∧ 1 ≤ t.ent ∧ t.ent ≤ 9 ∧ okP t.frm = true ∧ okP t.til = true ∧ t.frm ≤ t.til ∧ 1 ≤ t.ev ∧ t.ev ≤ 60 ∧ ¬ 1 ≤ t.amt ∧ frontT t = false) ∨
      (1 ≤ t.id ∧ t.id ≤ 999999 ∧ 1 ≤ t.ent ∧ t.ent ≤ 9 ∧ okP t.frm = true ∧ okP t.til = true ∧ t.frm ≤ t.til ∧ 1 ≤ t.ev ∧ t.ev ≤ 60 ∧ 1 ≤ t.amt ∧ fits1 t.amt = false ∧ frontT t = false) ∨
      (1 ≤ t.id ∧ t.id ≤ 999999 ∧ 1 ≤ t.ent ∧ t.ent ≤ 9 ∧ okP t.frm = true ∧ okP t.til = true ∧ t.frm ≤ t.til ∧ 1 ≤ t.ev ∧ t.ev ≤ 60 ∧ 1 ≤ t.amt ∧ fits1 t.amt = true ∧ frontT t = isAcc t.cre) := by
  have HFF := (frontT_iff t).1
  have HTT : 1 ≤ t.id → t.id ≤ 999999 → 1 ≤ t.ent → t.ent ≤ 9 → okP t.frm = true → okP t.til = true → t.frm ≤ t.til → 1 ≤ t.ev → t.ev ≤ 60 → 1 ≤ t.amt → fits1 t.amt = true → frontT t = isAcc t.cre := fun h1 h2 h3 h4 h5 h6 h7 h8 h9 h10 h11 => by
    cases hz : isAcc t.cre
    · cases hr : frontT t with
      | false => rfl
      | true => have h2 := (HFF hr).2.2.2.2.2.2.2.2.2.2.2; rw [hz] at h2; exact absurd h2 (by decide)
    · exact (frontT_iff t).2 ⟨h1, h2, h3, h4, h5, h6, h7, h8, h9, h10, h11, hz⟩
  generalize frontT t = R at *
  by_cases h1 : 1 ≤ t.id
  rotate_left
  · exact .inl ⟨h1, by cases hr : R with | false => rfl | true => (have h := hr; exact absurd (HFF h).1 h1)⟩
  by_cases h2 : t.id ≤ 999999
  rotate_left
  · exact .inr (.inl ⟨h1, h2, by cases hr : R with | false => rfl | true => (have h := hr; exact absurd (HFF h).2.1 h2)⟩)
  by_cases h3 : 1 ≤ t.ent
  rotate_left
  · exact .inr (.inr (.inl ⟨h1, h2, h3, by cases hr : R with | false => rfl | true => (have h := hr; exact absurd (HFF h).2.2.1 h3)⟩))
  by_cases h4 : t.ent ≤ 9
  rotate_left
  · exact .inr (.inr (.inr (.inl ⟨h1, h2, h3, h4, by cases hr : R with | false => rfl | true => (have h := hr; exact absurd (HFF h).2.2.2.1 h4)⟩)))
  by_cases h5 : okP t.frm = true
  rotate_left
  · have h5 := Bool.eq_false_iff.2 h5
    exact .inr (.inr (.inr (.inr (.inl ⟨h1, h2, h3, h4, h5, by cases hr : R with | false => rfl | true => (have h := hr; have h2 := (HFF h).2.2.2.2.1; rw [h5] at h2; exact absurd h2 (by decide))⟩))))
  by_cases h6 : okP t.til = true
  rotate_left
  · have h6 := Bool.eq_false_iff.2 h6
    exact .inr (.inr (.inr (.inr (.inr (.inl ⟨h1, h2, h3, h4, h5, h6, by cases hr : R with | false => rfl | true => (have h := hr; have h2 := (HFF h).2.2.2.2.2.1; rw [h6] at h2; exact absurd h2 (by decide))⟩)))))
  by_cases h7 : t.frm ≤ t.til
  rotate_left
  · exact .inr (.inr (.inr (.inr (.inr (.inr (.inl ⟨h1, h2, h3, h4, h5, h6, h7, by cases hr : R with | false => rfl | true => (have h := hr; exact absurd (HFF h).2.2.2.2.2.2.1 h7)⟩))))))
  by_cases h8 : 1 ≤ t.ev
  rotate_left
  · exact .inr (.inr (.inr (.inr (.inr (.inr (.inr (.inl ⟨h1, h2, h3, h4, h5, h6, h7, h8, by cases hr : R with | false => rfl | true => (have h := hr; exact absurd (HFF h).2.2.2.2.2.2.2.1 h8)⟩)))))))
  by_cases h9 : t.ev ≤ 60
  rotate_left
  · exact .inr (.inr (.inr (.inr (.inr (.inr (.inr (.inr (.inl ⟨h1, h2, h3, h4, h5, h6, h7, h8, h9, by cases hr : R with | false => rfl | true => (have h := hr; exact absurd (HFF h).2.2.2.2.2.2.2.2.1 h9)⟩))))))))
  by_cases h10 : 1 ≤ t.amt
  rotate_left
  · exact .inr (.inr (.inr (.inr (.inr (.inr (.inr (.inr (.inr (.inl ⟨h1, h2, h3, h4, h5, h6, h7, h8, h9, h10, by cases hr : R with | false => rfl | true => (have h := hr; exact absurd (HFF h).2.2.2.2.2.2.2.2.2.1 h10)⟩)))))))))
  by_cases h11 : fits1 t.amt = true
  rotate_left
  · have h11 := Bool.eq_false_iff.2 h11
    exact .inr (.inr (.inr (.inr (.inr (.inr (.inr (.inr (.inr (.inr (.inl ⟨h1, h2, h3, h4, h5, h6, h7, h8, h9, h10, h11, by cases hr : R with | false => rfl | true => (have h := hr; have h2 := (HFF h).2.2.2.2.2.2.2.2.2.2.1; rw [h11] at h2; exact absurd h2 (by decide))⟩))))))))))
  exact .inr (.inr (.inr (.inr (.inr (.inr (.inr (.inr (.inr (.inr (.inr (⟨h1, h2, h3, h4, h5, h6, h7, h8, h9, h10, h11, HTT h1 h2 h3 h4 h5 h6 h7 h8 h9 h10 h11⟩)))))))))))

set_option maxRecDepth 100000 in
set_option maxHeartbeats 8000000 in
theorem refCheckPlan_any (t : Tpl) (w : World) (h : TplIn w t) : Calls Tryz.prog 12 #[.agg t.cells.toArray] w fun e w' => e = .returned (.bool (chkT t)) ∧ Below w.heap.size w w' := by
  obtain ⟨W, hW⟩ : ∃ W, w.alloc (.cells t.cells.toArray 28) = W := ⟨_, rfl⟩
  have hb : Below w.heap.size w W := by rw [← hW]; exact (Below.refl _ _).alloc (Nat.le_refl _) _
  have hx : RTplAt W w.heap.size t := by rw [← hW]; exact heap_new w _
  have HW := Lib.hid hW; have HB := Lib.hid hb
  have HIN := Lib.hid (h.below hb)
  have HALT := Lib.hid (front_alt t)
  have HRX := Lib.hid hx
  obtain ⟨⟨x0, x1, x2, x3, x4, x5⟩, x6, x7, x8, x9, x10, x11⟩ := rtpl_cells hx
  obtain ⟨R, hR⟩ : ∃ R, frontT t = R := ⟨_, rfl⟩
  rw [hR] at HALT
  have HR : Hid (chkT t = (R && ((decide (t.kind = 1) && accrT t) || (decide (t.kind = 2) && allocT t)))) := by rw [← hR]; rfl
  clear hW hb hx h hR
  unfold Tpl.cells at *
  go_enter Tryz.func12, Tryz.ntmps12
  go_upto_region 1 with fail
  rw [HW.out]
  go_cut [3] from 7 to 66 (fun v wx => v = .bool R ∧ wx = W)
  case first =>
    rcases HALT.out with ⟨h1, hE⟩ | ⟨h1, h2, hE⟩ | ⟨h1, h2, h3, hE⟩ | ⟨h1, h2, h3, h4, hE⟩ | ⟨h1, h2, h3, h4, h5, hE⟩ | ⟨h1, h2, h3, h4, h5, h6, hE⟩ | ⟨h1, h2, h3, h4, h5, h6, h7, hE⟩ | ⟨h1, h2, h3, h4, h5, h6, h7, h8, hE⟩ | ⟨h1, h2, h3, h4, h5, h6, h7, h8, h9, hE⟩ | ⟨h1, h2, h3, h4, h5, h6, h7, h8, h9, h10, hE⟩ | ⟨h1, h2, h3, h4, h5, h6, h7, h8, h9, h10, h11, hE⟩ | ⟨h1, h2, h3, h4, h5, h6, h7, h8, h9, h10, h11, hE⟩
    all_goals
      clear HALT
      have HE := Lib.hid hE
      clear hE x0 x7 x9 x10 x11
      go_wp2_with (first | (go_at_call 48; refine (refValid_any _ _).mono ?_; rintro e w' ⟨rfl, rfl⟩) | (go_at_call 50; refine (Mo.refFits_any _ _).mono ?_; rintro e w' ⟨rfl, rfl⟩) | (go_at_call 51; refine (code_any _ _).mono ?_; rintro e w' ⟨rfl, rfl⟩))
      go_meet
      exact ⟨by rw [HE.out], rfl⟩
  case rest =>
    obtain ⟨rfl, rfl⟩ := hcut
    clear HALT x1 x2 x3 x4 x5 x11
    have HLT := Lib.hid HIN.out.lt; have HLW := Lib.hid HIN.out.lw
    by_cases k1 : t.kind = 1
    · rw [k1] at HR x0
      have k1' : (decide (t.kind = 1)) = true := by simp [k1]
      cases R
      · have HE : Hid (chkT t = false) := by rw [Hid, HR.out]; rfl
        clear HR k1'
        go_wp2_with fail
        go_ret
        exact ⟨congrArg (fun b => Ending.returned (Value.bool b)) HE.out.symm, HB.out⟩
      · have HE : Hid (chkT t = (isAcc t.deb && !(t.deb == t.cre) && decide (t.tg.length = 0) && decide (t.wt.length = 0))) := by rw [Hid, HR.out]; simp [accrT]
        clear HR k1'
        cases hd : isAcc t.deb
        · have HC : Hid (chkT t = false) := by rw [Hid, HE.out, hd]; rfl
          clear HE
          go_wp2_with (go_at_call 51; refine (code_any _ _).mono ?_; rintro e w' ⟨rfl, rfl⟩)
          go_ret
          exact ⟨congrArg (fun b => Ending.returned (Value.bool b)) HC.out.symm, HB.out⟩
        · by_cases he : t.deb = t.cre
          · have HC : Hid (chkT t = false) := by rw [Hid, HE.out, hd, he]; simp
            rw [he] at x7 hd
            clear HE
            go_wp2_with (go_at_call 51; refine (code_any _ _).mono ?_; rintro e w' ⟨rfl, rfl⟩)
            go_ret
            exact ⟨congrArg (fun b => Ending.returned (Value.bool b)) HC.out.symm, HB.out⟩
          · have hl1 := HLT.out; have hl2 := HLW.out
            have HC : Hid (chkT t = (t.deb != t.cre && (wrap64 ((t.tg.length : Int) + (t.wt.length : Int)) == 0))) := by
              have hw : (wrap64 ((t.tg.length : Int) + (t.wt.length : Int)) == 0) = decide (t.tg.length = 0 ∧ t.wt.length = 0) := by
                rw [Bool.eq_iff_iff]
                simp only [beq_iff_eq, decide_eq_true_eq]
                unfold wrap64; unfold maxLen at hl1 hl2
                omega
              rw [Hid, HE.out, hd, hw]
              by_cases a : t.tg.length = 0 <;> by_cases b : t.wt.length = 0 <;> simp [he, a, b, bne]
            clear HE hl1 hl2
            go_wp2_with (go_at_call 51; refine (code_any _ _).mono ?_; rintro e w' ⟨rfl, rfl⟩)
            go_ret
            exact ⟨congrArg (fun b => Ending.returned (Value.bool b)) HC.out.symm, HB.out⟩
    · by_cases k2 : t.kind = 2
      · rw [k2] at HR x0
        cases R
        · have HE : Hid (chkT t = false) := by rw [Hid, HR.out]; rfl
          clear HR
          go_wp2_with fail
          go_ret
          exact ⟨congrArg (fun b => Ending.returned (Value.bool b)) HE.out.symm, HB.out⟩
        have HE : Hid (chkT t = (inB t.tg.length 1 7 && decide (t.wt.length = t.tg.length) && tgOk t.cre 0 t.tg && splitOk t.amt t.wt)) := by rw [Hid, HR.out]; simp [allocT]
        clear HR
        by_cases c1 : (t.tg.length : Int) < 1
        · have HC : Hid (chkT t = false) := by
            have h0 : inB t.tg.length 1 7 = false := Bool.eq_false_iff.2 fun h => by have := (inB_iff.1 h).1; omega
            rw [Hid, HE.out, h0]; rfl
          clear HE
          go_wp2_with fail
          go_ret
          exact ⟨congrArg (fun b => Ending.returned (Value.bool b)) HC.out.symm, HB.out⟩
        by_cases c2 : 7 < (t.tg.length : Int)
        · have HC : Hid (chkT t = false) := by
            have h0 : inB t.tg.length 1 7 = false := Bool.eq_false_iff.2 fun h => by have := (inB_iff.1 h).2; omega
            rw [Hid, HE.out, h0]; rfl
          clear HE
          go_wp2_with fail
          go_ret
          exact ⟨congrArg (fun b => Ending.returned (Value.bool b)) HC.out.symm, HB.out⟩
        have h17 : inB t.tg.length 1 7 = true := inB_iff.2 ⟨by omega, by omega⟩
        by_cases c3 : (t.wt.length : Int) = (t.tg.length : Int)
        rotate_left
        · have HC : Hid (chkT t = false) := by
            rw [Hid, HE.out, h17, decide_eq_false (by omega)]; rfl
          clear HE h17
          go_wp2_with fail
          go_ret
          exact ⟨congrArg (fun b => Ending.returned (Value.bool b)) HC.out.symm, HB.out⟩
        have HC : Hid (chkT t = (tgOk t.cre 0 t.tg && splitOk t.amt t.wt)) := by rw [Hid, HE.out, h17, decide_eq_true (by omega)]; rfl
        clear HE h17
        go_wp2_with fail
        clear x0 x6 x7 x8 x9 x10
        go_loopw [4] (fun iv wr => ∃ k : Nat, k ≤ t.tg.length ∧ iv = .int .i64 k ∧ tgOk t.cre 0 t.tg = tgOk t.cre (prevT t.tg k) (t.tg.drop k) ∧ Below wc.heap.size wc wr) (fun iv _ => t.tg.length - (intOf iv).toNat)
        case atStart => exact ⟨0, Nat.zero_le _, rfl, rfl, Below.refl _ _⟩
        case round =>
          obtain ⟨k, hk, rfl, htg, hbel⟩ := hrel
          obtain ⟨⟨x0, x1, x2, x3, x4, x5⟩, x6, x7, x8, x9, x10, x11⟩ := rtpl_cells (HRX.out.below hbel)
          have HBW : Hid (Below w.heap.size w wr) := HB.out.trans (hbel.mono HB.out.size)
          have HBE := Lib.hid hbel
          clear x0 x1 x2 x3 x4 x5 x7 x11
          by_cases hlt : k < t.tg.length
          · have hkI : (k : Int) < (t.tg.length : Int) := by omega
            obtain ⟨ad, hA, hb2, z0⟩ := (HIN.out.below hbel).tg.int hlt
            obtain ⟨x, hx⟩ : ∃ x, t.tg[k]? = some x := ⟨_, List.getElem?_eq_getElem hlt⟩
            rw [hx, Option.getD_some] at z0
            rw [hA] at x9
            rw [tg_next hx] at htg
            have HP : Hid (0 < k → wr.cell? (ad.add (k - 1)) = some (.int .i64 (prevT t.tg k))) := fun h0 => by
              obtain ⟨ad', hA', _, z1⟩ := (HIN.out.below hbel).tg.int (i := k - 1) (by omega)
              rw [hA] at hA'
              injection hA' with hA'
              subst hA'
              rw [show k = (k - 1) + 1 by omega]
              exact z1
            have HTG := Lib.hid htg
            clear htg hbel hx hb2 x6 x10
            cases ha : isAcc x
            · have HF : Hid (chkT t = false) := by rw [Hid, HC.out, HTG.out, ha]; rfl
              clear HTG HC
              go_wp2_with fail
              go_big_quiet (exact quiet_same (code_any _ _))
              go_wp2_with fail
              go_ret
              exact ⟨congrArg (fun b => Ending.returned (Value.bool b)) HF.out.symm, below_drewN HBW.out _⟩
            · by_cases he : x = t.cre
              · have HF : Hid (chkT t = false) := by rw [Hid, HC.out, HTG.out, ha, he]; simp
                rw [he] at z0 ha
                clear HTG HC
                go_wp2_with fail
                go_big_quiet (exact quiet_same (code_any _ _))
                go_wp2_with fail
                go_ret
                exact ⟨congrArg (fun b => Ending.returned (Value.bool b)) HF.out.symm, below_drewN HBW.out _⟩
              have hne : (x == t.cre) = false := beq_eq_false_iff_ne.2 he
              by_cases k0 : k = 0
              · have HN : Hid (tgOk t.cre 0 t.tg = tgOk t.cre (prevT t.tg (k + 1)) (t.tg.drop (k + 1))) := by
                  rw [Hid, HTG.out, ha, hne, decide_eq_true (show prevT t.tg k < x by rw [k0]; exact isAcc_pos ha)]; rfl
                have hk0 : decide ((0 : Int) < (k : Int)) = false := decide_eq_false (by omega)
                have hk0n : decide (0 < k) = false := decide_eq_false (by omega)
                clear HTG k0
                go_wp2_with fail
                go_big_quiet (exact quiet_same (code_any _ _))
                go_wp2_with fail
                exact ⟨⟨k + 1, by omega, by go_num, HN.out, below_drewN HBE.out _⟩, by simp [intOf]; omega⟩
              have z1 := HP.out (by omega)
              have hk0 : decide ((0 : Int) < (k : Int)) = true := decide_eq_true (by omega)
              have hk0n : decide (0 < k) = true := decide_eq_true (by omega)
              have hk1 : wrap64 ((k : Int) - 1) = ((k - 1 : Nat) : Int) := by unfold wrap64; omega
              have hk2 : ((k - 1 : Nat) : Int) < (t.tg.length : Int) := by omega
              by_cases hp : prevT t.tg k < x
              · have HN : Hid (tgOk t.cre 0 t.tg = tgOk t.cre (prevT t.tg (k + 1)) (t.tg.drop (k + 1))) := by
                  rw [Hid, HTG.out, ha, hne, decide_eq_true hp]; rfl
                have hp2 : decide (x ≤ prevT t.tg k) = false := decide_eq_false (by omega)
                clear HTG hp
                generalize prevT t.tg k = pv at *
                go_wp2_with fail
                go_big_quiet (exact quiet_same (code_any _ _))
                go_wp2_with fail
                exact ⟨⟨k + 1, by omega, by go_num, HN.out, below_drewN HBE.out _⟩, by simp [intOf]; omega⟩
              · have HF : Hid (chkT t = false) := by rw [Hid, HC.out, HTG.out, ha, hne, decide_eq_false hp]; rfl
                have hp2 : decide (x ≤ prevT t.tg k) = true := decide_eq_true (by omega)
                clear HTG HC hp
                generalize prevT t.tg k = pv at *
                go_wp2_with fail
                go_big_quiet (exact quiet_same (code_any _ _))
                go_wp2_with fail
                go_ret
                exact ⟨congrArg (fun b => Ending.returned (Value.bool b)) HF.out.symm, below_drewN HBW.out _⟩
          · obtain rfl : k = t.tg.length := by omega
            have HF : Hid (chkT t = splitOk t.amt t.wt) := by
              rw [Hid, HC.out, htg, List.drop_length]; rfl
            have KS := Lib.hid (refSplit_err t.amt t.wt t.Aw t.wt.length t.cw wr.heap.size wr (HIN.out.below hbel).wt (Nat.le_refl _) HLW.out)
            clear htg hbel HC
            go_wp2_with fail
            refine KS.out.mono ?_
            rintro e w5 ⟨⟨A5, n5, c5, rfl⟩, hb5⟩
            have HB5 := Lib.hid (HBW.out.trans (hb5.mono HBW.out.size))
            clear hb5 KS x6 x8 x9 x10
            cases hs : splitOk t.amt t.wt
            · have HG : Hid (chkT t = false) := HF.out.trans hs
              clear HF hs
              go_wp2_with fail
              go_ret
              exact ⟨congrArg (fun b => Ending.returned (Value.bool b)) HG.out.symm, HB5.out⟩
            · have HG : Hid (chkT t = true) := HF.out.trans hs
              clear HF hs
              go_wp2_with fail
              go_ret
              exact ⟨congrArg (fun b => Ending.returned (Value.bool b)) HG.out.symm, HB5.out⟩
      · have HE : Hid (chkT t = false) := by rw [Hid, HR.out]; simp [k1, k2]
        clear HR
        go_wp2_with fail
        go_ret
        exact ⟨congrArg (fun b => Ending.returned (Value.bool b)) HE.out.symm, HB.out⟩
end Go.Proofs.YtjlokkjbdgcooaaGreat

