/-
  Several texts, one behind the other: what each holds stands ahead of it.
-/
import Derived.Test.YtjlokkjbdgcooaaGreatMany17
import Derived.Test.YtjlokkjbdgcooaaGreatMany16

/-
  Contract of plan's (Template).allocate.
-/
namespace Go.Proofs.YtjlokkjbdgcooaaGreat
open Mo
open Go.RowKit Go.Sort

/-- Parts of an amount. -/
noncomputable def partsT (a : Int) (l : List Int) : List Int :=
  (List.range l.length).map fun k => signed (partOf (absI a) l (Classical.epsilon fun S => Taken (restOf (absI a) l) l.length (Mo.leftOf (absI a) l l.length).toNat S) k) a
theorem partsT_len (a : Int) (l : List Int) : (partsT a l).length = l.length := by simp [partsT]
theorem partsT_at {a : Int} {l : List Int} {S : Nat → Bool} (h : Taken (restOf (absI a) l) l.length (Mo.leftOf (absI a) l l.length).toNat S) {k : Nat} (hk : k < l.length) : (partsT a l)[k]? = some (signed (partOf (absI a) l S k) a) := by
  have he : (Classical.epsilon fun S => Taken (restOf (absI a) l) l.length (Mo.leftOf (absI a) l l.length).toNat S) = S := taken_unique (fun i j => restOf_inj _ _) (Classical.epsilon_spec (p := fun S => Taken (restOf (absI a) l) l.length (Mo.leftOf (absI a) l l.length).toNat S) ⟨S, h⟩) h
  unfold partsT
  rw [he]
  simp [hk]
/-- Lines of targets by their parts, those of 0 left out. -/
def lnsOf : List Int → List Int → List Lin
  | x :: r, p :: q => if p = 0 then lnsOf r q else ⟨x, p, 0⟩ :: lnsOf r q
  | _, _ => []
theorem lnsOf_step : ∀ {tg ps : List Int} {k : Nat} {x p : Int}, tg[k]? = some x → ps[k]? = some p → lnsOf (tg.take (k + 1)) (ps.take (k + 1)) = lnsOf (tg.take k) (ps.take k) ++ if p = 0 then [] else [⟨x, p, 0⟩]
  | [], _, _, _, _, h, _ => by simp at h
  | _ :: _, [], _, _, _, _, h => by simp at h
  | y :: r, q :: s, 0, x, p, h, h2 => by
    simp at h h2; subst h h2
    by_cases hq : q = 0 <;> simp [lnsOf, hq]
  | y :: r, q :: s, k + 1, x, p, h, h2 => by
    have := lnsOf_step (tg := r) (ps := s) (k := k) (x := x) (p := p) (by simpa using h) (by simpa using h2)
    rw [List.take_succ_cons, List.take_succ_cons, List.take_succ_cons, List.take_succ_cons]
    by_cases hq : q = 0
    · rw [lnsOf, if_pos hq, lnsOf, if_pos hq, this]
    · rw [lnsOf, if_neg hq, lnsOf, if_neg hq, this]; rfl
theorem lnsOf_len : ∀ tg ps : List Int, (lnsOf tg ps).length ≤ tg.length
  | [], _ => by simp [lnsOf]
  | _ :: _, [] => by simp [lnsOf]
  | y :: r, q :: s => by
    have := lnsOf_len r s
    unfold lnsOf
    split <;> simp <;> omega
noncomputable def allJ (t : Tpl) (per id : Int) : Jrn := ⟨id, t.ent, per, ⟨#[]⟩, lnsOf t.tg (partsT t.amt t.wt) ++ [⟨t.cre, -t.amt, 0⟩], false⟩

set_option maxRecDepth 100000 in
set_option maxHeartbeats 4000000 in
theorem allocate_any (t : Tpl) (per id : Int) (w : World) (h : TplIn w t) (ha : 1 ≤ t.amt ∧ t.amt ≤ 1000000000000000) (hs : splitOk t.amt t.wt = true) (hl : t.wt.length = t.tg.length) :
    Calls Tryz.prog 132 #[.agg t.cells.toArray, .int .i64 per, .int .i64 id] w (MadeJs w 0 [allJ t per id]) := by
  obtain ⟨W, hW⟩ : ∃ W, w.alloc (.cells t.cells.toArray 24) = W := ⟨_, rfl⟩
  have hbW : Below w.heap.size w W := by rw [← hW]; exact (Below.refl _ _).alloc (Nat.le_refl _) _
  have hx : TplAt W w.heap.size t := by rw [← hW]; exact heap_new w _
  have hin := h.below hbW
  unfold splitOk at hs
  simp only [Bool.and_eq_true, decide_eq_true_eq] at hs
  obtain ⟨⟨⟨s1, s2⟩, s3⟩, s4⟩ := hs
  have ks := Lib.hid (split_ok t.amt t.wt t.Aw t.wt.length t.cw W.heap.size W hin.wt (Nat.le_refl _) s1 s3 s2 s4)
  have HL := Lib.hid hl
  have HW := Lib.hid hW; have HBW := Lib.hid hbW
  have HTX : Hid (∀ w1, Below W.heap.size W w1 → TplAt w1 w.heap.size t) := fun w1 hb1 => hx.below hb1
  have HTG : Hid (∀ w1, Below W.heap.size W w1 → Rd w1 W.heap.size 1 t.At t.tg.length (ints .i64 t.tg)) := fun w1 hb1 => hin.tg.below hb1
  obtain ⟨⟨x0, x1, x2, x3, x4, x5⟩, x6, x7, x8, x9, x10, x11⟩ := tpl_cells hx
  clear hW hbW hx hin h s1 s3 s4 hl
  unfold Tpl.cells at *
  go_enter Tryz.func132, Tryz.ntmps132
  go_wp2_with fail
  rw [HW.out]
  refine ks.out.mono ?_
  rintro e w2 ⟨p, S, rfl, hp, hrow, hT, hb2⟩
  have HP : Hid (∀ k, k < t.wt.length → (partsT t.amt t.wt)[k]? = some (signed (partOf (absI t.amt) t.wt S k) t.amt)) := fun k hk => partsT_at hT hk
  have HB2 := Lib.hid hb2
  have HROW := Lib.hid hrow
  clear hp hrow hT hb2 ks x0 x1 x2 x3 x4 x5 x6 x7 x8 x9 x10 x11
  generalize hf : (fun k => signed (partOf (absI t.amt) t.wt S k) t.amt) = f at *
  have HP2 : Hid (∀ k, k < t.wt.length → (partsT t.amt t.wt)[k]? = some (f k)) := fun k hk => by rw [← hf]; exact HP.out k hk
  clear HP hf
  go_wp2_with fail
  go_loopw [10, 11, 12, 26] (fun lv _ _ iv wr => ∃ (k : Nat) (A : Option Addr) (c m : Nat), k ≤ t.wt.length ∧ iv = .int .i64 k ∧ lv = .slice A m c ∧ m ≤ k ∧ wr.ownsRow w2.heap.size 113 3 (.slice A m c) m (lins (lnsOf (t.tg.take k) ((partsT t.amt t.wt).take k))) ∧ Below w2.heap.size w2 wr) (fun _ _ _ iv _ => t.wt.length - (intOf iv).toNat)
  case atStart => exact ⟨0, none, 0, 0, Nat.zero_le _, rfl, rfl, Nat.le_refl _, World.ownsRow_nil _ _ _ _, Below.refl _ _⟩
  case round =>
    obtain ⟨k, A, c, m, hk, rfl, rfl, hm, hown, hbel⟩ := hrel
    have HBr : Hid (Below W.heap.size W wr) := HB2.out.trans (hbel.mono HB2.out.size)
    obtain ⟨⟨x0, x1, x2, x3, x4, x5⟩, x6, x7, x8, x9, x10, x11⟩ := tpl_cells (HTX.out wr HBr.out)
    have HOW := Lib.hid hown
    have HBL := Lib.hid hbel
    clear hown hbel
    by_cases hlt : k < t.wt.length
    · have hkn : (k : Int) < (t.wt.length : Int) := by omega
      have hkt : k < t.tg.length := by rw [← HL.out]; exact hlt
      have hktI : (k : Int) < (t.tg.length : Int) := by omega
      obtain ⟨x, htx⟩ : ∃ x, t.tg[k]? = some x := ⟨_, List.getElem?_eq_getElem hkt⟩
      obtain ⟨ad, hAt, _, hct⟩ := (HTG.out wr HBr.out).int hkt
      rw [htx] at hct
      simp only [Option.getD_some] at hct
      rw [hAt] at x9
      have hpc := (HROW.out.below HBL.out HROW.out.lt).cell hlt
      have HST := Lib.hid (lnsOf_step htx (HP2.out k hlt))
      clear htx hAt
      by_cases h0 : f k = 0
      · have h0B : (f k != 0) = false := by simpa using h0
        have HS2 : Hid (lnsOf (t.tg.take (k + 1)) ((partsT t.amt t.wt).take (k + 1)) = lnsOf (t.tg.take k) ((partsT t.amt t.wt).take k)) := by rw [Hid, HST.out, if_pos h0, List.append_nil]
        clear h0 x0 x1 x2 x3 x4 x5 x6 x7 x8 x9 x10 x11
        go_wp2_with fail
        exact ⟨⟨k + 1, A, c, m, by omega, by go_num, rfl, by omega, by rw [HS2.out]; exact HOW.out, HBL.out⟩, by simp [intOf]; omega⟩
      · have h0B : (f k != 0) = true := by simpa using h0
        have HS2 : Hid (lnsOf (t.tg.take (k + 1)) ((partsT t.amt t.wt).take (k + 1)) = lnsOf (t.tg.take k) ((partsT t.amt t.wt).take k) ++ [⟨x, f k, 0⟩]) := by rw [Hid, HST.out, if_neg h0]
        obtain ⟨v', w4, hrun, hown4, _, hb4⟩ := append_lin ⟨x, f k, 0⟩ HOW.out HBL.out.size (by omega)
        obtain ⟨A4, c4, rfl⟩ := own_form hown4
        have HR := Lib.hid hrun
        have HO4 : Hid (w4.ownsRow w2.heap.size 113 3 (.slice A4 (m + 1) c4) (m + 1) (lins (lnsOf (t.tg.take (k + 1)) ((partsT t.amt t.wt).take (k + 1))))) := by rw [Hid, HS2.out]; exact hown4
        have HB4 : Hid (Below w2.heap.size w2 w4) := HBL.out.trans hb4
        clear h0 hrun hown4 hb4 x0 x1 x2 x3 x4 x5 x6 x7 x8 x10 x11
        go_wp2_with (at_builtin; refine wpList_append_run rfl _ _ _ rfl _ _ _ _ rfl rfl (HR.out _) ?_)
        exact ⟨⟨k + 1, A4, c4, m + 1, by omega, by go_num, rfl, by omega, HO4.out, HB4.out⟩, by simp [intOf]; omega⟩
    · obtain rfl : k = t.wt.length := by omega
      have hkI : ¬ (t.wt.length : Int) < (t.wt.length : Int) := by omega
      have e1 : t.tg.take t.wt.length = t.tg := by rw [HL.out]; exact List.take_length
      have e2 : (partsT t.amt t.wt).take t.wt.length = partsT t.amt t.wt := List.take_of_length_le (by rw [partsT_len]; omega)
      have hown := HOW.out
      rw [e1, e2] at hown
      have HO2 := Lib.hid hown
      have kj := Lib.hid (journal_any t per id _ m w2.heap.size _ wr hown HBL.out.size (by omega) ha)
      have hz2 : w.heap.size ≤ w2.heap.size := Nat.le_trans HBW.out.size HB2.out.size
      unfold Tpl.cells at kj
      clear e1 e2 hown
      go_wp2_with fail
      refine kj.out.mono ?_
      rintro e w5 ⟨A5, c5, rfl, hown5, hb5⟩
      have hlen5 : m + 1 = (allJ t per id).lines.length := by have := hown5.1; rw [lins_len] at this; exact (Nat.eq_of_mul_eq_mul_right (by omega) this).symm
      have HO5 : Hid (w5.ownsRow w.heap.size 113 3 (JR.mk (allJ t per id) A5 c5).lv (JR.mk (allJ t per id) A5 c5).j.lines.length (lins (JR.mk (allJ t per id) A5 c5).j.lines)) := by
        have := own_base hown5 hz2
        rw [hlen5] at this
        exact this
      have HB5 : Hid (Below w.heap.size w w5) := (HBW.out.trans ((HB2.out.trans (HBL.out.mono HB2.out.size)).mono HBW.out.size)).trans (hb5.mono hz2)
      have HL5 := Lib.hid hlen5
      clear hown5 hb5 kj hlen5 x0 x1 x2 x3 x4 x5 x6 x7 x8 x9 x10 x11
      go_wp2_with fail
      go_ret2
      have ho1 := own_one HO5.out HB5.out.size
      refine ⟨HB5.out.alloc HB5.out.size _, .inr ⟨rfl, some ⟨w5.heap.size, 0, none⟩, 1, [JR.mk (allJ t per id) A5 c5], rfl, rfl, ?_⟩⟩
      rw [HL5.out]
      exact ho1
end Go.Proofs.YtjlokkjbdgcooaaGreat

/-
  Contracts of slices.Contains at ints, slices.ContainsFunc at journals that may not be.
-/
namespace Go.Proofs.YtjlokkjbdgcooaaGreat
open Go.RowKit

set_option maxRecDepth 100000 in
set_option maxHeartbeats 1000000 in
theorem containsI_any (l : List Int) (x : Int) (A : Option Addr) (n c B : Nat) (w : World) (h : Rd w B 1 A n (ints .i64 l)) (hn : n ≤ 1000000) :
    Calls Tryz.prog 55 #[.slice A n c, .int .i64 x] w fun e w' => e = .returned (.bool (decide (x ∈ l))) ∧ w = w' := by
  have ki : Calls Tryz.prog 136 #[.slice A n c, .int .i64 x] w fun e w' => ∃ r : Int, e = .returned (.int .i64 r) ∧ decide (r ≥ 0) = decide (x ∈ l) ∧ w = w' := by
    have HR := Lib.hid h
    have HL := Lib.hid h.ints_len
    clear h
    go_enter Tryz.func136, Tryz.ntmps136
    go_wp2_with fail
    go_loopw [5, 8] (fun _ iv wr => ∃ k : Nat, k ≤ n ∧ iv = .int .i64 k ∧ Hid (∀ y ∈ l.take k, y ≠ x) ∧ wr = w) (fun _ iv _ => n - (intOf iv).toNat)
    case atStart => exact ⟨0, Nat.zero_le _, rfl, by simp [Hid], rfl⟩
    case round =>
      obtain ⟨k, hk, rfl, hno, rfl⟩ := hrel
      by_cases hlt : k < n
      · have hkn : (k : Int) < (n : Int) := by omega
        obtain ⟨ad, rfl, _, hc⟩ := HR.out.int hlt
        obtain ⟨y, hy⟩ : ∃ y, l[k]? = some y := ⟨_, List.getElem?_eq_getElem (by have := HL.out; omega)⟩
        rw [hy] at hc
        simp only [Option.getD_some] at hc
        have HY := Lib.hid hy
        clear hy
        by_cases hxy : x = y
        · have hb : (x == y) = true := by simpa using hxy
          have HM : Hid (x ∈ l) := by rw [hxy]; exact List.mem_of_getElem? HY.out
          clear hxy
          go_wp2_with fail
          go_ret
          exact ⟨(k : Int), rfl, by rw [decide_eq_true HM.out]; simp, rfl⟩
        · have hb : (x == y) = false := by simpa using hxy
          have HN : Hid (∀ z ∈ l.take (k + 1), z ≠ x) := by
            intro z hz
            obtain ⟨hkl, e⟩ := List.getElem?_eq_some_iff.1 HY.out
            rw [List.take_succ_eq_append_getElem hkl, List.mem_append] at hz
            rcases hz with hz | hz
            · exact hno.out z hz
            · have : z = l[k] := by simpa using hz
              rw [this, e]
              exact fun h => hxy h.symm
          clear hxy
          go_wp2_with fail
          exact ⟨⟨k + 1, by omega, by go_num, HN.out, by first | rfl | trivial⟩, by simp [intOf]; omega⟩
      · obtain rfl : k = n := by omega
        rw [List.take_of_length_le (by have := HL.out; omega)] at hno
        have HM : Hid (x ∉ l) := fun h => hno.out x h rfl
        go_wp2_with fail
        go_ret
        exact ⟨-1, rfl, by rw [decide_eq_false HM.out]; rfl, rfl⟩
  have KI := Lib.hid ki
  clear ki h
  go_enter Tryz.func55, Tryz.ntmps55
  go_wp2_with fail
  refine KI.out.mono ?_
  rintro e w1 ⟨r, rfl, hr, rfl⟩
  have HR := Lib.hid hr
  clear hr
  go_wp2_with fail
  go_ret
  exact ⟨ret_bool HR.out, rfl⟩

set_option maxRecDepth 100000 in
set_option maxHeartbeats 1000000 in
theorem mayNot_any (a : JR) (B : Nat) (w : World) (h : Rd w B 3 a.A a.j.lines.length (lins a.j.lines)) (hB : B ≤ w.heap.size) (hn : a.j.lines.length ≤ maxLen) (hs : a.j.ref.size ≤ maxLen) :
    Calls Tryz.prog 57 #[.agg #[.int .i64 a.j.id, .int .i64 a.j.ent, .int .i64 a.j.per, .string a.j.ref, .slice a.A a.j.lines.length a.c, .bool a.j.void]] w fun e w' => e = .returned (.bool (checkE a.j != 0)) ∧ Below w.heap.size w w' := by
  obtain ⟨W, hW⟩ : ∃ W, w.alloc (.cells #[.int .i64 a.j.id, .int .i64 a.j.ent, .int .i64 a.j.per, .string a.j.ref, .slice a.A a.j.lines.length a.c, .bool a.j.void] 111) = W := ⟨_, rfl⟩
  have hb : Below w.heap.size w W := by rw [← hW]; exact (Below.refl _ _).alloc (Nat.le_refl _) _
  have hx : JAt W w.heap.size a.j a.A a.j.lines.length a.c := by rw [← hW]; exact heap_new w _
  have kc := Lib.hid (check_any a.j a.A a.j.lines.length a.c B W (h.far hb hB) (Nat.le_trans hB hb.size) hn hs)
  unfold Jrn.val at kc
  obtain ⟨b0, b1, b2, b3, b4, b5⟩ := six_cells hx
  have HW := Lib.hid hW; have HB := Lib.hid hb
  clear hW hb hx h
  go_enter Tryz.func57, Tryz.ntmps57
  go_wp2_with fail
  rw [HW.out]
  refine kc.out.mono ?_
  rintro e w1 ⟨rfl, hb1⟩
  have HB1 := Lib.hid (HB.out.trans (hb1.mono HB.out.size))
  clear hb1
  go_wp2_with fail
  go_ret
  exact ⟨rfl, HB1.out⟩

set_option maxRecDepth 100000 in
set_option maxHeartbeats 2000000 in
theorem containsJ_any (l : List JR) (A : Option Addr) (n c B : Nat) (w : World) (h : JlRd w B A n l) (hB : B ≤ w.heap.size) (hn : n ≤ 1000000) :
    Calls Tryz.prog 56 #[.slice A n c, .func (.func 57) #[] #[]] w fun e w' => e = .returned (.bool ((l.map JR.j).any fun j => checkE j != 0)) ∧ Below w.heap.size w w' := by
  have ki : Calls Tryz.prog 137 #[.slice A n c, .func (.func 57) #[] #[]] w fun e w' => ∃ r : Int, e = .returned (.int .i64 r) ∧ decide (r ≥ 0) = ((l.map JR.j).any fun j => checkE j != 0) ∧ Below w.heap.size w w' := by
    have HJ : Hid (∀ w1, Below w.heap.size w w1 → JlRd w1 B A n l) := fun w1 hb => h.far hb hB
    have HL := Lib.hid h.len
    clear h
    go_enter Tryz.func137, Tryz.ntmps137
    go_wp2_with fail
    go_loopw [5, 8] (fun _ iv wr => ∃ k : Nat, k ≤ n ∧ iv = .int .i64 k ∧ Hid (∀ y ∈ l.take k, checkE y.j = 0) ∧ Below w.heap.size w wr) (fun _ iv _ => n - (intOf iv).toNat)
    case atStart => exact ⟨0, Nat.zero_le _, rfl, by simp [Hid], Below.refl _ _⟩
    case round =>
      obtain ⟨k, hk, rfl, hno, hbel⟩ := hrel
      have HBL := Lib.hid hbel
      clear hbel
      by_cases hlt : k < n
      · have hkn : (k : Int) < (n : Int) := by omega
        obtain ⟨ad, y, rfl, _, hy, p1, p2, p3, p4, p5, p6⟩ := (HJ.out wr HBL.out).rd.jr hlt
        have hmem := List.mem_of_getElem? hy
        have hsz := (HJ.out wr HBL.out).size y hmem
        have km := Lib.hid (mayNot_any y B wr ((HJ.out wr HBL.out).lines y hmem) (Nat.le_trans hB HBL.out.size) hsz.2 hsz.1)
        have HY := Lib.hid hy; have HM := Lib.hid hmem
        clear hy hmem hsz
        go_wp2_with fail
        refine km.out.mono ?_
        rintro e w1 ⟨rfl, hb1⟩
        have HB1 : Hid (Below w.heap.size w w1) := HBL.out.trans (hb1.mono HBL.out.size)
        clear hb1 km p1 p2 p3 p4 p5 p6
        by_cases hxy : checkE y.j = 0
        · have hb : (checkE y.j != 0) = false := by simpa using hxy
          have HN : Hid (∀ z ∈ l.take (k + 1), checkE z.j = 0) := by
            intro z hz
            obtain ⟨hkl, e⟩ := List.getElem?_eq_some_iff.1 HY.out
            rw [List.take_succ_eq_append_getElem hkl, List.mem_append] at hz
            rcases hz with hz | hz
            · exact hno.out z hz
            · have : z = l[k] := by simpa using hz
              rw [this, e]
              exact hxy
          clear hxy
          go_wp2_with fail
          exact ⟨⟨k + 1, by omega, by go_num, HN.out, HB1.out⟩, by simp [intOf]; omega⟩
        · have hb : (checkE y.j != 0) = true := by simpa using hxy
          have HA : Hid (((l.map JR.j).any fun j => checkE j != 0) = true) := List.any_eq_true.2 ⟨y.j, List.mem_map.2 ⟨y, HM.out, rfl⟩, hb⟩
          clear hxy
          go_wp2_with fail
          go_ret
          exact ⟨(k : Int), rfl, by rw [HA.out]; simp, HB1.out⟩
      · obtain rfl : k = n := by omega
        rw [List.take_of_length_le (by have := HL.out; omega)] at hno
        have HA : Hid (((l.map JR.j).any fun j => checkE j != 0) = false) := by
          unfold Hid
          rw [List.any_eq_false]
          intro j hj
          obtain ⟨a, ha, rfl⟩ := List.mem_map.1 hj
          simp [hno.out a ha]
        go_wp2_with fail
        go_ret
        exact ⟨-1, rfl, by rw [HA.out]; rfl, HBL.out⟩
  have KI := Lib.hid ki
  clear ki h
  go_enter Tryz.func56, Tryz.ntmps56
  go_wp2_with fail
  refine KI.out.mono ?_
  rintro e w1 ⟨r, rfl, hr, hb⟩
  have HR := Lib.hid hr
  have HB := Lib.hid hb
  clear hr hb
  go_wp2_with fail
  go_ret
  exact ⟨ret_bool HR.out, HB.out⟩
end Go.Proofs.YtjlokkjbdgcooaaGreat
