/-
  Contract of the reference's MakePlan.
-/
import Derived.Test.YtjlokkjbdgcooaaGreatMany19
import Derived.Test.YtjlokkjbdgcooaaGreatMany23
import Derived.Test.YtjlokkjbdgcooaaGreatRefReverse
import Derived.Test.YtjlokkjbdgcooaaGreatMany24
import Derived.Test.YtjlokkjbdgcooaaGreatMany7
import Derived.BigQuiet
namespace Go.Proofs.YtjlokkjbdgcooaaGreat
open Go.RowKit Go.Sort

def RMkEnd (w : World) (ok : Bool) (js : List Jrn) (e : Ending) (w' : World) : Prop :=
  Below w.heap.size w w' ∧ ((ok = false ∧ e = .returned (.tuple #[.slice none 0 0, .bool false])) ∨ (ok = true ∧ ∃ A c l, e = .returned (.tuple #[.slice A (List.length l) c, .bool true]) ∧ l.map JR.j = js ∧ OwnJl w' w.heap.size A (List.length l) c l))
theorem RMkEnd.no {w w' : World} {js : List Jrn} (hb : Below w.heap.size w w') : RMkEnd w false js (.returned (.tuple #[.slice none 0 0, .bool false])) w' := ⟨hb, .inl ⟨rfl, rfl⟩⟩
theorem mkB_no {t : Tpl} {per id : Int} (h : ¬ per ∈ perT t) : mkB t per id = false := by unfold mkB; rw [decide_eq_false h]; simp
theorem mkB_yes {t : Tpl} {per id : Int} (h : per ∈ perT t) : mkB t per id = !((mkL t per id).any fun j => checkE j != 0) := by
  unfold mkB
  rw [decide_eq_true h, (perT_mem h).1]
  rfl
theorem mem_step {l : List Int} {k : Nat} {x p : Int} (h : l[k]? = some x) : decide (p ∈ l.take (k + 1)) = (decide (p ∈ l.take k) || (x == p)) := by
  obtain ⟨hk, rfl⟩ := List.getElem?_eq_some_iff.1 h
  rw [List.take_succ_eq_append_getElem hk, Bool.eq_iff_iff]
  simp only [decide_eq_true_eq, List.mem_append, List.mem_singleton, Bool.or_eq_true, beq_iff_eq]
  exact ⟨fun h => h.elim .inl fun e => .inr e.symm, fun h => h.elim .inl fun e => .inr e.symm⟩

set_option maxRecDepth 100000 in
set_option maxHeartbeats 8000000 in
theorem refMake_any (t : Tpl) (per id : Int) (w : World) (h : TplIn w t) (hid : -4611686018427387904 ≤ id ∧ id ≤ 4611686018427387904) :
    Calls Tryz.prog 17 #[.agg t.cells.toArray, .int .i64 per, .int .i64 id] w (RMkEnd w (mkB t per id) (mkL t per id)) := by
  obtain ⟨W, hW⟩ : ∃ W, w.alloc (.cells t.cells.toArray 28) = W := ⟨_, rfl⟩
  have hb : Below w.heap.size w W := by rw [← hW]; exact (Below.refl _ _).alloc (Nat.le_refl _) _
  have hx : RTplAt W w.heap.size t := by rw [← hW]; exact heap_new w _
  have hin := h.below hb
  have HW := Lib.hid hW; have HB := Lib.hid hb
  have HTX : Hid (∀ w1, Below W.heap.size W w1 → RTplAt w1 w.heap.size t) := fun w1 hb1 => hx.below hb1
  have HIN := Lib.hid hin
  have KP := Lib.hid (refPeriods_any t W hin)
  obtain ⟨⟨x0, x1, x2, x3, x4, x5⟩, x6, x7, x8, x9, x10, x11⟩ := rtpl_cells hx
  have HMN : Hid (¬ per ∈ perT t → mkB t per id = false) := mkB_no
  have HMY : Hid (per ∈ perT t → mkB t per id = !((mkL t per id).any fun j => checkE j != 0)) := mkB_yes
  have HPM : Hid (per ∈ perT t → chkT t = true ∧ okP per = true ∧ t.frm ≤ per ∧ per ≤ t.til) := perT_mem
  have hpl : (perT t).length ≤ 1200 := by
    unfold perT
    split
    · rename_i hc
      rw [perL_len]
      exact perN_le hc
    · simp
  clear hW hb hx h hin
  obtain ⟨P, hP⟩ : ∃ P, perT t = P := ⟨_, rfl⟩
  obtain ⟨ok, hok⟩ : ∃ ok, mkB t per id = ok := ⟨_, rfl⟩
  rw [hP] at KP HMN HMY HPM hpl
  rw [hok] at HMN HMY ⊢
  obtain ⟨JS, hJS0⟩ : ∃ JS, mkL t per id = JS := ⟨_, rfl⟩
  have HMK := Lib.hid hJS0
  rw [hJS0] at ⊢
  clear hJS0
  obtain ⟨m, hm⟩ : ∃ m, P.length = m := ⟨_, rfl⟩
  have HM := Lib.hid hm
  rw [hm] at KP hpl
  clear hP hok hm
  unfold Tpl.cells at *
  go_enter Tryz.func17, Tryz.ntmps17
  go_wp2_with fail
  rw [HW.out]
  refine KP.out.mono ?_
  rintro e w2 ⟨A2, c2, rfl, hown2, hb2⟩
  have HB2 : Hid (Below W.heap.size W w2) := hb2
  have HR2 : Hid (Rd w2 w2.heap.size 1 A2 m (ints .i64 P)) := rd_of_own hown2
  clear hown2 hb2 KP x0 x1 x2 x3 x4 x5 x6 x7 x8 x9 x10 x11
  go_wp2_with fail
  go_loopw [9, 10] (fun zv iv wr => ∃ k : Nat, k ≤ m ∧ iv = .int .i64 k ∧ (∃ z, zv = .bool z ∧ Hid (decide (per ∈ P.take k) = z)) ∧ wr = w2) (fun _ iv _ => m - (intOf iv).toNat)
  case atStart => exact ⟨0, Nat.zero_le _, rfl, ⟨false, rfl, by simp [Hid]⟩, rfl⟩
  case round =>
    obtain ⟨k, hk, rfl, ⟨z, rfl, HZ⟩, rfl⟩ := hrel
    by_cases hlt : k < m
    · obtain ⟨ad, rfl, hb0, p0⟩ := HR2.out.int hlt
      obtain ⟨x, hx⟩ : ∃ x, P[k]? = some x := ⟨_, List.getElem?_eq_getElem (by have := HM.out; omega)⟩
      rw [hx] at p0
      simp only [Option.getD_some] at p0
      have hkI : (k : Int) < (m : Int) := by omega
      have HST := Lib.hid (mem_step (p := per) hx)
      clear hx hb0
      cases z
      · by_cases e1 : x = per
        · have e1b : (x == per) = true := by simpa using e1
          have HE : Hid (decide (per ∈ P.take (k + 1)) = true) := by rw [Hid, HST.out, e1b, HZ.out]; rfl
          clear e1 HST
          go_wp2_with fail
          exact ⟨⟨k + 1, by omega, by go_num, ⟨_, rfl, HE⟩, by first | rfl | trivial⟩, by simp [intOf]; omega⟩
        · have e1b : (x == per) = false := by simpa using e1
          have HE : Hid (decide (per ∈ P.take (k + 1)) = false) := by rw [Hid, HST.out, e1b, HZ.out]; rfl
          clear e1 HST
          go_wp2_with fail
          exact ⟨⟨k + 1, by omega, by go_num, ⟨_, rfl, HE⟩, by first | rfl | trivial⟩, by simp [intOf]; omega⟩
      · have HE : Hid (decide (per ∈ P.take (k + 1)) = true) := by rw [Hid, HST.out, HZ.out]; rfl
        clear HST
        go_wp2_with fail
        exact ⟨⟨k + 1, by omega, by go_num, ⟨_, rfl, HE⟩, by first | rfl | trivial⟩, by simp [intOf]; omega⟩
    · obtain rfl : k = m := by omega
      have hz := HZ.out
      rw [List.take_of_length_le (by rw [HM.out]; exact Nat.le_refl _)] at hz
      cases z
      · obtain rfl : ok = false := HMN.out (of_decide_eq_false hz)
        clear hz HZ
        go_wp2_with fail
        go_ret2
        exact RMkEnd.no (HB.out.trans (HB2.out.mono HB.out.size))
      · have hmem : per ∈ P := of_decide_eq_true hz
        have hoke := HMY.out hmem
        obtain ⟨hck, hpo, hp1, hp2⟩ := HPM.out hmem
        have HOKE := Lib.hid hoke; have HCK := Lib.hid hck; have HPO := Lib.hid hpo
        clear hz HZ hmem hoke hck hpo HMY HPM HMN HR2
        obtain ⟨⟨x0, x1, x2, x3, x4, x5⟩, x6, x7, x8, x9, x10, x11⟩ := rtpl_cells (HTX.out wr HB2.out)
        have hlt2 : w.heap.size < wr.heap.size := lt_of_blk (HTX.out wr HB2.out)
        by_cases hk1 : t.kind = 1
        · have hmk : mkL t per id = accL t per id := by unfold mkL; rw [if_pos hk1]
          obtain ⟨_, _, _, _, ha⟩ := front_of HCK.out
          have hwa : wrap64 (-t.amt) = -t.amt := by unfold wrap64; omega
          have hkb : (t.kind == 1) = true := by simpa using hk1
          obtain ⟨W3, hW3⟩ : ∃ W3, wr.alloc (.cells #[.int .i64 id, .int .i64 t.ent, .int .i64 per, .string ⟨#[]⟩, .slice (some ⟨wr.heap.size + 1, 0, none⟩) 2 2, .bool false] 111) = W3 := ⟨_, rfl⟩
          have hb3 : Below wr.heap.size wr W3 := by rw [← hW3]; exact (Below.refl _ _).alloc (Nat.le_refl _) _
          have hz3 : W3.heap.size = wr.heap.size + 1 := by rw [← hW3]; simp
          have hj3 : JAt W3 wr.heap.size (accJ t per id) (some ⟨wr.heap.size + 1, 0, none⟩) 2 2 := by rw [← hW3]; exact heap_new wr _
          obtain ⟨W4, hW4⟩ : ∃ W4, W3.alloc (.cells #[.int .i64 t.deb, .int .i64 t.amt, .int .i64 0, .int .i64 t.cre, .int .i64 (-t.amt), .int .i64 0] 113) = W4 := ⟨_, rfl⟩
          have hb4 : Below W3.heap.size W3 W4 := by rw [← hW4]; exact (Below.refl _ _).alloc (Nat.le_refl _) _
          have hj4 : JAt W4 wr.heap.size (accJ t per id) (some ⟨wr.heap.size + 1, 0, none⟩) 2 2 := (hb4.block _ (lt_of_blk hj3)).trans hj3
          have ho4 : W4.ownsRow wr.heap.size 113 3 (.slice (some ⟨wr.heap.size + 1, 0, none⟩) 2 2) 2 (lins (accJ t per id).lines) := by
            rw [← hW4, ← hz3]
            exact ⟨by simp [lins, Lin.cells, accJ], .inr ⟨W3.heap.size, 2, _, rfl, by omega, heap_new W3 _, Nat.le_refl _, by unfold maxLen; omega, by simp, by simp [lins, Lin.cells, accJ]⟩⟩
          have kc := refCheck_any (accJ t per id) (some ⟨wr.heap.size + 1, 0, none⟩) 2 2 W4.heap.size W4 (rd_of_own ho4) (Nat.le_refl _)
          have KC := Lib.hid kc; have HJ4 := Lib.hid hj4; have HO4 := Lib.hid ho4
          have HB4 : Hid (Below wr.heap.size wr W4) := hb3.trans (hb4.mono hb3.size)
          have HW : Hid ((wr.alloc (.cells #[.int .i64 id, .int .i64 t.ent, .int .i64 per, .string ⟨#[]⟩, .slice (some ⟨wr.heap.size + 1, 0, none⟩) 2 2, .bool false] 111)).alloc (.cells #[.int .i64 t.deb, .int .i64 t.amt, .int .i64 0, .int .i64 t.cre, .int .i64 (-t.amt), .int .i64 0] 113) = W4) := by unfold Hid; rw [hW3, hW4]
          have HACC : Hid (mkL t per id = accL t per id) := hmk
          rw [hmk] at HOKE
          have hjs : JS = accL t per id := HMK.out.symm.trans hmk
          have hany1 : checkE (accJ t per id) ≠ 0 → ok = false := fun h => by
            have h2 := HOKE
            rw [h2]
            unfold accL
            simp [h]
          have hany2 : per < 1199 → checkE (accJ t per id) = 0 → revE (accJ t per id) (id + 1) (per + 1) ≠ 0 → ok = false := fun h1 h2 h3 => by
            have h4 := HOKE
            rw [h4, accE_any (by unfold accE; rw [if_pos h1]; exact h3)]
            rfl
          have hall : checkE (accJ t per id) = 0 → (per < 1199 → revE (accJ t per id) (id + 1) (per + 1) = 0) → ok = true := fun h1 h2 => by
            have h4 := HOKE
            rw [h4]
            unfold accL
            split
            · rename_i hlt
              have h5 := h2 hlt
              unfold revE at h5
              rw [if_pos h1] at h5
              simp [h1, h5]
            · simp [h1]
          have HANY1 := Lib.hid hany1; have HANY2 := Lib.hid hany2; have HALL := Lib.hid hall
          have HACL : Hid (accL t per id = accJ t per id :: if per < 1199 then [revJ (accJ t per id) (id + 1) (per + 1)] else []) := rfl
          have HRV : Hid (revE (accJ t per id) (id + 1) (per + 1) = 0 → revV (accJ t per id) (id + 1) (per + 1) = revJ (accJ t per id) (id + 1) (per + 1)) := fun h => by unfold revV; rw [if_pos h]
          have HKR : Hid (∀ w1, Below W4.heap.size W4 w1 → Calls Tryz.prog 59 #[(accJ t per id).val (some ⟨wr.heap.size + 1, 0, none⟩) 2 2, .int .i64 (id + 1), .int .i64 (per + 1)] w1 (RevEnd w1 (accJ t per id) (id + 1) (per + 1))) := fun w1 hb => refReverse_any (accJ t per id) (some ⟨wr.heap.size + 1, 0, none⟩) 2 2 W4.heap.size (id + 1) (per + 1) w1 ((rd_of_own HO4.out).far hb (Nat.le_refl _)) hb.size (by unfold maxLen; omega)
          have hjid : accJ t per id = ⟨id, t.ent, per, ⟨#[]⟩, [⟨t.deb, t.amt, 0⟩, ⟨t.cre, -t.amt, 0⟩], false⟩ := rfl
          have hjf : (accJ t per id).id = id ∧ (accJ t per id).ent = t.ent ∧ (accJ t per id).per = per ∧ (accJ t per id).ref = ⟨#[]⟩ ∧ (accJ t per id).void = false ∧ (accJ t per id).lines.length = 2 := ⟨rfl, rfl, rfl, rfl, rfl, rfl⟩
          obtain ⟨J, hJ⟩ : ∃ J, accJ t per id = J := ⟨_, rfl⟩
          rw [hJ] at KC HJ4 HO4 HANY1 HANY2 HALL HACL HRV HKR hjf
          obtain ⟨f1, f2, f3, f4, f5, f6⟩ := hjf
          unfold Jrn.val at KC HKR
          rw [f1, f2, f3, f4, f5] at KC HKR
          rw [← hjs] at HACL
          clear hjs hany1 hany2 hall hJ hjid HOKE HACC
          clear hmk ha hk1 hW3 hW4 hb3 hb4 hj3 hj4 ho4 kc hz3
          go_wp2_with fail
          rw [hwa, HW.out]
          refine KC.out.mono ?_
          rintro e w5 ⟨rfl, hb5⟩
          have hj5 : JAt w5 wr.heap.size J (some ⟨wr.heap.size + 1, 0, none⟩) 2 2 := (hb5.block _ (lt_of_blk HJ4.out)).trans HJ4.out
          have hB5 : Below wr.heap.size wr w5 := HB4.out.trans (hb5.mono HB4.out.size)
          have HB5 := Lib.hid hB5
          have HBW5 : Hid (Below W4.heap.size W4 w5) := hb5
          have HO5 := Lib.hid (own_kept HO4.out fun q hq _ => hb5.block q hq)
          clear x0 x1 x2 x3 x4 x5 x6 x7 x8 x9 x10 x11
          obtain ⟨⟨x0, x1, x2, x3, x4, x5⟩, x6, x7, x8, x9, x10, x11⟩ := rtpl_cells (HTX.out w5 (HB2.out.trans (hB5.mono HB2.out.size)))
          have hlt5 : w.heap.size < w5.heap.size := by have := hB5.size; omega
          obtain ⟨g0, g1, g2, g3, g4, g5⟩ := six_cells hj5
          rw [f1] at g0
          rw [f2] at g1
          rw [f3] at g2
          rw [f4] at g3
          rw [f5] at g5
          have hjl5 : wr.heap.size < w5.heap.size := lt_of_blk hj5
          have HBF5 : Hid (Below w.heap.size w w5) := HB.out.trans ((HB2.out.trans (hB5.mono HB2.out.size)).mono HB.out.size)
          clear hb5 hB5 KC hwa
          obtain ⟨E, hE⟩ : ∃ E, checkE J = E := ⟨_, rfl⟩
          rw [hE] at HANY1 HANY2 HALL ⊢
          clear hE
          by_cases hE0 : E = 0
          rotate_left
          · obtain rfl : ok = false := HANY1.out hE0
            have t1 : (E != 0) = true := by simpa using hE0
            clear hE0 hj5
            go_wp2_with fail
            go_ret2
            exact RMkEnd.no HBF5.out
          · subst hE0
            have hwp : IntKind.i64.wrap (per + 1) = per + 1 := by
              have := okP_t HPO.out
              rw [IntKind.wrap_i64]; omega
            have hwi : IntKind.i64.wrap (id + 1) = id + 1 := by rw [IntKind.wrap_i64]; omega
            have hpo := okP_t HPO.out
            obtain ⟨W6, hW6⟩ : ∃ W6, w5.alloc (.cells #[.int .i64 id, .int .i64 t.ent, .int .i64 per, .string ⟨#[]⟩, .slice (some ⟨wr.heap.size + 1, 0, none⟩) 2 2, .bool false] 111) = W6 := ⟨_, rfl⟩
            have hb6 : Below w5.heap.size w5 W6 := by rw [← hW6]; exact (Below.refl _ _).alloc (Nat.le_refl _) _
            have hz6 : W6.heap.size = w5.heap.size + 1 := by rw [← hW6]; simp
            have hlv : ∀ a : JR, a = ⟨J, some ⟨wr.heap.size + 1, 0, none⟩, 2⟩ → a.cells = [.int .i64 id, .int .i64 t.ent, .int .i64 per, .string ⟨#[]⟩, .slice (some ⟨wr.heap.size + 1, 0, none⟩) 2 2, .bool false] := fun a e => by
              subst e
              unfold JR.cells
              dsimp only
              rw [f1, f2, f3, f4, f5, f6]
            have hone := own_one (w := w5) (B := wr.heap.size) (a := ⟨J, some ⟨wr.heap.size + 1, 0, none⟩, 2⟩) (by
              unfold JR.lv
              dsimp only
              rw [f6]
              exact HO5.out) (by omega)
            rw [hlv _ rfl, hW6] at hone
            have HONE := Lib.hid hone
            have hj6 : JAt W6 wr.heap.size J (some ⟨wr.heap.size + 1, 0, none⟩) 2 2 := (hb6.block _ hjl5).trans hj5
            have HB6 : Hid (Below wr.heap.size wr W6) := HB5.out.trans (hb6.mono HB5.out.size)
            have HBF6 : Hid (Below w.heap.size w W6) := HBF5.out.trans (hb6.mono HBF5.out.size)
            have KR6 := Lib.hid (HKR.out W6 (HBW5.out.trans (hb6.mono HBW5.out.size)))
            have KV := Lib.hid (refValid_any (per + 1) W6)
            have HW6 := Lib.hid hW6
            have HJ6 := Lib.hid hj6
            have HZ6 : Hid (W6.heap.size = w5.heap.size + 1) := hz6
            clear hj5 hone hb6 hj6 hW6 hlv HKR hz6
            by_cases hp9 : per < 1199
            · have hv : okP (per + 1) = true := by unfold okP; rw [decide_eq_true_eq]; omega
              rw [hv] at KV
              have HJS : Hid (JS = [J, revJ J (id + 1) (per + 1)]) := by rw [Hid, HACL.out, if_pos hp9]
              clear hv
              go_wp2_with fail
              rw [HW6.out]
              refine KV.out.mono ?_
              rintro e w7 ⟨rfl, rfl⟩
              clear g0 g1 g2 g3 g4 g5
              obtain ⟨g0, g1, g2, g3, g4, g5⟩ := six_cells HJ6.out
              rw [f1] at g0
              rw [f2] at g1
              rw [f3] at g2
              rw [f4] at g3
              rw [f5] at g5
              have hee : revE J (id + 1) (per + 1) = 0 ∨ revE J (id + 1) (per + 1) ≠ 0 := by omega
              have HH := Lib.hid hee
              have HNO2 : Hid (revE J (id + 1) (per + 1) ≠ 0 → ok = false) := fun h => HANY2.out hp9 (by first | rfl | trivial) h
              have HYS2 : Hid (revE J (id + 1) (per + 1) = 0 → ok = true) := fun h => HALL.out (by first | rfl | trivial) fun _ => h
              clear hee
              go_wp2_with fail
              refine KR6.out.mono ?_
              rintro e w8 ⟨A8, n8, c8, rfl, hown8, hb8⟩
              obtain ⟨E2, hE2⟩ : ∃ E2, revE J (id + 1) (per + 1) = E2 := ⟨_, rfl⟩
              obtain ⟨V, hV⟩ : ∃ V, revV J (id + 1) (per + 1) = V := ⟨_, rfl⟩
              rw [hE2] at HH HNO2 HYS2 HRV ⊢
              rw [hV] at hown8 HRV ⊢
              have hnl : V.lines.length = n8 := by have := hown8.1; rw [lins_len] at this; omega
              subst hnl
              have HB8 : Hid (Below wr.heap.size wr w8) := HB6.out.trans (hb8.mono HB6.out.size)
              have HBF8 : Hid (Below w.heap.size w w8) := HBF6.out.trans (hb8.mono HBF6.out.size)
              have HO8 := Lib.hid hown8
              have hK8 := HONE.out.kept hb8
              have HK8 := Lib.hid hK8
              have hz8 := hb8.size
              clear hE2 hV hown8 hb8 KR6 KV hK8
              rcases HH.out with hE | hE
              · have hVV := HRV.out hE
                obtain rfl : ok = true := HYS2.out hE
                subst hE
                obtain ⟨W9, hW9⟩ : ∃ W9, w8.alloc (.cells #[.int .i64 V.id, .int .i64 V.ent, .int .i64 V.per, .string V.ref, .slice A8 V.lines.length c8, .bool V.void] 111) = W9 := ⟨_, rfl⟩
                have hb9 : Below w8.heap.size w8 W9 := by rw [← hW9]; exact (Below.refl _ _).alloc (Nat.le_refl _) _
                have hz9 : W9.heap.size = w8.heap.size + 1 := by rw [← hW9]; simp
                have hk9 := HK8.out.kept hb9
                have hz6 := HZ6.out
                have hsz : wr.heap.size ≤ W9.heap.size := by omega
                obtain ⟨v10, w10, hrun, hown10, hbut10, hb10⟩ := append_jr (w := W9) ⟨V, A8, c8⟩ hk9.own hsz (by omega)
                obtain ⟨A10, c10, rfl⟩ := own_form hown10
                have hbase : w.heap.size ≤ wr.heap.size := by have := HB.out.size; have := HB2.out.size; omega
                have hl1 : w10.ownsRow wr.heap.size 113 3 (JR.lv ⟨J, some ⟨wr.heap.size + 1, 0, none⟩, 2⟩) J.lines.length (lins J.lines) := by
                  have h1 := hk9.lines _ (List.mem_singleton.2 rfl)
                  refine own_kept h1 fun q hq ho => hbut10.block q hq fun e => ?_
                  exact own_own_ne hk9.own h1 (by decide) q e ho
                have hl2 : w10.ownsRow w.heap.size 113 3 (JR.lv ⟨V, A8, c8⟩) V.lines.length (lins V.lines) := by
                  have h1 := own_kept HO8.out fun q hq _ => hb9.block q hq
                  refine own_base (own_kept h1 fun q hq ho => hbut10.block q hq fun e => ?_) (Nat.le_trans hbase HB6.out.size)
                  exact own_own_ne hk9.own h1 (by decide) q e ho
                have HFIN : Hid (RMkEnd w true JS (.returned (.tuple #[.slice A10 2 c10, .bool true])) w10) := by
                  refine ⟨(HBF8.out.trans (hb9.mono HBF8.out.size)).trans (hb10.mono hbase), .inr ⟨rfl, A10, c10, [⟨J, some ⟨wr.heap.size + 1, 0, none⟩, 2⟩, ⟨V, A8, c8⟩], rfl, ?_, ⟨own_base hown10 hbase, fun a ha => ?_⟩⟩⟩
                  · rw [HJS.out, ← hVV]; rfl
                  · rcases List.mem_cons.1 ha with rfl | ha
                    · exact own_base hl1 hbase
                    · rw [List.mem_singleton] at ha
                      subst ha
                      exact hl2
                have hrun2 := hrun
                rw [hz9, ← hW9] at hrun2
                dsimp only at hrun2
                have HR := Lib.hid hrun2
                clear hb9 hz9 hk9 hz6 hown10 hbut10 hb10 hl1 hl2 hrun hrun2 hW9 hVV
                go_wp2_with (at_builtin; refine Lib.wpList_append_run _ rfl _ _ _ _ rfl _ _ rfl rfl _ _ (HR.out _) ?_)
                go_ret2
                exact HFIN.out
              · obtain rfl : ok = false := HNO2.out hE
                have t1 : (E2 != 0) = true := by simpa using hE
                clear hE
                go_wp2_with fail
                go_ret2
                exact RMkEnd.no (HBF8.out.alloc HBF8.out.size _)
            · have hv : okP (per + 1) = false := by unfold okP; rw [decide_eq_false_iff_not]; omega
              rw [hv] at KV
              have HJS : Hid (JS = [J]) := by rw [Hid, HACL.out, if_neg hp9]
              obtain rfl : ok = true := HALL.out (by first | rfl | trivial) fun h => absurd h hp9
              clear hv
              go_wp2_with fail
              rw [HW6.out]
              refine KV.out.mono ?_
              rintro e w7 ⟨rfl, rfl⟩
              go_wp2_with fail
              go_ret2
              have hsz : w.heap.size ≤ wr.heap.size := by have := HB.out.size; have := HB2.out.size; omega
              exact ⟨HBF6.out, .inr ⟨rfl, _, _, [⟨J, some ⟨wr.heap.size + 1, 0, none⟩, 2⟩], rfl, HJS.out.symm, ⟨own_base HONE.out.own hsz, fun a ha => own_base (HONE.out.lines a ha) hsz⟩⟩⟩
        · obtain ⟨wo, hwo⟩ : ∃ wo, wo = wr := ⟨_, rfl⟩
          subst hwo
          have hkb : (t.kind == 1) = false := by simpa using hk1
          obtain ⟨hk2, hal⟩ := (kind_of HCK.out).resolve_left hk1
          obtain ⟨hq1, hq2, _, hq4⟩ := alloc_of hal
          obtain ⟨_, _, _, _, ha⟩ := front_of HCK.out
          have hmk : mkL t per id = [allJ t per id] := by unfold mkL; rw [if_neg hk1]
          rw [hmk] at HOKE
          have hjs : JS = [allJ t per id] := HMK.out.symm.trans hmk
          have hwa : wrap64 (-t.amt) = -t.amt := by unfold wrap64; omega
          obtain ⟨W3, hW3⟩ : ∃ W3, wo.alloc (.cells #[.int .i64 id, .int .i64 t.ent, .int .i64 per, .string ⟨#[]⟩, .slice none 0 0, .bool false] 111) = W3 := ⟨_, rfl⟩
          have hb3 : Below wo.heap.size wo W3 := by rw [← hW3]; exact (Below.refl _ _).alloc (Nat.le_refl _) _
          have hz3 : W3.heap.size = wo.heap.size + 1 := by rw [← hW3]; simp
          have hj3 : W3.heap[wo.heap.size]? = some (.cells #[.int .i64 id, .int .i64 t.ent, .int .i64 per, .string ⟨#[]⟩, .slice none 0 0, .bool false] 111 (0, 0)) := by rw [← hW3]; exact heap_new wo _
          have HB3 : Hid (Below W.heap.size W W3) := HB2.out.trans (hb3.mono HB2.out.size)
          have hin3 := HIN.out.below HB3.out
          have hs := hq4
          unfold Mo.splitOk at hs
          simp only [Bool.and_eq_true, decide_eq_true_eq] at hs
          obtain ⟨⟨⟨s1, s2⟩, s3⟩, s4⟩ := hs
          have ks := Lib.hid (Mo.refSplit_ok t.amt t.wt t.Aw t.wt.length t.cw W3.heap.size W3 hin3.wt (Nat.le_refl _) s1 s3 s2 s4)
          have HL := Lib.hid hq2
          have HW3 := Lib.hid hW3; have HJ3 := Lib.hid hj3; have HBR3 : Hid (Below wo.heap.size wo W3) := hb3
          have HTG : Hid (∀ w1, Below W3.heap.size W3 w1 → Rd w1 W3.heap.size 1 t.At t.tg.length (ints .i64 t.tg)) := fun w1 hb1 => hin3.tg.below hb1
          have hwt7 : t.wt.length ≤ 7 := by omega
          clear hmk hk1 hk2 hal hq1 hq2 hq4 hb3 hj3 hin3 s1 s2 s3 s4 hW3
          go_wp2_with fail
          rw [HW3.out]
          refine ks.out.mono ?_
          rintro e w5 ⟨p, S, rfl, hp, hrow, hT, hb5⟩
          have HP : Hid (∀ k, k < t.wt.length → (partsT t.amt t.wt)[k]? = some (signed (Mo.partOf (absI t.amt) t.wt S k) t.amt)) := fun k hk => partsT_at hT hk
          have hj5 : w5.heap[wo.heap.size]? = some (.cells #[.int .i64 id, .int .i64 t.ent, .int .i64 per, .string ⟨#[]⟩, .slice none 0 0, .bool false] 111 (0, 0)) := (hb5.block _ (by omega)).trans HJ3.out
          have HB5 : Hid (Below wo.heap.size wo w5) := HBR3.out.trans (hb5.mono HBR3.out.size)
          have hpl5 := hrow.lt
          have HROW := Lib.hid hrow
          have HJ5 := Lib.hid hj5
          have hz5 := hb5.size
          have HLT5 : Hid (wo.heap.size < w5.heap.size) := by unfold Hid; omega
          have HPG : Hid (wo.heap.size < p) := by unfold Hid; omega
          have HWO : Hid (w.heap.size < wo.heap.size) := hlt2
          have HINR := Lib.hid (HIN.out.below HB2.out)
          have HTGR : Hid (∀ w1, Below wo.heap.size wo w1 → Rd w1 wo.heap.size 1 t.At t.tg.length (ints .i64 t.tg)) := fun w1 hb1 => HINR.out.tg.below hb1
          have HPL : Hid ((partsT t.amt t.wt).length = t.wt.length) := partsT_len _ _
          have HALL : Hid (allJ t per id = ⟨id, t.ent, per, ⟨#[]⟩, lnsOf t.tg (partsT t.amt t.wt) ++ [⟨t.cre, -t.amt, 0⟩], false⟩) := rfl
          clear hrow hT hb5 ks hj5 x0 x1 x2 x3 x4 x5 x6 x7 x8 x9 x10 x11 HTG
          generalize hf : (fun k => signed (Mo.partOf (absI t.amt) t.wt S k) t.amt) = f at *
          have HP2 : Hid (∀ k, k < t.wt.length → (partsT t.amt t.wt)[k]? = some (f k)) := fun k hk => by rw [← hf]; exact HP.out k hk
          clear HP hf
          generalize partsT t.amt t.wt = PT at *
          go_wp2_with fail
          go_loopw [14] (fun iv wr => ∃ (k m : Nat) (A : Option Addr) (c : Nat), k ≤ t.wt.length ∧ iv = .int .i64 k ∧ m ≤ k ∧ wr.heap[wo.heap.size]? = some (.cells #[.int .i64 id, .int .i64 t.ent, .int .i64 per, .string ⟨#[]⟩, .slice A m c, .bool false] 111 (0, 0)) ∧ wr.ownsRow w5.heap.size 113 3 (.slice A m c) m (lins (lnsOf (t.tg.take k) (PT.take k))) ∧ NRow 3 .i64 wr p t.wt.length f ∧ Below wo.heap.size wo wr ∧ w5.heap.size ≤ wr.heap.size) (fun iv _ => t.wt.length - (intOf iv).toNat)
          case atStart => exact ⟨0, 0, none, 0, Nat.zero_le _, rfl, Nat.le_refl _, HJ5.out, World.ownsRow_nil _ _ _ _, HROW.out, HB5.out, Nat.le_refl _⟩
          case round =>
            obtain ⟨k, q, A, c, hk, rfl, hq, hj, hown, hrw, hbel, hzq⟩ := hrel
            obtain ⟨⟨x0, x1, x2, x3, x4, x5⟩, x6, x7, x8, x9, x10, x11⟩ := rtpl_cells (HTX.out wr (HB2.out.trans (hbel.mono HB2.out.size)))
            have d4 := cell_of hj 4
            simp only [List.getElem?_toArray, List.getElem?_cons_zero, List.getElem?_cons_succ] at d4
            by_cases hlt : k < t.wt.length
            · have hkn : (k : Int) < (t.wt.length : Int) := by omega
              have hkt : k < t.tg.length := by rw [← HL.out]; exact hlt
              have hktI : (k : Int) < (t.tg.length : Int) := by omega
              obtain ⟨x, htx⟩ : ∃ x, t.tg[k]? = some x := ⟨_, List.getElem?_eq_getElem hkt⟩
              obtain ⟨ad, hAt, hadb, hct⟩ := (HTGR.out wr hbel).int hkt
              rw [htx] at hct
              simp only [Option.getD_some] at hct
              rw [hAt] at x9
              have hpc := hrw.cell hlt
              have HST := Lib.hid (lnsOf_step htx (HP2.out k hlt))
              have HJ := Lib.hid hj; have HOW := Lib.hid hown; have HRW := Lib.hid hrw; have HBL := Lib.hid hbel
              by_cases h0 : f k = 0
              · have h0B : (f k != 0) = false := by simpa using h0
                have HS2 : Hid (lnsOf (t.tg.take (k + 1)) (PT.take (k + 1)) = lnsOf (t.tg.take k) (PT.take k)) := by rw [Hid, HST.out, if_pos h0, List.append_nil]
                clear h0 x0 x1 x2 x3 x4 x5 x6 x7 x8 x9 x10 x11 htx hAt hj hown hrw hbel d4
                go_wp2_with fail
                exact ⟨⟨k + 1, q, A, c, by omega, by go_num, by omega, HJ.out, by rw [HS2.out]; exact HOW.out, HRW.out, HBL.out, hzq⟩, by simp [intOf]; omega⟩
              · have h0B : (f k != 0) = true := by simpa using h0
                have HS2 : Hid (lnsOf (t.tg.take (k + 1)) (PT.take (k + 1)) = lnsOf (t.tg.take k) (PT.take k) ++ [⟨x, f k, 0⟩]) := by rw [Hid, HST.out, if_neg h0]
                have hownd : World.ownsRow wr.drew w5.heap.size 113 3 (.slice A q c) q (lins (lnsOf (t.tg.take k) (PT.take k))) := hown
                obtain ⟨v', w7, hrun, hown7, _, hb7⟩ := append_lin ⟨x, f k, 0⟩ hownd hzq (by omega)
                obtain ⟨A7, c7, rfl⟩ := own_form hown7
                have hb7' : Below w5.heap.size wr w7 := ((Below.refl _ wr).drew).trans hb7
                have hj7 := (hb7'.block wo.heap.size (by have := HLT5.out; omega)).trans hj
                have e4 := cell_of hj7 4
                have f4 := warm_of hj7 4
                simp only [List.getElem?_toArray, List.getElem?_cons_zero, List.getElem?_cons_succ] at e4
                have HEND : Hid ((w7.setCell ⟨wo.heap.size, 4, none⟩ (.slice A7 (q + 1) c7)).heap[wo.heap.size]? = some (.cells #[.int .i64 id, .int .i64 t.ent, .int .i64 per, .string ⟨#[]⟩, .slice A7 (q + 1) c7, .bool false] 111 (0, 0)) ∧ (w7.setCell ⟨wo.heap.size, 4, none⟩ (.slice A7 (q + 1) c7)).ownsRow w5.heap.size 113 3 (.slice A7 (q + 1) c7) (q + 1) (lins (lnsOf (t.tg.take (k + 1)) (PT.take (k + 1)))) ∧ NRow 3 .i64 (w7.setCell ⟨wo.heap.size, 4, none⟩ (.slice A7 (q + 1) c7)) p t.wt.length f ∧ Below wo.heap.size wo (w7.setCell ⟨wo.heap.size, 4, none⟩ (.slice A7 (q + 1) c7)) ∧ w5.heap.size ≤ (w7.setCell ⟨wo.heap.size, 4, none⟩ (.slice A7 (q + 1) c7)).heap.size) := by
                  refine ⟨set_here hj7, ?_, ?_, ?_, ?_⟩
                  · rw [HS2.out]
                    exact own_kept hown7 fun y _ hy => Below.heap_setCell _ _ _ _ (by have h1 := own_ge hown7 y hy; have h2 := HLT5.out; show y ≠ wo.heap.size; omega)
                  · exact (hrw.kept (hb7'.block p hpl5)).kept (Below.heap_setCell _ _ _ _ (by have h2 := HPG.out; show p ≠ wo.heap.size; omega))
                  · exact (hbel.trans (hb7'.mono (by have := HLT5.out; omega))).setCell (Nat.le_refl _) _
                  · have := hb7'.size
                    simp
                    omega
                have HRUN : Hid (∀ ty, (Builtin.append_ #[109, 109] ty #[.slice A q c, .slice (some ⟨wr.heap.size, 0, none⟩) 1 1]).run Tryz.prog (wr.drew.alloc (.cells #[.int .i64 x, .int .i64 (f k), .int .i64 0] 113)) = .ok (.slice A7 (q + 1) c7) w7) := hrun
                have l1 : wo.heap.size < wr.heap.size := by have := HLT5.out; omega
                have l2 : w.heap.size < wr.heap.size := by have := HWO.out; omega
                have l3 : ad.block < wr.heap.size := by omega
                have l4 : p < wr.heap.size := by omega
                clear h0 x0 x1 x2 x3 x4 x5 x6 x7 x8 x10 x11 htx hAt hj hown hrw hbel hownd hrun hown7 hb7 hb7' hj7
                go_wp2_with fail
                go_region_law (refine step_append_run rfl (.tmp 78) (.tmp 89) 109 rfl (.slice A q c) (.slice (some ⟨wr.heap.size, 0, none⟩) 1 1) _ w7 (by simp [Act.eval, Act.put]) (by simp [Act.eval, Act.put]) (HRUN.out _) ?_)
                all_goals
                  go_wp2_with fail
                  obtain ⟨r1, r2, r3, r4, r5⟩ := HEND.out
                  exact ⟨⟨k + 1, q + 1, A7, c7, by omega, by go_num, by omega, r1, r2, r3, r4, r5⟩, by simp [intOf]; omega⟩
            · obtain rfl : k = t.wt.length := by omega
              have htk1 : t.tg.take t.wt.length = t.tg := List.take_of_length_le (by have := HL.out; omega)
              have htk2 : PT.take t.wt.length = PT := List.take_of_length_le (by have := HPL.out; omega)
              rw [htk1, htk2] at hown
              obtain ⟨v', w7, hrun, hown7, _, hb7⟩ := append_lin ⟨t.cre, -t.amt, 0⟩ hown hzq (by omega)
              obtain ⟨A7, c7, rfl⟩ := own_form hown7
              have hj7 := (hb7.block wo.heap.size HLT5.out).trans hj
              obtain ⟨J, hJ⟩ : ∃ J, allJ t per id = J := ⟨_, rfl⟩
              have hJl : J.lines = lnsOf t.tg PT ++ [⟨t.cre, -t.amt, 0⟩] := by rw [← hJ, HALL.out]
              have hjf : J.id = id ∧ J.ent = t.ent ∧ J.per = per ∧ J.ref = ⟨#[]⟩ ∧ J.void = false := by rw [← hJ, HALL.out]; exact ⟨rfl, rfl, rfl, rfl, rfl⟩
              obtain ⟨f1, f2, f3, f4', f5⟩ := hjf
              rw [← hJl] at hown7
              have hjn : J.lines.length = q + 1 := by have := hown7.1; rw [lins_len] at this; omega
              obtain ⟨W8, hW8⟩ : ∃ W8, w7.setCell ⟨wo.heap.size, 4, none⟩ (.slice A7 (q + 1) c7) = W8 := ⟨_, rfl⟩
              have hj8 : W8.heap[wo.heap.size]? = some (.cells #[.int .i64 id, .int .i64 t.ent, .int .i64 per, .string ⟨#[]⟩, .slice A7 (q + 1) c7, .bool false] 111 (0, 0)) := by rw [← hW8]; exact set_here hj7
              have ho8 : W8.ownsRow w5.heap.size 113 3 (.slice A7 (q + 1) c7) (q + 1) (lins J.lines) := by
                rw [← hW8]
                exact own_kept hown7 fun y _ hy => Below.heap_setCell _ _ _ _ (by have h1 := own_ge hown7 y hy; have h2 := HLT5.out; show y ≠ wo.heap.size; omega)
              have hb8 : Below wo.heap.size wo W8 := by
                rw [← hW8]
                exact (hbel.trans (hb7.mono (by have := HLT5.out; omega))).setCell (Nat.le_refl _) _
              have kc := refCheck_any J A7 (q + 1) c7 _ W8 (rd_of_own ho8) (Nat.le_refl _)
              have hx8 := HTX.out W8 (HB2.out.trans (hb8.mono HB2.out.size))
              unfold Jrn.val at kc
              rw [f1, f2, f3, f4', f5] at kc
              rw [hJ] at HOKE hjs
              have KC := Lib.hid kc; have HJ8 := Lib.hid hj8; have HO8 := Lib.hid ho8; have HB8 := Lib.hid hb8; have HW8 := Lib.hid hW8; have HX8 := Lib.hid hx8
              have HOE := Lib.hid HOKE; have HJS := Lib.hid hjs
              have e0 := cell_of hj7 0
              have e1 := cell_of hj7 1
              have e2 := cell_of hj7 2
              have e3 := cell_of hj7 3
              have e4 := cell_of hj7 4
              have e5 := cell_of hj7 5
              have f4 := warm_of hj7 4
              simp only [List.getElem?_toArray, List.getElem?_cons_zero, List.getElem?_cons_succ] at e0 e1 e2 e3 e4 e5
              have l1 : wo.heap.size < wr.heap.size := by have := HLT5.out; omega
              have l2 : w.heap.size < wr.heap.size := by have := HWO.out; omega
              clear x0 x1 x2 x3 x4 x5 x7 x9 x10 x11 htk1 htk2 hj hown hrw hown7 hb7 hj7 hJ hJl hW8 hj8 ho8 hb8 kc hx8 HOKE hjs hbel
              go_wp2_with (at_builtin; refine wpList_append_run rfl _ _ _ rfl _ _ _ _ rfl rfl (hrun _) ?_)
              rw [HW8.out]
              refine KC.out.mono ?_
              rintro e w9 ⟨rfl, hb9⟩
              have hj9 := (hb9.block _ (lt_of_blk HJ8.out)).trans HJ8.out
              have hx9 := HX8.out.below hb9
              obtain ⟨⟨y0, y1, y2, y3, y4, y5⟩, y6, y7, y8, y9, y10, y11⟩ := rtpl_cells hx9
              have g0 := cell_of hj9 0
              have g1 := cell_of hj9 1
              have g2 := cell_of hj9 2
              have g3 := cell_of hj9 3
              have g4 := cell_of hj9 4
              have g5 := cell_of hj9 5
              simp only [List.getElem?_toArray, List.getElem?_cons_zero, List.getElem?_cons_succ] at g0 g1 g2 g3 g4 g5
              have l3 : w.heap.size < w9.heap.size := lt_of_blk hx9
              have HO9 := Lib.hid (own_kept HO8.out fun y hy _ => hb9.block y hy)
              have HB9 : Hid (Below wo.heap.size wo w9) := HB8.out.trans (hb9.mono HB8.out.size)
              have HBF9 : Hid (Below w.heap.size w w9) := HB.out.trans ((HB2.out.trans (HB9.out.mono HB2.out.size)).mono HB.out.size)
              clear hb9 hj9 hx9 KC e0 e1 e2 e3 e4 e5 f4 y1 y2 y3 y4 y5 y6 y7 y8 y9 y10 y11 x6 x8 hrun
              obtain ⟨E, hE⟩ : ∃ E, checkE J = E := ⟨_, rfl⟩
              have hoe := HOE.out
              simp only [List.any_cons, List.any_nil, Bool.or_false] at hoe
              rw [hE] at hoe ⊢
              by_cases hE0 : E = 0
              · obtain rfl : ok = true := by rw [hoe, hE0]; rfl
                subst hE0
                have hlv : ∀ a : JR, a = ⟨J, A7, c7⟩ → a.cells = [.int .i64 id, .int .i64 t.ent, .int .i64 per, .string ⟨#[]⟩, .slice A7 (q + 1) c7, .bool false] := fun a e => by
                  subst e
                  unfold JR.cells
                  dsimp only
                  rw [f1, f2, f3, f4', f5, hjn]
                have hone := own_one (w := w9) (B := wo.heap.size) (a := ⟨J, A7, c7⟩) (by
                  unfold JR.lv
                  dsimp only
                  rw [hjn]
                  exact own_base HO9.out (Nat.le_of_lt HLT5.out)) HB9.out.size
                rw [hlv _ rfl] at hone
                have HONE := Lib.hid hone
                have HBF10 : Hid (Below w.heap.size w (w9.alloc (.cells #[.int .i64 id, .int .i64 t.ent, .int .i64 per, .string ⟨#[]⟩, .slice A7 (q + 1) c7, .bool false] 111))) := HBF9.out.alloc HBF9.out.size _
                have hbase : w.heap.size ≤ wo.heap.size := Nat.le_of_lt HWO.out
                clear hlv hone hoe hE
                go_wp2_with fail
                go_ret2
                exact ⟨HBF10.out, .inr ⟨rfl, _, _, [⟨J, A7, c7⟩], rfl, HJS.out.symm, ⟨own_base HONE.out.own hbase, fun a ha => own_base (HONE.out.lines a ha) hbase⟩⟩⟩
              · have t1 : (E != 0) = true := by simpa using hE0
                obtain rfl : ok = false := by rw [hoe, t1]; rfl
                clear hE0 hoe hE
                go_wp2_with fail
                go_ret2
                exact RMkEnd.no HBF9.out
end Go.Proofs.YtjlokkjbdgcooaaGreat

