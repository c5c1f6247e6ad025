/-
  Several texts, one behind the other: what each holds stands ahead of it.
-/
import Derived.Test.YtmgncoialppmpaaGreatMany4

/-
  Contract of entry.Check.
-/
namespace Go.Proofs.YtmgncoialppmpaaGreat
open Go.RowKit

/-- A journal's block, read later. -/
theorem box6 {w W1 w1 : World} {a0 a1 a2 a3 a4 a5 : Value} {T : TypeId} (hW : w.alloc (.cells #[a0, a1, a2, a3, a4, a5] T) = W1) (hb : Below W1.heap.size W1 w1) :
    w1.cell? ⟨w.heap.size, 0, none⟩ = some a0 ∧ w1.cell? ⟨w.heap.size, 1, none⟩ = some a1 ∧ w1.cell? ⟨w.heap.size, 2, none⟩ = some a2 ∧ w1.cell? ⟨w.heap.size, 3, none⟩ = some a3 ∧ w1.cell? ⟨w.heap.size, 4, none⟩ = some a4 ∧ w1.cell? ⟨w.heap.size, 5, none⟩ = some a5 := by
  subst hW
  have hz : ∀ i, (⟨w.heap.size, i, none⟩ : Addr).block < (w.alloc (.cells #[a0, a1, a2, a3, a4, a5] T)).heap.size := fun i => by simp
  exact ⟨(hb.cell (hz 0)).trans (box_cell 0), (hb.cell (hz 1)).trans (box_cell 1), (hb.cell (hz 2)).trans (box_cell 2), (hb.cell (hz 3)).trans (box_cell 3), (hb.cell (hz 4)).trans (box_cell 4), (hb.cell (hz 5)).trans (box_cell 5)⟩
theorem fits_two (p : Int) (W : World) (o : Obj) (T : TypeId) : Calls Tryz.prog 166 #[.slice (some ⟨W.heap.size + 1, 0, none⟩) 1 1] ((W.alloc o).alloc (.cells #[.int .i64 p] T)) fun e w' => e = .returned (.bool (fits1 p)) ∧ (W.alloc o).alloc (.cells #[.int .i64 p] T) = w' := by
  have := fits_one p (W.alloc o) (T := T)
  rw [show (W.alloc o).heap.size = W.heap.size + 1 by simp] at this
  exact this
theorem checkE_front {j : Jrn} (h : frontOk j = false) : checkE j = 1 := by unfold checkE; rw [h]; rfl
theorem checkE_lines {j : Jrn} (h : linesOk j = false) : checkE j = 1 := by unfold checkE; rw [h, Bool.and_false]; rfl
theorem checkE_rest {j : Jrn} (h : frontOk j = true) (h2 : linesOk j = true) : checkE j = if fitsL j.lines = true then if sumA j.lines = 0 then 0 else 3 else 2 := by unfold checkE; rw [h, h2]; rfl
theorem linesOk_len {j : Jrn} (h : linesOk j = true) : 2 ≤ j.lines.length ∧ j.lines.length ≤ 8 := by
  unfold linesOk at h
  rw [Bool.and_eq_true] at h
  have := inB_iff.1 h.1
  omega

set_option maxRecDepth 100000 in
set_option maxHeartbeats 2000000 in
theorem check_any (j : Jrn) (A : Option Addr) (n c B : Nat) (w : World) (h : Rd w B 3 A n (lins j.lines)) (hB : B ≤ w.heap.size) (hn : n ≤ maxLen) (hs : j.ref.size ≤ maxLen) :
    Calls Tryz.prog 91 #[j.val A n c] w fun e w' => e = .returned (.int .i64 (checkE j)) ∧ Below w.heap.size w w' := by
  have HL := Lib.hid h.lins_len
  obtain ⟨W1, hW⟩ : ∃ W1, w.alloc (.cells #[.int .i64 j.id, .int .i64 j.ent, .int .i64 j.per, .string j.ref, .slice A n c, .bool j.void] 29) = W1 := ⟨_, rfl⟩
  have hb1 : Below w.heap.size w W1 := by rw [← hW]; exact (Below.refl _ _).alloc (Nat.le_refl _) _
  have hz1 : w.heap.size < W1.heap.size := by rw [← hW]; simp
  have HW := Lib.hid hW
  have kf := Lib.hid (frontMayBe_any j A n c W1 hs)
  have kl : Hid (∀ w1, Below W1.heap.size W1 w1 → Calls Tryz.prog 172 #[j.val A n c] w1 fun e w' => e = .returned (.bool (linesOk j)) ∧ Below w1.heap.size w1 w') := fun w1 hb => linesMayBe_any j A n c B w1 (h.far (hb1.trans (hb.mono hb1.size)) hB) (by have := hb.size; omega) hn
  have HR : Hid (∀ w1, Below W1.heap.size W1 w1 → Rd w1 B 3 A n (lins j.lines)) := fun w1 hb => h.far (hb1.trans (hb.mono hb1.size)) hB
  have HB1 := Lib.hid hb1
  have HZ := Lib.hid hz1
  have HH : Hid (frontOk j = false ∨ frontOk j = true ∧ (linesOk j = false ∨ linesOk j = true)) := by
    unfold Hid
    cases frontOk j <;> cases linesOk j <;> simp
  have e0 : Hid (frontOk j = false → checkE j = 1) := checkE_front
  have e1 : Hid (linesOk j = false → checkE j = 1) := checkE_lines
  have e2 : Hid (frontOk j = true → linesOk j = true → checkE j = if fitsL j.lines = true then if sumA j.lines = 0 then 0 else 3 else 2) := checkE_rest
  have e3 : Hid (linesOk j = true → 2 ≤ j.lines.length ∧ j.lines.length ≤ 8) := linesOk_len
  clear hb1 hz1 h hs hW
  unfold Jrn.val at kf kl ⊢
  obtain ⟨id, ent, per, ref, L, void⟩ := j
  dsimp only at *
  generalize frontOk ⟨id, ent, per, ref, L, void⟩ = F at *
  generalize linesOk ⟨id, ent, per, ref, L, void⟩ = G at *
  generalize checkE ⟨id, ent, per, ref, L, void⟩ = E at *
  unfold maxLen at hn
  rcases HH.out with rfl | ⟨rfl, rfl | rfl⟩
  · obtain rfl := e0.out rfl
    go_enter Tryz.func91, Tryz.ntmps91
    go_wp2_with fail
    rw [HW.out]
    refine kf.out.mono ?_
    rintro e w1 ⟨rfl, hb⟩
    go_wp2
    go_ret
    exact ⟨rfl, HB1.out.trans (hb.mono HB1.out.size)⟩
  · obtain rfl := e1.out rfl
    go_enter Tryz.func91, Tryz.ntmps91
    go_wp2_with fail
    rw [HW.out]
    refine kf.out.mono ?_
    rintro e w1 ⟨rfl, hb⟩
    obtain ⟨b0, b1, b2, b3, b4, b5⟩ := box6 HW.out hb
    have kl1 := Lib.hid (kl.out w1 hb)
    have HB2 := Lib.hid hb
    clear hb
    go_wp2_with fail
    refine kl1.out.mono ?_
    rintro e w2 ⟨rfl, hb2⟩
    have HB3 := Lib.hid hb2
    clear hb2
    go_wp2
    go_ret
    exact ⟨rfl, HB1.out.trans ((HB2.out.trans (HB3.out.mono HB2.out.size)).mono HB1.out.size)⟩
  · have hE := e2.out rfl rfl
    obtain ⟨hn2, hn8⟩ := e3.out rfl
    have HE := Lib.hid hE
    rw [HL.out] at hn2 hn8
    clear hE
    go_enter Tryz.func91, Tryz.ntmps91
    go_wp2_with fail
    rw [HW.out]
    refine kf.out.mono ?_
    rintro e w1 ⟨rfl, hb⟩
    obtain ⟨b0, b1, b2, b3, b4, b5⟩ := box6 HW.out hb
    have kl1 := Lib.hid (kl.out w1 hb)
    have HB2 := Lib.hid hb
    clear hb
    go_wp2_with fail
    refine kl1.out.mono ?_
    rintro e w2 ⟨rfl, hb2⟩
    have HB3 : Hid (Below W1.heap.size W1 w2) := HB2.out.trans (hb2.mono HB2.out.size)
    clear hb2 b0 b1 b2 b3 b4 b5 HB2 kl1 kf kl
    obtain ⟨_, _, _, _, b4, _⟩ := box6 HW.out HB3.out
    go_wp2_with fail
    clear b4
    go_loopw [17, 3, 5] (fun iv sv _ wr => ∃ k : Nat, k ≤ n ∧ iv = .int .i64 k ∧ sv = .int .i64 (sumA (L.take k)) ∧ Hid (fitsL (L.take k) = true) ∧ Below w2.heap.size w2 wr) (fun iv _ _ _ => n - (intOf iv).toNat)
    case atStart => exact ⟨0, Nat.zero_le _, rfl, rfl, rfl, Below.refl _ _⟩
    case round =>
      obtain ⟨k, hk, rfl, rfl, hf, hbel⟩ := hrel
      have hzr := hbel.size
      have HBr : Hid (Below w.heap.size w wr) := HB1.out.trans ((HB3.out.trans (hbel.mono HB3.out.size)).mono HB1.out.size)
      by_cases hlt : k < n
      · obtain ⟨ad, x, rfl, hbk, hx, p1, p2, p3⟩ := (HR.out wr (HB3.out.trans (hbel.mono HB3.out.size))).lin hlt
        have hkn : (k : Int) < (n : Int) := by omega
        have p2' := cell_behind p2 (by omega)
        have p3' := cell_behind p3 (by omega)
        have HX := Lib.hid hx
        have hbd := sumA_bound k (by have := HL.out; omega) hf.out
        have HST := Lib.hid (sumA_step hx)
        have HBL : Hid (∀ o o2, Below w2.heap.size w2 ((wr.alloc o).alloc o2)) := fun o o2 => (hbel.alloc hzr o).alloc (by simp; omega) o2
        have HBW : Hid (∀ o o2, Below w.heap.size w ((wr.alloc o).alloc o2)) := fun o o2 => (HBr.out.alloc HBr.out.size o).alloc (by have := HBr.out.size; simp; omega) o2
        clear hx p2 p3 hbel
        obtain ⟨x1, x2, x3⟩ := x
        dsimp only at HST p2'
        have kx := Lib.hid (fits_two x2 wr)
        generalize sumA (L.take k) = S at *
        cases c1 : fits1 x2
        · go_wp2_with (go_at_call 166; refine (kx.out _ _).mono ?_; rintro e w' ⟨rfl, rfl⟩)
          go_ret
          exact ⟨ret_int (by rw [HE.out, if_neg (by rw [fitsL_no HX.out c1]; decide)]), HBW.out _ _⟩
        · have hfit := fits1_iff.1 c1
          go_wp2_with (go_at_call 166; refine (kx.out _ _).mono ?_; rintro e w' ⟨rfl, rfl⟩)
          refine ⟨⟨k + 1, by omega, by go_num, ?_, fitsL_step hf.out HX.out c1, HBL.out _ _⟩, by simp [intOf]; omega⟩
          rw [HST.out]
      · obtain rfl : k = n := by omega
        have hfe := fitsL_end hf.out (Nat.le_of_eq HL.out)
        have hE := HE.out
        rw [hfe, if_pos rfl] at hE
        rw [List.take_of_length_le (Nat.le_of_eq HL.out)]
        have HE2 := Lib.hid hE
        clear hE hf hfe
        generalize sumA L = S at *
        cases c1 : (S != 0)
        · go_wp2
          go_ret
          exact ⟨ret_int (by rw [HE2.out, if_pos (by simpa using c1)]), HBr.out⟩
        · go_wp2
          go_ret
          exact ⟨ret_int (by rw [HE2.out, if_neg (by simpa using c1)]), HBr.out⟩
end Go.Proofs.YtmgncoialppmpaaGreat

/-
  Contracts of slices.Equal over lines, of entry.Same and of the reference's Same.
-/
namespace Go.Proofs.YtmgncoialppmpaaGreat
open Go.RowKit

theorem str_inj {a b : ByteArray} : a.toList = b.toList ↔ a = b := by
  rw [ByteArray.toList_eq, ByteArray.toList_eq]
  constructor
  · intro h
    exact ByteArray.ext (Array.toList_inj.1 h)
  · intro h; rw [h]
theorem str_eq {a b : ByteArray} : (a.toList == b.toList) = true ↔ a = b := by rw [beq_iff_eq, str_inj]
def sameJ (a b : Jrn) : Bool := a.id == b.id && a.ent == b.ent && a.per == b.per && (a.ref.toList == b.ref.toList) && a.void == b.void && a.lines == b.lines
theorem sameJ_iff {a b : Jrn} : sameJ a b = true ↔ a = b := by
  obtain ⟨a1, a2, a3, a4, a5, a6⟩ := a
  obtain ⟨b1, b2, b3, b4, b5, b6⟩ := b
  unfold sameJ
  simp only [Bool.and_eq_true, beq_iff_eq, str_inj, Jrn.mk.injEq]
  constructor
  · rintro ⟨⟨⟨⟨⟨rfl, rfl⟩, rfl⟩, rfl⟩, rfl⟩, rfl⟩; exact ⟨rfl, rfl, rfl, rfl, rfl, rfl⟩
  · rintro ⟨rfl, rfl, rfl, rfl, rfl, rfl⟩; exact ⟨⟨⟨⟨⟨rfl, rfl⟩, rfl⟩, rfl⟩, rfl⟩, rfl⟩
theorem sameJ_self (a : Jrn) : sameJ a a = true := sameJ_iff.2 rfl

set_option maxRecDepth 100000 in
set_option maxHeartbeats 400000 in
theorem equalLines_any (l m : List Lin) (A1 A2 : Option Addr) (n1 n2 c1 c2 B1 B2 : Nat) (w : World) (h1 : Rd w B1 3 A1 n1 (lins l)) (h2 : Rd w B2 3 A2 n2 (lins m)) (hn1 : n1 ≤ maxLen) (_hn2 : n2 ≤ maxLen) :
    Calls Tryz.prog 220 #[.slice A1 n1 c1, .slice A2 n2 c2] w fun e w' => e = .returned (.bool (l == m)) ∧ Drew w w' := by
  unfold maxLen at *
  have L1 := Lib.hid h1.lins_len
  have L2 := Lib.hid h2.lins_len
  by_cases hne : n1 = n2
  · subst hne
    have t1 : ((n1 : Int) != (n1 : Int)) = false := by simp
    go_enter Tryz.func220, Tryz.ntmps220
    go_wp2_with fail
    go_loopw [13, 5] (fun i _ wr => ∃ k : Nat, k ≤ n1 ∧ i = .int .i64 k ∧ Hid (l.take k = m.take k) ∧ Drew w wr) (fun i _ _ => n1 - (intOf i).toNat)
    case atStart => exact ⟨0, Nat.zero_le _, rfl, by simp [Hid], Drew.refl _⟩
    case round =>
      obtain ⟨k, hk, rfl, hs, q, rfl⟩ := hrel
      by_cases hlt : k < n1
      · obtain ⟨a1, x, rfl, hb1, hx, p1, p2, p3⟩ := h1.lin hlt
        obtain ⟨a2, y, rfl, hb2, hy, r1, r2, r3⟩ := h2.lin hlt
        have hkn : (k : Int) < (n1 : Int) := by omega
        have p2' := cell_behind p2 (by omega)
        have p3' := cell_behind p3 (by omega)
        have r2' := cell_behind r2 (by omega)
        have r3' := cell_behind r3 (by omega)
        have HX : Hid (x = y → l.take (k + 1) = m.take (k + 1)) := fun h => lin_step (by have := L1.out; have := L2.out; omega) hs.out (by rw [hx, hy, h])
        have HY : Hid (x ≠ y → (l == m) = false) := by
          intro h
          rw [beq_eq_false_iff_ne]
          intro e
          rw [e, hy] at hx
          exact h (by injection hx with hx; exact hx.symm)
        clear hx hy p2 p3 r2 r3
        obtain ⟨x1, x2, x3⟩ := x
        obtain ⟨y1, y2, y3⟩ := y
        by_cases e1 : x1 = y1
        · subst e1
          by_cases e2 : x2 = y2
          · subst e2
            by_cases e3 : x3 = y3
            · subst e3
              go_wp2_with fail
              go_big_quiet (fail)
              go_wp2
              exact ⟨⟨k + 1, by omega, by go_num, HX.out (by first | rfl | trivial), Drew.add _ _⟩, by simp [intOf]; omega⟩
            · skip
              go_wp2_with fail
              go_big_quiet (fail)
              go_wp2
              go_ret
              exact ⟨ret_bool (HY.out (by simp [e3])).symm, ⟨_, World.drewN_drewN _ _ _⟩⟩
          · skip
            go_wp2_with fail
            go_big_quiet (fail)
            go_wp2
            go_ret
            exact ⟨ret_bool (HY.out (by simp [e2])).symm, ⟨_, World.drewN_drewN _ _ _⟩⟩
        · skip
          go_wp2_with fail
          go_big_quiet (fail)
          go_wp2
          go_ret
          exact ⟨ret_bool (HY.out (by simp [e1])).symm, ⟨_, World.drewN_drewN _ _ _⟩⟩
      · go_wp2
        go_ret
        refine ⟨ret_bool ?_, _, rfl⟩
        have := hs.out
        rw [List.take_of_length_le (by have := L1.out; omega), List.take_of_length_le (by have := L2.out; omega)] at this
        rw [this]; simp
  · have t1 : ((n1 : Int) != (n2 : Int)) = true := by rw [bne_iff_ne]; omega
    have HN := Lib.hid hne
    clear hne
    go_enter Tryz.func220, Tryz.ntmps220
    go_wp2
    go_ret
    refine ⟨ret_bool ?_, Drew.refl _⟩
    symm
    rw [beq_eq_false_iff_ne]
    intro e
    have := L1.out; have := L2.out
    rw [e] at *
    have := HN.out; omega

set_option maxRecDepth 100000 in
set_option maxHeartbeats 2000000 in
theorem same_any (a b : Jrn) (A1 A2 : Option Addr) (n1 n2 c1 c2 B1 B2 : Nat) (w : World) (h1 : Rd w B1 3 A1 n1 (lins a.lines)) (h2 : Rd w B2 3 A2 n2 (lins b.lines)) (hB1 : B1 ≤ w.heap.size) (hB2 : B2 ≤ w.heap.size) (hn1 : n1 ≤ maxLen) (hn2 : n2 ≤ maxLen) :
    Calls Tryz.prog 170 #[a.val A1 n1 c1, b.val A2 n2 c2] w fun e w' => e = .returned (.bool (sameJ a b)) ∧ Below w.heap.size w w' := by
  obtain ⟨a1, a2, a3, a4, a5, a6⟩ := a
  obtain ⟨b1, b2, b3, b4, b5, b6⟩ := b
  unfold Jrn.val sameJ
  dsimp only at *
  have HB : Hid (∀ o1 o2, Below w.heap.size w ((w.alloc o1).alloc o2)) := fun o1 o2 => ((Below.refl _ _).alloc (Nat.le_refl _) o1).alloc (by simp) o2
  have ke : Hid (∀ o1 o2, Calls Tryz.prog 220 #[.slice A1 n1 c1, .slice A2 n2 c2] ((w.alloc o1).alloc o2) fun e w' => e = .returned (.bool (a5 == b5)) ∧ Drew ((w.alloc o1).alloc o2) w') := fun o1 o2 => equalLines_any a5 b5 A1 A2 n1 n2 c1 c2 B1 B2 _ (h1.far (HB.out o1 o2) hB1) (h2.far (HB.out o1 o2) hB2) hn1 hn2
  clear h1 h2
  cases t1 : (a1 == b1)
  · go_enter Tryz.func170, Tryz.ntmps170
    go_wp2_with fail
    go_ret
    exact ⟨rfl, HB.out _ _⟩
  cases t2 : (a2 == b2)
  · go_enter Tryz.func170, Tryz.ntmps170
    go_wp2_with fail
    go_ret
    exact ⟨rfl, HB.out _ _⟩
  cases t3 : (a3 == b3)
  · go_enter Tryz.func170, Tryz.ntmps170
    go_wp2_with fail
    go_ret
    exact ⟨rfl, HB.out _ _⟩
  cases t4 : (a4.toList == b4.toList)
  · go_enter Tryz.func170, Tryz.ntmps170
    go_wp2_with fail
    go_ret
    exact ⟨rfl, HB.out _ _⟩
  cases t5 : (a6 == b6)
  · go_enter Tryz.func170, Tryz.ntmps170
    go_wp2_with fail
    go_ret
    exact ⟨rfl, HB.out _ _⟩
  · simp only [Bool.true_and]
    generalize (a5 == b5) = z at *
    go_enter Tryz.func170, Tryz.ntmps170
    go_wp2_with fail
    refine (ke.out _ _).mono ?_
    rintro e w1 ⟨rfl, hd⟩
    have HD := Lib.hid hd
    clear hd
    go_wp2_with fail
    go_ret
    exact ⟨rfl, (HB.out _ _).trans HD.out.below⟩

set_option maxRecDepth 100000 in
set_option maxHeartbeats 2000000 in
theorem refSame_any (a b : Jrn) (A1 A2 : Option Addr) (n1 n2 c1 c2 B1 B2 : Nat) (w : World) (h1 : Rd w B1 3 A1 n1 (lins a.lines)) (h2 : Rd w B2 3 A2 n2 (lins b.lines)) (hB1 : B1 ≤ w.heap.size) (hB2 : B2 ≤ w.heap.size) (hn1 : n1 ≤ maxLen) (hn2 : n2 ≤ maxLen) :
    Calls Tryz.prog 21 #[a.val A1 n1 c1, b.val A2 n2 c2] w fun e w' => e = .returned (.bool (sameJ a b)) ∧ Below w.heap.size w w' := by
  obtain ⟨a1, a2, a3, a4, a5, a6⟩ := a
  obtain ⟨b1, b2, b3, b4, b5, b6⟩ := b
  unfold Jrn.val sameJ
  unfold maxLen at hn1 hn2
  dsimp only at *
  have HB : Hid (∀ o1 o2, Below w.heap.size w ((w.alloc o1).alloc o2)) := fun o1 o2 => ((Below.refl _ _).alloc (Nat.le_refl _) o1).alloc (by simp) o2
  have L1 := Lib.hid h1.lins_len
  have L2 := Lib.hid h2.lins_len
  cases t1 : (a1 == b1)
  · have u1 : (a1 != b1) = true := by simp [bne, t1]
    clear t1
    go_enter Tryz.func21, Tryz.ntmps21
    go_wp2_with fail
    go_ret
    exact ⟨rfl, HB.out _ _⟩
  have u1 : (a1 != b1) = false := by simp [bne, t1]
  clear t1
  cases t2 : (a2 == b2)
  · have u2 : (a2 != b2) = true := by simp [bne, t2]
    clear t2
    go_enter Tryz.func21, Tryz.ntmps21
    go_wp2_with fail
    go_ret
    exact ⟨rfl, HB.out _ _⟩
  have u2 : (a2 != b2) = false := by simp [bne, t2]
  clear t2
  cases t3 : (a3 == b3)
  · have u3 : (a3 != b3) = true := by simp [bne, t3]
    clear t3
    go_enter Tryz.func21, Tryz.ntmps21
    go_wp2_with fail
    go_ret
    exact ⟨rfl, HB.out _ _⟩
  have u3 : (a3 != b3) = false := by simp [bne, t3]
  clear t3
  cases t4 : (a4.toList == b4.toList)
  · go_enter Tryz.func21, Tryz.ntmps21
    go_wp2_with fail
    go_ret
    exact ⟨rfl, HB.out _ _⟩
  by_cases h6 : a6 = b6
  rotate_left
  · have t5 : (a6 == b6) = false := by simpa using h6
    rw [t5]
    obtain ⟨rfl, rfl⟩ | ⟨rfl, rfl⟩ : (a6 = true ∧ b6 = false) ∨ (a6 = false ∧ b6 = true) := by cases a6 <;> cases b6 <;> simp_all
    all_goals
      clear t5 h6
      go_enter Tryz.func21, Tryz.ntmps21
      go_wp2_with fail
      go_ret
      exact ⟨rfl, HB.out _ _⟩
  subst h6
  rw [show (a6 == a6) = true by simp]
  by_cases hne : n1 = n2
  rotate_left
  · have u6 : ((n1 : Int) != (n2 : Int)) = true := by rw [bne_iff_ne]; omega
    have HN : Hid ((a5 == b5) = false) := by
      unfold Hid
      rw [beq_eq_false_iff_ne]
      intro e
      have := L1.out; have := L2.out
      rw [e] at *
      omega
    simp only [Bool.true_and]
    rw [HN.out]
    clear hne
    go_enter Tryz.func21, Tryz.ntmps21
    go_wp2_with fail
    go_ret
    exact ⟨rfl, HB.out _ _⟩
  · subst hne
    have u6 : ((n1 : Int) != (n1 : Int)) = false := by simp
    simp only [Bool.true_and]
    have hr1 := Lib.hid (fun o1 o2 => h1.far (HB.out o1 o2) hB1)
    have hr2 := Lib.hid (fun o1 o2 => h2.far (HB.out o1 o2) hB2)
    clear h1 h2
    obtain ⟨W1, hW1⟩ : ∃ W1, w.alloc (.cells #[.int .i64 a1, .int .i64 a2, .int .i64 a3, .string a4, .slice A1 n1 c1, .bool a6] 29) = W1 := ⟨_, rfl⟩
    obtain ⟨W2, hW2⟩ : ∃ W2, W1.alloc (.cells #[.int .i64 b1, .int .i64 b2, .int .i64 b3, .string b4, .slice A2 n1 c2, .bool a6] 29) = W2 := ⟨_, rfl⟩
    have s1 : W1.heap.size = w.heap.size + 1 := by rw [← hW1]; simp
    have g1 : Hid (W2.cell? ⟨w.heap.size, 4, none⟩ = some (.slice A1 n1 c1)) := by
      have hb : Below W1.heap.size W1 W2 := by rw [← hW2]; exact (Below.refl _ _).alloc (Nat.le_refl _) _
      exact (box6 hW1 hb).2.2.2.2.1
    have g2 : Hid (W2.cell? ⟨w.heap.size + 1, 4, none⟩ = some (.slice A2 n1 c2)) := by
      have := (box6 hW2 (Below.refl _ _)).2.2.2.2.1
      rw [s1] at this; exact this
    have r1 : Hid (Rd W2 B1 3 A1 n1 (lins a5)) := by rw [← hW2, ← hW1]; exact hr1.out _ _
    have r2 : Hid (Rd W2 B2 3 A2 n1 (lins b5)) := by rw [← hW2, ← hW1]; exact hr2.out _ _
    have HBW : Hid (Below w.heap.size w W2) := by rw [← hW2, ← hW1]; exact HB.out _ _
    rw [← hW1] at hW2
    have HW2 := Lib.hid hW2
    clear hW1 hW2 hr1 hr2 s1
    go_enter Tryz.func21, Tryz.ntmps21
    go_wp2_with fail
    rw [HW2.out]
    go_loopw [5] (fun i wr => ∃ k : Nat, k ≤ n1 ∧ i = .int .i64 k ∧ Hid (a5.take k = b5.take k) ∧ Drew W2 wr) (fun i _ => n1 - (intOf i).toNat)
    case atStart => exact ⟨0, Nat.zero_le _, rfl, by simp [Hid], Drew.refl _⟩
    case round =>
      obtain ⟨k, hk, rfl, hs, q, rfl⟩ := hrel
      have v1 := g1.out
      have v2 := g2.out
      by_cases hlt : k < n1
      · obtain ⟨d1, x, rfl, hb1, hx, p1, p2, p3⟩ := r1.out.lin hlt
        obtain ⟨d2, y, rfl, hb2, hy, q1, q2, q3⟩ := r2.out.lin hlt
        have hkn : (k : Int) < (n1 : Int) := by omega
        have p2' := cell_behind p2 (by omega)
        have p3' := cell_behind p3 (by omega)
        have q2' := cell_behind q2 (by omega)
        have q3' := cell_behind q3 (by omega)
        have HX : Hid (x = y → a5.take (k + 1) = b5.take (k + 1)) := fun h => lin_step (by have := L1.out; have := L2.out; omega) hs.out (by rw [hx, hy, h])
        have HY : Hid (x ≠ y → (a5 == b5) = false) := by
          intro h
          rw [beq_eq_false_iff_ne]
          intro e
          rw [e, hy] at hx
          exact h (by injection hx with hx; exact hx.symm)
        clear hx hy p2 p3 q2 q3
        obtain ⟨x1, x2, x3⟩ := x
        obtain ⟨y1, y2, y3⟩ := y
        by_cases e1 : x1 = y1
        · subst e1
          by_cases e2 : x2 = y2
          · subst e2
            by_cases e3 : x3 = y3
            · subst e3
              go_wp2_with fail
              go_big_quiet (fail)
              go_wp2
              exact ⟨⟨k + 1, by omega, by go_num, HX.out (by first | rfl | trivial), Drew.add _ _⟩, by simp [intOf]; omega⟩
            · skip
              go_wp2_with fail
              go_big_quiet (fail)
              go_wp2
              go_ret
              exact ⟨ret_bool (HY.out (by simp [e3])).symm, HBW.out.trans (Drew.below ⟨_, World.drewN_drewN _ _ _⟩)⟩
          · skip
            go_wp2_with fail
            go_big_quiet (fail)
            go_wp2
            go_ret
            exact ⟨ret_bool (HY.out (by simp [e2])).symm, HBW.out.trans (Drew.below ⟨_, World.drewN_drewN _ _ _⟩)⟩
        · skip
          go_wp2_with fail
          go_big_quiet (fail)
          go_wp2
          go_ret
          exact ⟨ret_bool (HY.out (by simp [e1])).symm, HBW.out.trans (Drew.below ⟨_, World.drewN_drewN _ _ _⟩)⟩
      · go_wp2
        go_ret
        refine ⟨ret_bool ?_, HBW.out.trans (Drew.below ⟨_, rfl⟩)⟩
        have := hs.out
        rw [List.take_of_length_le (by have := L1.out; omega), List.take_of_length_le (by have := L2.out; omega)] at this
        rw [this]; simp
end Go.Proofs.YtmgncoialppmpaaGreat
