/-
  Contract of entry.Check.
-/
import Derived.Test.YthjpknipnmagkaaGreatMany10
namespace Go.Proofs.YthjpknipnmagkaaGreat
open Go.RowKit

/-- A journal's block, read later. -/
theorem box6 {w W1 w1 : World} {a0 a1 a2 a3 a4 a5 : Value} {T : TypeId} (hW : w.alloc (.cells #[a0, a1, a2, a3, a4, a5] T) = W1) (hb : Below W1.heap.size W1 w1) :
    w1.cell? ⟨w.heap.size, 0, none⟩ = some a0 ∧ w1.cell? ⟨w.heap.size, 1, none⟩ = some a1 ∧ w1.cell? ⟨w.heap.size, 2, none⟩ = some a2 ∧ w1.cell? ⟨w.heap.size, 3, none⟩ = some a3 ∧ w1.cell? ⟨w.heap.size, 4, none⟩ = some a4 ∧ w1.cell? ⟨w.heap.size, 5, none⟩ = some a5 := by
  subst hW
  have hz : ∀ i, (⟨w.heap.size, i, none⟩ : Addr).block < (w.alloc (.cells #[a0, a1, a2, a3, a4, a5] T)).heap.size := fun i => by simp
  exact ⟨(hb.cell (hz 0)).trans (box_cell 0), (hb.cell (hz 1)).trans (box_cell 1), (hb.cell (hz 2)).trans (box_cell 2), (hb.cell (hz 3)).trans (box_cell 3), (hb.cell (hz 4)).trans (box_cell 4), (hb.cell (hz 5)).trans (box_cell 5)⟩
theorem fits_two (p : Int) (W : World) (o : Obj) (T : TypeId) : Calls Tryz.prog 170 #[.slice (some ⟨W.heap.size + 1, 0, none⟩) 1 1] ((W.alloc o).alloc (.cells #[.int .i64 p] T)) fun e w' => e = .returned (.bool (fits1 p)) ∧ (W.alloc o).alloc (.cells #[.int .i64 p] T) = w' := by
  have := fits_one p (W.alloc o) (T := T)
  rw [show (W.alloc o).heap.size = W.heap.size + 1 by simp] at this
  exact this
theorem checkE_front {j : Jrn} (h : frontOk j = false) : checkE j = 1 := by unfold checkE; rw [h]; rfl
theorem checkE_lines {j : Jrn} (h : linesOk j = false) : checkE j = 1 := by unfold checkE; rw [h, Bool.and_false]; rfl
theorem checkE_rest {j : Jrn} (h : frontOk j = true) (h2 : linesOk j = true) : checkE j = if fitsL j.lines = true then if sumA j.lines = 0 then 0 else 3 else 2 := by unfold checkE; rw [h, h2]; rfl
theorem linesOk_len {j : Jrn} (h : linesOk j = true) : 2 ≤ j.lines.length ∧ j.lines.length ≤ 8 := by
  unfold linesOk at h
  rw [Bool.and_eq_true] at h
  have := inB_iff.1 h.1
  omega

set_option maxRecDepth 100000 in
set_option maxHeartbeats 2000000 in
theorem check_any (j : Jrn) (A : Option Addr) (n c B : Nat) (w : World) (h : Rd w B 3 A n (lins j.lines)) (hB : B ≤ w.heap.size) (hn : n ≤ maxLen) (hs : j.ref.size ≤ maxLen) :
    Calls Tryz.prog 134 #[j.val A n c] w fun e w' => e = .returned (.int .i64 (checkE j)) ∧ Below w.heap.size w w' := by
  have HL := Lib.hid h.lins_len
  obtain ⟨W1, hW⟩ : ∃ W1, w.alloc (.cells #[.int .i64 j.id, .int .i64 j.ent, .int .i64 j.per, .string j.ref, .slice A n c, .bool j.void] 104) = W1 := ⟨_, rfl⟩
  have hb1 : Below w.heap.size w W1 := by rw [← hW]; exact (Below.refl _ _).alloc (Nat.le_refl _) _
  have hz1 : w.heap.size < W1.heap.size := by rw [← hW]; simp
  have HW := Lib.hid hW
  have kf := Lib.hid (frontMayBe_any j A n c W1 hs)
  have kl : Hid (∀ w1, Below W1.heap.size W1 w1 → Calls Tryz.prog 182 #[j.val A n c] w1 fun e w' => e = .returned (.bool (linesOk j)) ∧ Below w1.heap.size w1 w') := fun w1 hb => linesMayBe_any j A n c B w1 (h.far (hb1.trans (hb.mono hb1.size)) hB) (by have := hb.size; omega) hn
  have HR : Hid (∀ w1, Below W1.heap.size W1 w1 → Rd w1 B 3 A n (lins j.lines)) := fun w1 hb => h.far (hb1.trans (hb.mono hb1.size)) hB
  have HB1 := Lib.hid hb1
  have HZ := Lib.hid hz1
  have HH : Hid (frontOk j = false ∨ frontOk j = true ∧ (linesOk j = false ∨ linesOk j = true)) := by
    unfold Hid
    cases frontOk j <;> cases linesOk j <;> simp
  have e0 : Hid (frontOk j = false → checkE j = 1) := checkE_front
  have e1 : Hid (linesOk j = false → checkE j = 1) := checkE_lines
  have e2 : Hid (frontOk j = true → linesOk j = true → checkE j = if fitsL j.lines = true then if sumA j.lines = 0 then 0 else 3 else 2) := checkE_rest
  have e3 : Hid (linesOk j = true → 2 ≤ j.lines.length ∧ j.lines.length ≤ 8) := linesOk_len
  clear hb1 hz1 h hs hW
  unfold Jrn.val at kf kl ⊢
  obtain ⟨id, ent, per, ref, L, void⟩ := j
  dsimp only at *
  generalize frontOk ⟨id, ent, per, ref, L, void⟩ = F at *
  generalize linesOk ⟨id, ent, per, ref, L, void⟩ = G at *
  generalize checkE ⟨id, ent, per, ref, L, void⟩ = E at *
  unfold maxLen at hn
  rcases HH.out with rfl | ⟨rfl, rfl | rfl⟩
  · obtain rfl := e0.out rfl
    go_enter Tryz.func134, Tryz.ntmps134
    go_wp2_with fail
    rw [HW.out]
    refine kf.out.mono ?_
    rintro e w1 ⟨rfl, hb⟩
    go_wp2
    go_ret
    exact ⟨rfl, HB1.out.trans (hb.mono HB1.out.size)⟩
  · obtain rfl := e1.out rfl
    go_enter Tryz.func134, Tryz.ntmps134
    go_wp2_with fail
    rw [HW.out]
    refine kf.out.mono ?_
    rintro e w1 ⟨rfl, hb⟩
    obtain ⟨b0, b1, b2, b3, b4, b5⟩ := box6 HW.out hb
    have kl1 := Lib.hid (kl.out w1 hb)
    have HB2 := Lib.hid hb
    clear hb
    go_wp2_with fail
    refine kl1.out.mono ?_
    rintro e w2 ⟨rfl, hb2⟩
    have HB3 := Lib.hid hb2
    clear hb2
    go_wp2
    go_ret
    exact ⟨rfl, HB1.out.trans ((HB2.out.trans (HB3.out.mono HB2.out.size)).mono HB1.out.size)⟩
  · have hE := e2.out rfl rfl
    obtain ⟨hn2, hn8⟩ := e3.out rfl
    have HE := Lib.hid hE
    rw [HL.out] at hn2 hn8
    clear hE
    go_enter Tryz.func134, Tryz.ntmps134
    go_wp2_with fail
    rw [HW.out]
    refine kf.out.mono ?_
    rintro e w1 ⟨rfl, hb⟩
    obtain ⟨b0, b1, b2, b3, b4, b5⟩ := box6 HW.out hb
    have kl1 := Lib.hid (kl.out w1 hb)
    have HB2 := Lib.hid hb
    clear hb
    go_wp2_with fail
    refine kl1.out.mono ?_
    rintro e w2 ⟨rfl, hb2⟩
    have HB3 : Hid (Below W1.heap.size W1 w2) := HB2.out.trans (hb2.mono HB2.out.size)
    clear hb2 b0 b1 b2 b3 b4 b5 HB2 kl1 kf kl
    obtain ⟨_, _, _, _, b4, _⟩ := box6 HW.out HB3.out
    go_wp2_with fail
    clear b4
    go_loopw [17, 3, 5] (fun iv sv _ wr => ∃ k : Nat, k ≤ n ∧ iv = .int .i64 k ∧ sv = .int .i64 (sumA (L.take k)) ∧ Hid (fitsL (L.take k) = true) ∧ Below w2.heap.size w2 wr) (fun iv _ _ _ => n - (intOf iv).toNat)
    case atStart => exact ⟨0, Nat.zero_le _, rfl, rfl, rfl, Below.refl _ _⟩
    case round =>
      obtain ⟨k, hk, rfl, rfl, hf, hbel⟩ := hrel
      have hzr := hbel.size
      have HBr : Hid (Below w.heap.size w wr) := HB1.out.trans ((HB3.out.trans (hbel.mono HB3.out.size)).mono HB1.out.size)
      by_cases hlt : k < n
      · obtain ⟨ad, x, rfl, hbk, hx, p1, p2, p3⟩ := (HR.out wr (HB3.out.trans (hbel.mono HB3.out.size))).lin hlt
        have hkn : (k : Int) < (n : Int) := by omega
        have p2' := cell_behind p2 (by omega)
        have p3' := cell_behind p3 (by omega)
        have HX := Lib.hid hx
        have hbd := sumA_bound k (by have := HL.out; omega) hf.out
        have HST := Lib.hid (sumA_step hx)
        have HBL : Hid (∀ o o2, Below w2.heap.size w2 ((wr.alloc o).alloc o2)) := fun o o2 => (hbel.alloc hzr o).alloc (by simp; omega) o2
        have HBW : Hid (∀ o o2, Below w.heap.size w ((wr.alloc o).alloc o2)) := fun o o2 => (HBr.out.alloc HBr.out.size o).alloc (by have := HBr.out.size; simp; omega) o2
        clear hx p2 p3 hbel
        obtain ⟨x1, x2, x3⟩ := x
        dsimp only at HST p2'
        have kx := Lib.hid (fits_two x2 wr)
        generalize sumA (L.take k) = S at *
        cases c1 : fits1 x2
        · go_wp2_with (go_at_call 170; refine (kx.out _ _).mono ?_; rintro e w' ⟨rfl, rfl⟩)
          go_ret
          exact ⟨ret_int (by rw [HE.out, if_neg (by rw [fitsL_no HX.out c1]; decide)]), HBW.out _ _⟩
        · have hfit := fits1_iff.1 c1
          go_wp2_with (go_at_call 170; refine (kx.out _ _).mono ?_; rintro e w' ⟨rfl, rfl⟩)
          refine ⟨⟨k + 1, by omega, by go_num, ?_, fitsL_step hf.out HX.out c1, HBL.out _ _⟩, by simp [intOf]; omega⟩
          rw [HST.out]
      · obtain rfl : k = n := by omega
        have hfe := fitsL_end hf.out (Nat.le_of_eq HL.out)
        have hE := HE.out
        rw [hfe, if_pos rfl] at hE
        rw [List.take_of_length_le (Nat.le_of_eq HL.out)]
        have HE2 := Lib.hid hE
        clear hE hf hfe
        generalize sumA L = S at *
        cases c1 : (S != 0)
        · go_wp2
          go_ret
          exact ⟨ret_int (by rw [HE2.out, if_pos (by simpa using c1)]), HBr.out⟩
        · go_wp2
          go_ret
          exact ⟨ret_int (by rw [HE2.out, if_neg (by simpa using c1)]), HBr.out⟩
end Go.Proofs.YthjpknipnmagkaaGreat

