/-
  Several texts, one behind the other: what each holds stands ahead of it.
-/
import Derived.Test.YtjlokkjbdgcooaaGreatOwn
import Derived.Test.YtjlokkjbdgcooaaGreatMany3

/-
  A text's bytes as a list. No code.
-/
namespace Go.Proofs.YtjlokkjbdgcooaaGreat
open Go.RowKit

theorem at_list (s : ByteArray) (k : Nat) (hk : k < s.size) : ∃ h : k < s.data.toList.length, s[k] = s.data.toList[k] := ⟨by rw [Array.length_toList]; exact hk, rfl⟩
end Go.Proofs.YtjlokkjbdgcooaaGreat

/-
  Contracts of entry.within, refMayBe, frontMayBe, linesMayBe, Check.
-/
namespace Go.Proofs.YtjlokkjbdgcooaaGreat
open Go.RowKit

set_option maxHeartbeats 400000 in
theorem within_any (n a b : Int) (w : World) :
    Calls Tryz.prog 214 #[.int .i64 n, .int .i64 a, .int .i64 b] w fun e w' => e = .returned (.bool (inB n a b)) ∧ w = w' := by
  go_enter Tryz.func214, Tryz.ntmps214
  go_wp2
  all_goals
    go_ret
    exact ⟨ret_bool (by unfold inB; rw [Bool.eq_iff_iff]; simp; try omega), rfl⟩

theorem fits_one (p : Int) (w : World) {T : TypeId} : Calls Tryz.prog 174 #[.slice (some ⟨w.heap.size, 0, none⟩) 1 1] (w.alloc (.cells #[.int .i64 p] T)) fun e w' => e = .returned (.bool (fits1 p)) ∧ w.alloc (.cells #[.int .i64 p] T) = w' := by
  have := fits_any [p] _ 1 1 _ _ (rd_oneI w p (T := T)) (by unfold maxLen; omega)
  rwa [show fitsAll [p] = fits1 p by simp [fitsAll]] at this

set_option maxRecDepth 100000 in
set_option maxHeartbeats 1000000 in
theorem refMayBe_any (s : ByteArray) (w : World) (hs : s.size ≤ maxLen) :
    Calls Tryz.prog 215 #[.string s] w fun e w' => e = .returned (.bool (refOk s.data.toList)) ∧ w = w' := by
  unfold maxLen at hs
  by_cases h8 : 8 < s.size
  · go_enter Tryz.func215, Tryz.ntmps215
    go_wp2
    go_ret
    refine ⟨ret_bool ?_, rfl⟩
    symm
    unfold refOk
    rw [show decide (s.data.toList.length ≤ 8) = false by rw [Array.length_toList]; simp; exact h8]; rfl
  · have HR : Hid (refOk s.data.toList = refAll s.data.toList) := by
      unfold Hid refOk
      rw [show decide (s.data.toList.length ≤ 8) = true by rw [Array.length_toList]; simp; omega]; rfl
    rw [HR.out]
    go_enter Tryz.func215, Tryz.ntmps215
    go_wp2
    go_loop [10, 3, 4] (fun iv _ _ => ∃ k : Nat, k ≤ s.size ∧ iv = .int .i64 k ∧ Hid (refAll (s.data.toList.take k) = true)) (fun iv _ _ => s.size - (intOf iv).toNat)
    case atStart => exact ⟨0, Nat.zero_le _, rfl, rfl⟩
    case round =>
      obtain ⟨k, hk, rfl, hf⟩ := hrel
      by_cases hlt : k < s.size
      · obtain ⟨hl, hg⟩ := at_list s k hlt
        obtain ⟨x, hx⟩ : ∃ x : Int, x = ((s[k]'hlt).toNat : Int) := ⟨_, rfl⟩
        have hi1 : ∀ w, (Instr.index 9 (.string s) (.int .i64 (k : Int))).run Tryz.prog w = .ok (.int .u8 x) w := fun w => by
          rw [run_index_string w _ _ _ _ Tryz.underlying9, dif_pos (by omega), hx]
          rfl
        obtain ⟨b, HK⟩ : ∃ b, Hid (s.data.toList[k]? = some b ∧ refB b = (decide (65 ≤ x ∧ x ≤ 90) || decide (48 ≤ x ∧ x ≤ 57))) := by
          refine ⟨s[k], by rw [hg]; exact List.getElem?_eq_getElem hl, ?_⟩
          rw [hx]
          unfold refB
          generalize s[k].toNat = m
          rw [Bool.eq_iff_iff]; simp; omega
        clear hx hg hl
        have key : (65 ≤ x ∧ x ≤ 90) ∨ (48 ≤ x ∧ x ≤ 57) ∨ (x < 48 ∨ 57 < x ∧ x < 65 ∨ 90 < x) := by omega
        rcases key with h1 | h1 | h1
        · have c1 : ¬ x < 65 := by omega
          have c2 : ¬ 90 < x := by omega
          go_wp2
          exact ⟨⟨k + 1, by omega, by go_num, refAll_step hf.out HK.out.1 (by rw [HK.out.2]; simp; omega)⟩, by simp [intOf]; omega⟩
        · have c1 : x < 65 := by omega
          have c3 : ¬ x < 48 := by omega
          have c4 : ¬ 57 < x := by omega
          go_wp2
          exact ⟨⟨k + 1, by omega, by go_num, refAll_step hf.out HK.out.1 (by rw [HK.out.2]; simp; omega)⟩, by simp [intOf]; omega⟩
        · have HN : Hid (refAll s.data.toList = false) := refAll_no HK.out.1 (by rw [HK.out.2]; simp; omega)
          by_cases c1 : x < 65
          · by_cases c3 : x < 48
            · go_wp2
              go_ret
              exact ⟨ret_bool HN.out.symm, rfl⟩
            · have c4 : 57 < x := by omega
              go_wp2
              go_ret
              exact ⟨ret_bool HN.out.symm, rfl⟩
          · have c2 : 90 < x := by omega
            have c3 : ¬ x < 48 := by omega
            have c4 : 57 < x := by omega
            go_wp2
            go_ret
            exact ⟨ret_bool HN.out.symm, rfl⟩
      · go_wp2
        go_ret
        exact ⟨ret_bool (refAll_end hf.out (by rw [Array.length_toList]; exact Nat.le_of_not_lt hlt)).symm, rfl⟩

set_option maxRecDepth 100000 in
set_option maxHeartbeats 1000000 in
theorem frontMayBe_any (j : Jrn) (A : Option Addr) (n c : Nat) (w : World) (hs : j.ref.size ≤ maxLen) :
    Calls Tryz.prog 184 #[j.val A n c] w fun e w' => e = .returned (.bool (frontOk j)) ∧ Below w.heap.size w w' := by
  obtain ⟨id, ent, per, ref, L, void⟩ := j
  unfold Jrn.val frontOk
  dsimp only at hs ⊢
  have HS := Lib.hid hs
  clear hs
  cases h1 : inB id 1 999999
  · go_enter Tryz.func184, Tryz.ntmps184
    go_wp2_with (go_at_call 214; refine (within_any _ _ _ _).mono ?_; rintro e w' ⟨rfl, rfl⟩)
    go_ret
    exact ⟨rfl, (Below.refl _ _).alloc (Nat.le_refl _) _⟩
  cases h2 : inB ent 1 9
  · go_enter Tryz.func184, Tryz.ntmps184
    go_wp2_with (go_at_call 214; refine (within_any _ _ _ _).mono ?_; rintro e w' ⟨rfl, rfl⟩)
    go_ret
    exact ⟨rfl, (Below.refl _ _).alloc (Nat.le_refl _) _⟩
  have kv : ∀ (o : Obj) (T : TypeId), Calls Tryz.prog 134 #[.slice (some ⟨w.heap.size + 1, 0, none⟩) 1 1] ((w.alloc o).alloc (.cells #[.int .i64 per] T)) fun e w' => e = .returned (.bool (okP per)) ∧ (w.alloc o).alloc (.cells #[.int .i64 per] T) = w' := fun o T => by
    have := valid_one per (w.alloc o) (T := T)
    rw [show (w.alloc o).heap.size = w.heap.size + 1 by simp] at this
    exact this
  have hB1 : ∀ o1 o2, Below w.heap.size w ((w.alloc o1).alloc o2) := fun o1 o2 => ((Below.refl _ _).alloc (Nat.le_refl _) _).alloc (by simp) _
  cases h3 : okP per
  · go_enter Tryz.func184, Tryz.ntmps184
    go_wp2_with (first | (go_at_call 214; refine (within_any _ _ _ _).mono ?_; rintro e w' ⟨rfl, rfl⟩) | (go_at_call 134; refine (kv _ _).mono ?_; rintro e w' ⟨rfl, rfl⟩))
    go_ret
    exact ⟨rfl, hB1 _ _⟩
  · go_enter Tryz.func184, Tryz.ntmps184
    go_wp2_with (first | (go_at_call 214; refine (within_any _ _ _ _).mono ?_; rintro e w' ⟨rfl, rfl⟩) | (go_at_call 134; refine (kv _ _).mono ?_; rintro e w' ⟨rfl, rfl⟩) | (go_at_call 215; refine (refMayBe_any ref _ HS.out).mono ?_; rintro e w' ⟨rfl, rfl⟩))
    go_ret
    exact ⟨rfl, hB1 _ _⟩

set_option maxRecDepth 100000 in
set_option maxHeartbeats 1000000 in
theorem linesMayBe_any (j : Jrn) (A : Option Addr) (n c B : Nat) (w : World) (h : Rd w B 3 A n (lins j.lines)) (hB : B ≤ w.heap.size) (hn : n ≤ maxLen) :
    Calls Tryz.prog 185 #[j.val A n c] w fun e w' => e = .returned (.bool (linesOk j)) ∧ Below w.heap.size w w' := by
  obtain ⟨id, ent, per, ref, L, void⟩ := j
  unfold Jrn.val linesOk
  unfold maxLen at hn
  dsimp only at h ⊢
  have HL := Lib.hid h.lins_len
  rw [HL.out]
  cases h1 : inB n 2 8
  · go_enter Tryz.func185, Tryz.ntmps185
    go_wp2_with (go_at_call 214; refine (within_any _ _ _ _).mono ?_; rintro e w' ⟨rfl, rfl⟩)
    go_ret
    exact ⟨rfl, (Below.refl _ _).alloc (Nat.le_refl _) _⟩
  · rw [Bool.true_and]
    have hb1 : Below w.heap.size w (w.alloc (.cells #[.int .i64 id, .int .i64 ent, .int .i64 per, .string ref, .slice A n c, .bool void] 111)) := (Below.refl _ _).alloc (Nat.le_refl _) _
    have hr1 := h.far hb1 hB
    have hE : (w.alloc (.cells #[.int .i64 id, .int .i64 ent, .int .i64 per, .string ref, .slice A n c, .bool void] 111)).cell? ⟨w.heap.size, 1, none⟩ = some (.int .i64 ent) := box_cell 1
    have hz1 : w.heap.size < (w.alloc (.cells #[.int .i64 id, .int .i64 ent, .int .i64 per, .string ref, .slice A n c, .bool void] 111)).heap.size := by simp
    go_enter Tryz.func185, Tryz.ntmps185
    go_wp2_with (go_at_call 214; refine (within_any _ _ _ _).mono ?_; rintro e w' ⟨rfl, rfl⟩)
    have HB1 := Lib.hid hb1
    have HR1 := Lib.hid hr1
    have HE := Lib.hid hE
    have HZ := Lib.hid hz1
    clear hb1 hr1 hE hz1 h
    generalize w.alloc (.cells #[.int .i64 id, .int .i64 ent, .int .i64 per, .string ref, .slice A n c, .bool void] 111) = W1 at *
    go_loopw [13, 4] (fun iv _ wr => ∃ k : Nat, k ≤ n ∧ iv = .int .i64 k ∧ Hid (linesAll ent (L.take k) = true) ∧ Below W1.heap.size W1 wr) (fun iv _ _ => n - (intOf iv).toNat)
    case atStart => exact ⟨0, Nat.zero_le _, rfl, rfl, Below.refl _ _⟩
    case round =>
      obtain ⟨k, hk, rfl, hf, hbel⟩ := hrel
      have hzr := hbel.size
      by_cases hlt : k < n
      · obtain ⟨ad, x, rfl, hbk, hx, p1, p2, p3⟩ := (HR1.out.far hbel (by have := HZ.out; omega)).lin hlt
        have hkn : (k : Int) < (n : Int) := by omega
        have p2' := cell_behind p2 (by omega)
        have p3' := cell_behind p3 (by omega)
        have hE2 : wr.cell? ⟨w.heap.size, 1, none⟩ = some (.int .i64 ent) := (hbel.cell (by have := HZ.out; exact this)).trans HE.out
        have hzw : w.heap.size < wr.heap.size := by have := HZ.out; omega
        have HX := Lib.hid hx
        have HBL : Hid (∀ o, Below w.heap.size w (wr.alloc o)) := fun o => HB1.out.trans ((hbel.alloc hzr o).mono HB1.out.size)
        have HBR : Hid (∀ o, Below W1.heap.size W1 (wr.alloc o)) := fun o => hbel.alloc hzr o
        clear hx p2 p3 hbel
        obtain ⟨x1, x2, x3⟩ := x
        cases c1 : inB x1 1 9999
        · go_wp2_with (go_at_call 214; refine (within_any _ _ _ _).mono ?_; rintro e w' ⟨rfl, rfl⟩)
          go_ret
          exact ⟨ret_bool (linesAll_no HX.out (by simp [lineOk, c1])).symm, HBL.out _⟩
        cases c2 : (x2 == 0)
        rotate_left
        · go_wp2_with (go_at_call 214; refine (within_any _ _ _ _).mono ?_; rintro e w' ⟨rfl, rfl⟩)
          go_ret
          exact ⟨ret_bool (linesAll_no HX.out (by simp [lineOk, c2])).symm, HBL.out _⟩
        cases c3 : inB x3 0 9
        · go_wp2_with (go_at_call 214; refine (within_any _ _ _ _).mono ?_; rintro e w' ⟨rfl, rfl⟩)
          go_ret
          exact ⟨ret_bool (linesAll_no HX.out (by simp [lineOk, c3])).symm, HBL.out _⟩
        cases c4 : (x3 == ent)
        rotate_left
        · go_wp2_with (go_at_call 214; refine (within_any _ _ _ _).mono ?_; rintro e w' ⟨rfl, rfl⟩)
          go_ret
          exact ⟨ret_bool (linesAll_no HX.out (by simp [lineOk, c4])).symm, HBL.out _⟩
        · go_wp2_with (go_at_call 214; refine (within_any _ _ _ _).mono ?_; rintro e w' ⟨rfl, rfl⟩)
          exact ⟨⟨k + 1, by omega, by go_num, linesAll_step hf.out HX.out (by simp [lineOk, c1, c2, c3, c4]), HBR.out _⟩, by simp [intOf]; omega⟩
      · go_wp2
        go_ret
        exact ⟨ret_bool (linesAll_end hf.out (by have := HL.out; omega)).symm, HB1.out.trans (hbel.mono HB1.out.size)⟩
end Go.Proofs.YtjlokkjbdgcooaaGreat

/-
  Contract of entry.Check.
-/
namespace Go.Proofs.YtjlokkjbdgcooaaGreat
open Go.RowKit

/-- A journal's block, read later. -/
theorem box6 {w W1 w1 : World} {a0 a1 a2 a3 a4 a5 : Value} {T : TypeId} (hW : w.alloc (.cells #[a0, a1, a2, a3, a4, a5] T) = W1) (hb : Below W1.heap.size W1 w1) :
    w1.cell? ⟨w.heap.size, 0, none⟩ = some a0 ∧ w1.cell? ⟨w.heap.size, 1, none⟩ = some a1 ∧ w1.cell? ⟨w.heap.size, 2, none⟩ = some a2 ∧ w1.cell? ⟨w.heap.size, 3, none⟩ = some a3 ∧ w1.cell? ⟨w.heap.size, 4, none⟩ = some a4 ∧ w1.cell? ⟨w.heap.size, 5, none⟩ = some a5 := by
  subst hW
  have hz : ∀ i, (⟨w.heap.size, i, none⟩ : Addr).block < (w.alloc (.cells #[a0, a1, a2, a3, a4, a5] T)).heap.size := fun i => by simp
  exact ⟨(hb.cell (hz 0)).trans (box_cell 0), (hb.cell (hz 1)).trans (box_cell 1), (hb.cell (hz 2)).trans (box_cell 2), (hb.cell (hz 3)).trans (box_cell 3), (hb.cell (hz 4)).trans (box_cell 4), (hb.cell (hz 5)).trans (box_cell 5)⟩
theorem fits_two (p : Int) (W : World) (o : Obj) (T : TypeId) : Calls Tryz.prog 174 #[.slice (some ⟨W.heap.size + 1, 0, none⟩) 1 1] ((W.alloc o).alloc (.cells #[.int .i64 p] T)) fun e w' => e = .returned (.bool (fits1 p)) ∧ (W.alloc o).alloc (.cells #[.int .i64 p] T) = w' := by
  have := fits_one p (W.alloc o) (T := T)
  rw [show (W.alloc o).heap.size = W.heap.size + 1 by simp] at this
  exact this
theorem checkE_front {j : Jrn} (h : frontOk j = false) : checkE j = 1 := by unfold checkE; rw [h]; rfl
theorem checkE_lines {j : Jrn} (h : linesOk j = false) : checkE j = 1 := by unfold checkE; rw [h, Bool.and_false]; rfl
theorem checkE_rest {j : Jrn} (h : frontOk j = true) (h2 : linesOk j = true) : checkE j = if fitsL j.lines = true then if sumA j.lines = 0 then 0 else 3 else 2 := by unfold checkE; rw [h, h2]; rfl
theorem linesOk_len {j : Jrn} (h : linesOk j = true) : 2 ≤ j.lines.length ∧ j.lines.length ≤ 8 := by
  unfold linesOk at h
  rw [Bool.and_eq_true] at h
  have := inB_iff.1 h.1
  omega

set_option maxRecDepth 100000 in
set_option maxHeartbeats 2000000 in
theorem check_any (j : Jrn) (A : Option Addr) (n c B : Nat) (w : World) (h : Rd w B 3 A n (lins j.lines)) (hB : B ≤ w.heap.size) (hn : n ≤ maxLen) (hs : j.ref.size ≤ maxLen) :
    Calls Tryz.prog 138 #[j.val A n c] w fun e w' => e = .returned (.int .i64 (checkE j)) ∧ Below w.heap.size w w' := by
  have HL := Lib.hid h.lins_len
  obtain ⟨W1, hW⟩ : ∃ W1, w.alloc (.cells #[.int .i64 j.id, .int .i64 j.ent, .int .i64 j.per, .string j.ref, .slice A n c, .bool j.void] 111) = W1 := ⟨_, rfl⟩
  have hb1 : Below w.heap.size w W1 := by rw [← hW]; exact (Below.refl _ _).alloc (Nat.le_refl _) _
  have hz1 : w.heap.size < W1.heap.size := by rw [← hW]; simp
  have HW := Lib.hid hW
  have kf := Lib.hid (frontMayBe_any j A n c W1 hs)
  have kl : Hid (∀ w1, Below W1.heap.size W1 w1 → Calls Tryz.prog 185 #[j.val A n c] w1 fun e w' => e = .returned (.bool (linesOk j)) ∧ Below w1.heap.size w1 w') := fun w1 hb => linesMayBe_any j A n c B w1 (h.far (hb1.trans (hb.mono hb1.size)) hB) (by have := hb.size; omega) hn
  have HR : Hid (∀ w1, Below W1.heap.size W1 w1 → Rd w1 B 3 A n (lins j.lines)) := fun w1 hb => h.far (hb1.trans (hb.mono hb1.size)) hB
  have HB1 := Lib.hid hb1
  have HZ := Lib.hid hz1
  have HH : Hid (frontOk j = false ∨ frontOk j = true ∧ (linesOk j = false ∨ linesOk j = true)) := by
    unfold Hid
    cases frontOk j <;> cases linesOk j <;> simp
  have e0 : Hid (frontOk j = false → checkE j = 1) := checkE_front
  have e1 : Hid (linesOk j = false → checkE j = 1) := checkE_lines
  have e2 : Hid (frontOk j = true → linesOk j = true → checkE j = if fitsL j.lines = true then if sumA j.lines = 0 then 0 else 3 else 2) := checkE_rest
  have e3 : Hid (linesOk j = true → 2 ≤ j.lines.length ∧ j.lines.length ≤ 8) := linesOk_len
  clear hb1 hz1 h hs hW
  unfold Jrn.val at kf kl ⊢
  obtain ⟨id, ent, per, ref, L, void⟩ := j
  dsimp only at *
  generalize frontOk ⟨id, ent, per, ref, L, void⟩ = F at *
  generalize linesOk ⟨id, ent, per, ref, L, void⟩ = G at *
  generalize checkE ⟨id, ent, per, ref, L, void⟩ = E at *
  unfold maxLen at hn
  rcases HH.out with rfl | ⟨rfl, rfl | rfl⟩
  · obtain rfl := e0.out rfl
    go_enter Tryz.func138, Tryz.ntmps138
    go_wp2_with fail
    rw [HW.out]
    refine kf.out.mono ?_
    rintro e w1 ⟨rfl, hb⟩
    go_wp2
    go_ret
    exact ⟨rfl, HB1.out.trans (hb.mono HB1.out.size)⟩
  · obtain rfl := e1.out rfl
    go_enter Tryz.func138, Tryz.ntmps138
    go_wp2_with fail
    rw [HW.out]
    refine kf.out.mono ?_
    rintro e w1 ⟨rfl, hb⟩
    obtain ⟨b0, b1, b2, b3, b4, b5⟩ := box6 HW.out hb
    have kl1 := Lib.hid (kl.out w1 hb)
    have HB2 := Lib.hid hb
    clear hb
    go_wp2_with fail
    refine kl1.out.mono ?_
    rintro e w2 ⟨rfl, hb2⟩
    have HB3 := Lib.hid hb2
    clear hb2
    go_wp2
    go_ret
    exact ⟨rfl, HB1.out.trans ((HB2.out.trans (HB3.out.mono HB2.out.size)).mono HB1.out.size)⟩
  · have hE := e2.out rfl rfl
    obtain ⟨hn2, hn8⟩ := e3.out rfl
    have HE := Lib.hid hE
    rw [HL.out] at hn2 hn8
    clear hE
    go_enter Tryz.func138, Tryz.ntmps138
    go_wp2_with fail
    rw [HW.out]
    refine kf.out.mono ?_
    rintro e w1 ⟨rfl, hb⟩
    obtain ⟨b0, b1, b2, b3, b4, b5⟩ := box6 HW.out hb
    have kl1 := Lib.hid (kl.out w1 hb)
    have HB2 := Lib.hid hb
    clear hb
    go_wp2_with fail
    refine kl1.out.mono ?_
    rintro e w2 ⟨rfl, hb2⟩
    have HB3 : Hid (Below W1.heap.size W1 w2) := HB2.out.trans (hb2.mono HB2.out.size)
    clear hb2 b0 b1 b2 b3 b4 b5 HB2 kl1 kf kl
    obtain ⟨_, _, _, _, b4, _⟩ := box6 HW.out HB3.out
    go_wp2_with fail
    clear b4
    go_loopw [17, 3, 5] (fun iv sv _ wr => ∃ k : Nat, k ≤ n ∧ iv = .int .i64 k ∧ sv = .int .i64 (sumA (L.take k)) ∧ Hid (fitsL (L.take k) = true) ∧ Below w2.heap.size w2 wr) (fun iv _ _ _ => n - (intOf iv).toNat)
    case atStart => exact ⟨0, Nat.zero_le _, rfl, rfl, rfl, Below.refl _ _⟩
    case round =>
      obtain ⟨k, hk, rfl, rfl, hf, hbel⟩ := hrel
      have hzr := hbel.size
      have HBr : Hid (Below w.heap.size w wr) := HB1.out.trans ((HB3.out.trans (hbel.mono HB3.out.size)).mono HB1.out.size)
      by_cases hlt : k < n
      · obtain ⟨ad, x, rfl, hbk, hx, p1, p2, p3⟩ := (HR.out wr (HB3.out.trans (hbel.mono HB3.out.size))).lin hlt
        have hkn : (k : Int) < (n : Int) := by omega
        have p2' := cell_behind p2 (by omega)
        have p3' := cell_behind p3 (by omega)
        have HX := Lib.hid hx
        have hbd := sumA_bound k (by have := HL.out; omega) hf.out
        have HST := Lib.hid (sumA_step hx)
        have HBL : Hid (∀ o o2, Below w2.heap.size w2 ((wr.alloc o).alloc o2)) := fun o o2 => (hbel.alloc hzr o).alloc (by simp; omega) o2
        have HBW : Hid (∀ o o2, Below w.heap.size w ((wr.alloc o).alloc o2)) := fun o o2 => (HBr.out.alloc HBr.out.size o).alloc (by have := HBr.out.size; simp; omega) o2
        clear hx p2 p3 hbel
        obtain ⟨x1, x2, x3⟩ := x
        dsimp only at HST p2'
        have kx := Lib.hid (fits_two x2 wr)
        generalize sumA (L.take k) = S at *
        cases c1 : fits1 x2
        · go_wp2_with (go_at_call 174; refine (kx.out _ _).mono ?_; rintro e w' ⟨rfl, rfl⟩)
          go_ret
          exact ⟨ret_int (by rw [HE.out, if_neg (by rw [fitsL_no HX.out c1]; decide)]), HBW.out _ _⟩
        · have hfit := fits1_iff.1 c1
          go_wp2_with (go_at_call 174; refine (kx.out _ _).mono ?_; rintro e w' ⟨rfl, rfl⟩)
          refine ⟨⟨k + 1, by omega, by go_num, ?_, fitsL_step hf.out HX.out c1, HBL.out _ _⟩, by simp [intOf]; omega⟩
          rw [HST.out]
      · obtain rfl : k = n := by omega
        have hfe := fitsL_end hf.out (Nat.le_of_eq HL.out)
        have hE := HE.out
        rw [hfe, if_pos rfl] at hE
        rw [List.take_of_length_le (Nat.le_of_eq HL.out)]
        have HE2 := Lib.hid hE
        clear hE hf hfe
        generalize sumA L = S at *
        cases c1 : (S != 0)
        · go_wp2
          go_ret
          exact ⟨ret_int (by rw [HE2.out, if_pos (by simpa using c1)]), HBr.out⟩
        · go_wp2
          go_ret
          exact ⟨ret_int (by rw [HE2.out, if_neg (by simpa using c1)]), HBr.out⟩
end Go.Proofs.YtjlokkjbdgcooaaGreat
