/-
  Several texts, one behind the other: what each holds stands ahead of it.
-/
import Derived.Test.YthjpknipnmagkaaGreatOwn
import Derived.Test.YthjpknipnmagkaaGreatMany9

/-
  A text's bytes as a list. No code.
-/
namespace Go.Proofs.YthjpknipnmagkaaGreat
open Go.RowKit

theorem at_list (s : ByteArray) (k : Nat) (hk : k < s.size) : ∃ h : k < s.data.toList.length, s[k] = s.data.toList[k] := ⟨by rw [Array.length_toList]; exact hk, rfl⟩
end Go.Proofs.YthjpknipnmagkaaGreat

/-
  Contracts of entry.within, refMayBe, frontMayBe, linesMayBe, Check.
-/
namespace Go.Proofs.YthjpknipnmagkaaGreat
open Go.RowKit

set_option maxHeartbeats 400000 in
theorem within_any (n a b : Int) (w : World) :
    Calls Tryz.prog 212 #[.int .i64 n, .int .i64 a, .int .i64 b] w fun e w' => e = .returned (.bool (inB n a b)) ∧ w = w' := by
  go_enter Tryz.func212, Tryz.ntmps212
  go_wp2
  all_goals
    go_ret
    exact ⟨ret_bool (by unfold inB; rw [Bool.eq_iff_iff]; simp; try omega), rfl⟩

theorem fits_one (p : Int) (w : World) {T : TypeId} : Calls Tryz.prog 170 #[.slice (some ⟨w.heap.size, 0, none⟩) 1 1] (w.alloc (.cells #[.int .i64 p] T)) fun e w' => e = .returned (.bool (fits1 p)) ∧ w.alloc (.cells #[.int .i64 p] T) = w' := by
  have := fits_any [p] _ 1 1 _ _ (rd_oneI w p (T := T)) (by unfold maxLen; omega)
  rwa [show fitsAll [p] = fits1 p by simp [fitsAll]] at this

set_option maxRecDepth 100000 in
set_option maxHeartbeats 1000000 in
theorem refMayBe_any (s : ByteArray) (w : World) (hs : s.size ≤ maxLen) :
    Calls Tryz.prog 213 #[.string s] w fun e w' => e = .returned (.bool (refOk s.data.toList)) ∧ w = w' := by
  unfold maxLen at hs
  by_cases h8 : 8 < s.size
  · go_enter Tryz.func213, Tryz.ntmps213
    go_wp2
    go_ret
    refine ⟨ret_bool ?_, rfl⟩
    symm
    unfold refOk
    rw [show decide (s.data.toList.length ≤ 8) = false by rw [Array.length_toList]; simp; exact h8]; rfl
  · have HR : Hid (refOk s.data.toList = refAll s.data.toList) := by
      unfold Hid refOk
      rw [show decide (s.data.toList.length ≤ 8) = true by rw [Array.length_toList]; simp; omega]; rfl
    rw [HR.out]
    go_enter Tryz.func213, Tryz.ntmps213
    go_wp2
    go_loop [10, 3, 4] (fun iv _ _ => ∃ k : Nat, k ≤ s.size ∧ iv = .int .i64 k ∧ Hid (refAll (s.data.toList.take k) = true)) (fun iv _ _ => s.size - (intOf iv).toNat)
    case atStart => exact ⟨0, Nat.zero_le _, rfl, rfl⟩
    case round =>
      obtain ⟨k, hk, rfl, hf⟩ := hrel
      by_cases hlt : k < s.size
      · obtain ⟨hl, hg⟩ := at_list s k hlt
        obtain ⟨x, hx⟩ : ∃ x : Int, x = ((s[k]'hlt).toNat : Int) := ⟨_, rfl⟩
        have hi1 : ∀ w, (Instr.index 9 (.string s) (.int .i64 (k : Int))).run Tryz.prog w = .ok (.int .u8 x) w := fun w => by
          rw [run_index_string w _ _ _ _ Tryz.underlying9, dif_pos (by omega), hx]
          rfl
        obtain ⟨b, HK⟩ : ∃ b, Hid (s.data.toList[k]? = some b ∧ refB b = (decide (65 ≤ x ∧ x ≤ 90) || decide (48 ≤ x ∧ x ≤ 57))) := by
          refine ⟨s[k], by rw [hg]; exact List.getElem?_eq_getElem hl, ?_⟩
          rw [hx]
          unfold refB
          generalize s[k].toNat = m
          rw [Bool.eq_iff_iff]; simp; omega
        clear hx hg hl
        have key : (65 ≤ x ∧ x ≤ 90) ∨ (48 ≤ x ∧ x ≤ 57) ∨ (x < 48 ∨ 57 < x ∧ x < 65 ∨ 90 < x) := by omega
        rcases key with h1 | h1 | h1
        · have c1 : ¬ x < 65 := by omega
          have c2 : ¬ 90 < x := by omega
          go_wp2
          exact ⟨⟨k + 1, by omega, by go_num, refAll_step hf.out HK.out.1 (by rw [HK.out.2]; simp; omega)⟩, by simp [intOf]; omega⟩
        · have c1 : x < 65 := by omega
          have c3 : ¬ x < 48 := by omega
          have c4 : ¬ 57 < x := by omega
          go_wp2
          exact ⟨⟨k + 1, by omega, by go_num, refAll_step hf.out HK.out.1 (by rw [HK.out.2]; simp; omega)⟩, by simp [intOf]; omega⟩
        · have HN : Hid (refAll s.data.toList = false) := refAll_no HK.out.1 (by rw [HK.out.2]; simp; omega)
          by_cases c1 : x < 65
          · by_cases c3 : x < 48
            · go_wp2
              go_ret
              exact ⟨ret_bool HN.out.symm, rfl⟩
            · have c4 : 57 < x := by omega
              go_wp2
              go_ret
              exact ⟨ret_bool HN.out.symm, rfl⟩
          · have c2 : 90 < x := by omega
            have c3 : ¬ x < 48 := by omega
            have c4 : 57 < x := by omega
            go_wp2
            go_ret
            exact ⟨ret_bool HN.out.symm, rfl⟩
      · go_wp2
        go_ret
        exact ⟨ret_bool (refAll_end hf.out (by rw [Array.length_toList]; exact Nat.le_of_not_lt hlt)).symm, rfl⟩

set_option maxRecDepth 100000 in
set_option maxHeartbeats 1000000 in
theorem frontMayBe_any (j : Jrn) (A : Option Addr) (n c : Nat) (w : World) (hs : j.ref.size ≤ maxLen) :
    Calls Tryz.prog 181 #[j.val A n c] w fun e w' => e = .returned (.bool (frontOk j)) ∧ Below w.heap.size w w' := by
  obtain ⟨id, ent, per, ref, L, void⟩ := j
  unfold Jrn.val frontOk
  dsimp only at hs ⊢
  have HS := Lib.hid hs
  clear hs
  cases h1 : inB id 1 999999
  · go_enter Tryz.func181, Tryz.ntmps181
    go_wp2_with (go_at_call 212; refine (within_any _ _ _ _).mono ?_; rintro e w' ⟨rfl, rfl⟩)
    go_ret
    exact ⟨rfl, (Below.refl _ _).alloc (Nat.le_refl _) _⟩
  cases h2 : inB ent 1 9
  · go_enter Tryz.func181, Tryz.ntmps181
    go_wp2_with (go_at_call 212; refine (within_any _ _ _ _).mono ?_; rintro e w' ⟨rfl, rfl⟩)
    go_ret
    exact ⟨rfl, (Below.refl _ _).alloc (Nat.le_refl _) _⟩
  have kv : ∀ (o : Obj) (T : TypeId), Calls Tryz.prog 130 #[.slice (some ⟨w.heap.size + 1, 0, none⟩) 1 1] ((w.alloc o).alloc (.cells #[.int .i64 per] T)) fun e w' => e = .returned (.bool (okP per)) ∧ (w.alloc o).alloc (.cells #[.int .i64 per] T) = w' := fun o T => by
    have := valid_one per (w.alloc o) (T := T)
    rw [show (w.alloc o).heap.size = w.heap.size + 1 by simp] at this
    exact this
  have hB1 : ∀ o1 o2, Below w.heap.size w ((w.alloc o1).alloc o2) := fun o1 o2 => ((Below.refl _ _).alloc (Nat.le_refl _) _).alloc (by simp) _
  cases h3 : okP per
  · go_enter Tryz.func181, Tryz.ntmps181
    go_wp2_with (first | (go_at_call 212; refine (within_any _ _ _ _).mono ?_; rintro e w' ⟨rfl, rfl⟩) | (go_at_call 130; refine (kv _ _).mono ?_; rintro e w' ⟨rfl, rfl⟩))
    go_ret
    exact ⟨rfl, hB1 _ _⟩
  · go_enter Tryz.func181, Tryz.ntmps181
    go_wp2_with (first | (go_at_call 212; refine (within_any _ _ _ _).mono ?_; rintro e w' ⟨rfl, rfl⟩) | (go_at_call 130; refine (kv _ _).mono ?_; rintro e w' ⟨rfl, rfl⟩) | (go_at_call 213; refine (refMayBe_any ref _ HS.out).mono ?_; rintro e w' ⟨rfl, rfl⟩))
    go_ret
    exact ⟨rfl, hB1 _ _⟩

set_option maxRecDepth 100000 in
set_option maxHeartbeats 1000000 in
theorem linesMayBe_any (j : Jrn) (A : Option Addr) (n c B : Nat) (w : World) (h : Rd w B 3 A n (lins j.lines)) (hB : B ≤ w.heap.size) (hn : n ≤ maxLen) :
    Calls Tryz.prog 182 #[j.val A n c] w fun e w' => e = .returned (.bool (linesOk j)) ∧ Below w.heap.size w w' := by
  obtain ⟨id, ent, per, ref, L, void⟩ := j
  unfold Jrn.val linesOk
  unfold maxLen at hn
  dsimp only at h ⊢
  have HL := Lib.hid h.lins_len
  rw [HL.out]
  cases h1 : inB n 2 8
  · go_enter Tryz.func182, Tryz.ntmps182
    go_wp2_with (go_at_call 212; refine (within_any _ _ _ _).mono ?_; rintro e w' ⟨rfl, rfl⟩)
    go_ret
    exact ⟨rfl, (Below.refl _ _).alloc (Nat.le_refl _) _⟩
  · rw [Bool.true_and]
    have hb1 : Below w.heap.size w (w.alloc (.cells #[.int .i64 id, .int .i64 ent, .int .i64 per, .string ref, .slice A n c, .bool void] 104)) := (Below.refl _ _).alloc (Nat.le_refl _) _
    have hr1 := h.far hb1 hB
    have hE : (w.alloc (.cells #[.int .i64 id, .int .i64 ent, .int .i64 per, .string ref, .slice A n c, .bool void] 104)).cell? ⟨w.heap.size, 1, none⟩ = some (.int .i64 ent) := box_cell 1
    have hz1 : w.heap.size < (w.alloc (.cells #[.int .i64 id, .int .i64 ent, .int .i64 per, .string ref, .slice A n c, .bool void] 104)).heap.size := by simp
    go_enter Tryz.func182, Tryz.ntmps182
    go_wp2_with (go_at_call 212; refine (within_any _ _ _ _).mono ?_; rintro e w' ⟨rfl, rfl⟩)
    have HB1 := Lib.hid hb1
    have HR1 := Lib.hid hr1
    have HE := Lib.hid hE
    have HZ := Lib.hid hz1
    clear hb1 hr1 hE hz1 h
    generalize w.alloc (.cells #[.int .i64 id, .int .i64 ent, .int .i64 per, .string ref, .slice A n c, .bool void] 104) = W1 at *
    go_loopw [13, 4] (fun iv _ wr => ∃ k : Nat, k ≤ n ∧ iv = .int .i64 k ∧ Hid (linesAll ent (L.take k) = true) ∧ Below W1.heap.size W1 wr) (fun iv _ _ => n - (intOf iv).toNat)
    case atStart => exact ⟨0, Nat.zero_le _, rfl, rfl, Below.refl _ _⟩
    case round =>
      obtain ⟨k, hk, rfl, hf, hbel⟩ := hrel
      have hzr := hbel.size
      by_cases hlt : k < n
      · obtain ⟨ad, x, rfl, hbk, hx, p1, p2, p3⟩ := (HR1.out.far hbel (by have := HZ.out; omega)).lin hlt
        have hkn : (k : Int) < (n : Int) := by omega
        have p2' := cell_behind p2 (by omega)
        have p3' := cell_behind p3 (by omega)
        have hE2 : wr.cell? ⟨w.heap.size, 1, none⟩ = some (.int .i64 ent) := (hbel.cell (by have := HZ.out; exact this)).trans HE.out
        have hzw : w.heap.size < wr.heap.size := by have := HZ.out; omega
        have HX := Lib.hid hx
        have HBL : Hid (∀ o, Below w.heap.size w (wr.alloc o)) := fun o => HB1.out.trans ((hbel.alloc hzr o).mono HB1.out.size)
        have HBR : Hid (∀ o, Below W1.heap.size W1 (wr.alloc o)) := fun o => hbel.alloc hzr o
        clear hx p2 p3 hbel
        obtain ⟨x1, x2, x3⟩ := x
        cases c1 : inB x1 1 9999
        · go_wp2_with (go_at_call 212; refine (within_any _ _ _ _).mono ?_; rintro e w' ⟨rfl, rfl⟩)
          go_ret
          exact ⟨ret_bool (linesAll_no HX.out (by simp [lineOk, c1])).symm, HBL.out _⟩
        cases c2 : (x2 == 0)
        rotate_left
        · go_wp2_with (go_at_call 212; refine (within_any _ _ _ _).mono ?_; rintro e w' ⟨rfl, rfl⟩)
          go_ret
          exact ⟨ret_bool (linesAll_no HX.out (by simp [lineOk, c2])).symm, HBL.out _⟩
        cases c3 : inB x3 0 9
        · go_wp2_with (go_at_call 212; refine (within_any _ _ _ _).mono ?_; rintro e w' ⟨rfl, rfl⟩)
          go_ret
          exact ⟨ret_bool (linesAll_no HX.out (by simp [lineOk, c3])).symm, HBL.out _⟩
        cases c4 : (x3 == ent)
        rotate_left
        · go_wp2_with (go_at_call 212; refine (within_any _ _ _ _).mono ?_; rintro e w' ⟨rfl, rfl⟩)
          go_ret
          exact ⟨ret_bool (linesAll_no HX.out (by simp [lineOk, c4])).symm, HBL.out _⟩
        · go_wp2_with (go_at_call 212; refine (within_any _ _ _ _).mono ?_; rintro e w' ⟨rfl, rfl⟩)
          exact ⟨⟨k + 1, by omega, by go_num, linesAll_step hf.out HX.out (by simp [lineOk, c1, c2, c3, c4]), HBR.out _⟩, by simp [intOf]; omega⟩
      · go_wp2
        go_ret
        exact ⟨ret_bool (linesAll_end hf.out (by have := HL.out; omega)).symm, HB1.out.trans (hbel.mono HB1.out.size)⟩
end Go.Proofs.YthjpknipnmagkaaGreat
