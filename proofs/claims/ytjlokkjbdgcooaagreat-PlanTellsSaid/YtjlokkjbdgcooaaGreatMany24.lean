/-
  Several texts, one behind the other: what each holds stands ahead of it.
-/
import Derived.Test.YtjlokkjbdgcooaaGreatMany16
import Derived.Test.YtjlokkjbdgcooaaGreatMany14
import Derived.LoopN
import Derived.Laws.EntriesVeiled

/-
  Contract of the reference's Copy.
-/
namespace Go.Proofs.YtjlokkjbdgcooaaGreat
open Go.RowKit

set_option maxRecDepth 100000 in
set_option maxHeartbeats 2000000 in
theorem refCopy_any (j : Jrn) (A : Option Addr) (n c B : Nat) (w : World) (h : Rd w B 3 A n (lins j.lines)) (hB : B ≤ w.heap.size) (hn : n ≤ 1000000) :
    Calls Tryz.prog 140 #[j.val A n c] w fun e w' => ∃ A' c', e = .returned (.agg #[.int .i64 j.id, .int .i64 j.ent, .int .i64 j.per, .string j.ref, .slice A' n c', .bool j.void]) ∧ w'.ownsRow w.heap.size 113 3 (.slice A' n c') n (lins j.lines) ∧ Below w.heap.size w w' := by
  obtain ⟨W2, hW2⟩ : ∃ W2, (w.alloc (.cells #[.int .i64 j.id, .int .i64 j.ent, .int .i64 j.per, .string j.ref, .slice A n c, .bool j.void] 111)).alloc (.cells #[.int .i64 0, .int .i64 0, .int .i64 0, .string ⟨#[]⟩, .slice none 0 0, .bool false] 111) = W2 := ⟨_, rfl⟩
  have hb2 : Below w.heap.size w W2 := by rw [← hW2]; exact ((Below.refl _ _).alloc (Nat.le_refl _) _).alloc (by simp) _
  have hz2 : W2.heap.size = w.heap.size + 2 := by rw [← hW2]; simp
  have hbox : JAt W2 w.heap.size j A n c := by
    rw [← hW2]
    exact (Below.heap_alloc _ _ _ (by simp)).trans (heap_new w _)
  have hres : JAt W2 (w.heap.size + 1) zeroJ none 0 0 := by
    rw [← hW2]
    have := heap_new (w.alloc (.cells #[.int .i64 j.id, .int .i64 j.ent, .int .i64 j.per, .string j.ref, .slice A n c, .bool j.void] 111)) (.cells #[.int .i64 0, .int .i64 0, .int .i64 0, .string ⟨#[]⟩, .slice none 0 0, .bool false] 111)
    rw [show (w.alloc (.cells #[.int .i64 j.id, .int .i64 j.ent, .int .i64 j.per, .string j.ref, .slice A n c, .bool j.void] 111)).heap.size = w.heap.size + 1 by simp] at this
    exact this
  obtain ⟨v3, w3, hrun, hown, hg, _⟩ := append_fresh (P := Tryz.prog) (w := W2) (ty := 109) (c := c) infoLin Tryz.underlying109 rfl (by omega) W2.heap.size (.slice none 0 0) 0 [] (World.ownsRow_nil _ _ _ _) (h.far hb2 hB) (linsOne _) (by unfold maxLen; omega) (by omega) (Nat.le_refl _)
  rw [Nat.zero_add, List.nil_append] at hown
  obtain ⟨A', c', rfl⟩ := own_form hown
  have hk : ∀ q, q < W2.heap.size → w3.heap[q]? = W2.heap[q]? := fun q hq => hg.block q hq (fun e => by cases e)
  have hbox3 : JAt w3 w.heap.size j A n c := (hk _ (by omega)).trans hbox
  have hres3 : JAt w3 (w.heap.size + 1) zeroJ none 0 0 := (hk _ (by omega)).trans hres
  have hb3 : Below W2.heap.size W2 w3 := ⟨hg.os, hg.tape, hg.output, hg.size, hk⟩
  obtain ⟨x0, x1, x2, x3, x4, x5⟩ := six_cells hbox3
  have xf := fun o => warm_of hbox3 o
  obtain ⟨y0, y1, y2, y3, y4, y5⟩ := six_cells hres3
  have yf := fun o => warm_of hres3 o
  have HR := Lib.hid hrun
  have HOWN := Lib.hid hown
  have HB : Hid (Below w.heap.size w w3) := hb2.trans (hb3.mono hb2.size)
  have HW2 := Lib.hid hW2
  have hlt3 : w.heap.size + 1 < w3.heap.size := lt_of_blk hres3
  have HZ2 := Lib.hid hz2
  clear hrun hown hg hW2 hb2 hbox hres hbox3 hres3 hb3 hk h hz2
  unfold Jrn.val
  go_enter Tryz.func140, Tryz.ntmps140
  go_wp2_with (at_builtin; rw [HW2.out]; refine wpList_append_run rfl _ _ _ rfl _ _ _ _ rfl rfl HR.out ?_)
  refine bodyPost_ret (v := .agg #[.int .i64 j.id, .int .i64 j.ent, .int .i64 j.per, .string j.ref, .slice A' n c', .bool j.void]) (by simp [results, Tryz.results140, go_sem, y0, y1, y2, y3, y4, y5]) rfl ⟨A', c', rfl, ?_, ?_⟩
  · refine own_base (own_six (own_kept HOWN.out fun q hq ho => ?_) (by have := HZ2.out; omega) _ _ _ _ _ _) (by have := HZ2.out; omega)
    have hge := own_ge HOWN.out q ho
    exact Below.heap_setCell _ _ _ _ (by have := HZ2.out; show q ≠ w.heap.size; omega)
  · exact below_six (HB.out.setCell (p := ⟨w.heap.size, 4, none⟩) (Nat.le_refl _) _) (Nat.le_succ _) _ _ _ _ _ _
end Go.Proofs.YtjlokkjbdgcooaaGreat

/-
  Contracts of the reference's refByte, Fits, Check.
-/
namespace Go.Proofs.YtjlokkjbdgcooaaGreat
open Go.RowKit

def refBI (x : Int) : Bool := decide (65 ≤ x ∧ x ≤ 90) || decide (48 ≤ x ∧ x ≤ 57)
set_option maxHeartbeats 400000 in
theorem refByte_any (x : Int) (w : World) :
    Calls Tryz.prog 139 #[.int .u8 x] w fun e w' => e = .returned (.bool (refBI x)) ∧ w = w' := by
  go_enter Tryz.func139, Tryz.ntmps139
  go_wp2
  all_goals
    go_ret
    exact ⟨ret_bool (by unfold refBI; rw [Bool.eq_iff_iff]; simp; try omega), rfl⟩
set_option maxHeartbeats 400000 in
theorem refFits_any (x : Int) (w : World) :
    Calls Tryz.prog 50 #[.int .i64 x] w fun e w' => e = .returned (.bool (fits1 x)) ∧ w = w' := by
  go_enter Tryz.func50, Tryz.ntmps50
  go_wp2
  all_goals
    go_ret
    exact ⟨ret_bool (by unfold fits1; rw [Bool.eq_iff_iff]; simp; try omega), rfl⟩

theorem front_no_id {j : Jrn} (h : j.id < 1 ∨ 999999 < j.id) : checkE j = 1 := checkE_front (by unfold frontOk inB; simp; omega)
theorem front_no_ent {j : Jrn} (h : j.ent < 1 ∨ 9 < j.ent) : checkE j = 1 := checkE_front (by unfold frontOk inB; simp; omega)
theorem front_no_per {j : Jrn} (h : okP j.per = false) : checkE j = 1 := checkE_front (by unfold frontOk; simp [h])
theorem front_no_len {j : Jrn} (h : 8 < j.ref.size) : checkE j = 1 := checkE_front (by
  have : decide (j.ref.data.toList.length ≤ 8) = false := by rw [Array.length_toList]; simp; exact h
  unfold frontOk refOk; rw [this]; simp)
theorem front_no_ref {j : Jrn} (h : refAll j.ref.data.toList = false) : checkE j = 1 := checkE_front (by unfold frontOk refOk; rw [h]; simp)
theorem lines_no_len {j : Jrn} (h : j.lines.length < 2 ∨ 8 < j.lines.length) : checkE j = 1 := checkE_lines (by
  unfold linesOk
  have : inB (j.lines.length : Int) 2 8 = false := by unfold inB; simp; omega
  rw [this]; rfl)
theorem lines_no {j : Jrn} (h : linesAll j.ent j.lines = false) : checkE j = 1 := checkE_lines (by unfold linesOk; rw [h, Bool.and_false])
theorem front_yes {j : Jrn} (h1 : 1 ≤ j.id ∧ j.id ≤ 999999) (h2 : 1 ≤ j.ent ∧ j.ent ≤ 9) (h3 : okP j.per = true) (h4 : j.ref.size ≤ 8) (h5 : refAll j.ref.data.toList = true) : frontOk j = true := by
  have : decide (j.ref.data.toList.length ≤ 8) = true := by rw [Array.length_toList]; simp; exact h4
  unfold frontOk refOk inB; rw [this, h3, h5]; simp; omega
theorem lines_yes {j : Jrn} (h1 : 2 ≤ j.lines.length ∧ j.lines.length ≤ 8) (h2 : linesAll j.ent j.lines = true) : linesOk j = true := by
  unfold linesOk
  have : inB (j.lines.length : Int) 2 8 = true := by unfold inB; simp; omega
  rw [this, h2]; rfl

set_option maxRecDepth 100000 in
set_option maxHeartbeats 2000000 in
theorem refCheck_bad (j : Jrn) (A : Option Addr) (n c : Nat) (w : World) (HL : Hid (j.lines.length = n))
    (h : (j.id < 1 ∨ 999999 < j.id) ∨ (j.ent < 1 ∨ 9 < j.ent) ∨ okP j.per = false ∨ 8 < j.ref.size ∨ n < 2 ∨ 8 < n) :
    Calls Tryz.prog 58 #[j.val A n c] w fun e w' => e = .returned (.int .i64 (checkE j)) ∧ Below w.heap.size w w' := by
  have hE : checkE j = 1 := by
    rcases h with h | h | h | h | h
    · exact front_no_id h
    · exact front_no_ent h
    · exact front_no_per h
    · exact front_no_len h
    · exact lines_no_len (by rw [HL.out]; exact h)
  rw [hE]
  clear hE
  have kv := fun (p : Int) (w : World) => refValid_any p w
  unfold Jrn.val
  obtain ⟨id, ent, per, ref, L, void⟩ := j
  dsimp only at *
  have HB : Hid (∀ o, Below w.heap.size w (w.alloc o)) := fun o => (Below.refl _ _).alloc (Nat.le_refl _) o
  by_cases a1 : id < 1
  · clear h
    go_enter Tryz.func58, Tryz.ntmps58
    go_wp2_with fail
    go_ret
    exact ⟨rfl, HB.out _⟩
  by_cases a2 : 999999 < id
  · clear h
    go_enter Tryz.func58, Tryz.ntmps58
    go_wp2_with fail
    go_ret
    exact ⟨rfl, HB.out _⟩
  by_cases a3 : ent < 1
  · clear h
    go_enter Tryz.func58, Tryz.ntmps58
    go_wp2_with fail
    go_ret
    exact ⟨rfl, HB.out _⟩
  by_cases a4 : 9 < ent
  · clear h
    go_enter Tryz.func58, Tryz.ntmps58
    go_wp2_with fail
    go_ret
    exact ⟨rfl, HB.out _⟩
  cases a5 : okP per
  · clear h
    go_enter Tryz.func58, Tryz.ntmps58
    go_wp2_with (go_at_call 48; refine (refValid_any _ _).mono ?_; rintro e w' ⟨rfl, rfl⟩)
    go_ret
    exact ⟨rfl, HB.out _⟩
  by_cases a6 : 8 < ref.size
  · clear h
    go_enter Tryz.func58, Tryz.ntmps58
    go_wp2_with (go_at_call 48; refine (refValid_any _ _).mono ?_; rintro e w' ⟨rfl, rfl⟩)
    go_ret
    exact ⟨rfl, HB.out _⟩
  by_cases a7 : n < 2
  · clear h
    go_enter Tryz.func58, Tryz.ntmps58
    go_wp2_with (go_at_call 48; refine (refValid_any _ _).mono ?_; rintro e w' ⟨rfl, rfl⟩)
    go_ret
    exact ⟨rfl, HB.out _⟩
  by_cases a8 : 8 < n
  · clear h
    go_enter Tryz.func58, Tryz.ntmps58
    go_wp2_with (go_at_call 48; refine (refValid_any _ _).mono ?_; rintro e w' ⟨rfl, rfl⟩)
    go_ret
    exact ⟨rfl, HB.out _⟩
  · exfalso
    rw [a5] at h
    simp at h
    omega
end Go.Proofs.YtjlokkjbdgcooaaGreat

/-
  Contract of the reference's Check.
-/
namespace Go.Proofs.YtjlokkjbdgcooaaGreat
open Go.RowKit

theorem refBI_eq (b : UInt8) : refBI (b.toNat : Int) = refB b := by
  unfold refBI refB
  rw [Bool.eq_iff_iff]; simp; omega

set_option maxRecDepth 100000 in
set_option maxHeartbeats 4000000 in
theorem refCheck_any (j : Jrn) (A : Option Addr) (n c B : Nat) (w : World) (h : Rd w B 3 A n (lins j.lines)) (hB : B ≤ w.heap.size) :
    Calls Tryz.prog 58 #[j.val A n c] w fun e w' => e = .returned (.int .i64 (checkE j)) ∧ Below w.heap.size w w' := by
  have HL := Lib.hid h.lins_len
  by_cases hbad : (j.id < 1 ∨ 999999 < j.id) ∨ (j.ent < 1 ∨ 9 < j.ent) ∨ okP j.per = false ∨ 8 < j.ref.size ∨ n < 2 ∨ 8 < n
  · exact refCheck_bad j A n c w HL hbad
  have hper : okP j.per = true := by
    cases hp : okP j.per
    · exact absurd (.inr (.inr (.inl hp))) hbad
    · rfl
  rw [hper] at hbad
  simp only [Bool.true_eq_false, false_or, not_or, Int.not_lt, Nat.not_lt] at hbad
  obtain ⟨⟨a1, a2⟩, ⟨a3, a4⟩, a6, a7, a8⟩ := hbad
  have eR : Hid (refAll j.ref.data.toList = false → checkE j = 1) := front_no_ref
  have eL : Hid (linesAll j.ent j.lines = false → checkE j = 1) := lines_no
  have eE : Hid (refAll j.ref.data.toList = true → linesAll j.ent j.lines = true → checkE j = if fitsL j.lines = true then if sumA j.lines = 0 then 0 else 3 else 2) := fun q1 q2 => checkE_rest (front_yes ⟨a1, a2⟩ ⟨a3, a4⟩ hper a6 q1) (lines_yes (by rw [HL.out]; exact ⟨a7, a8⟩) q2)
  obtain ⟨W1, hW⟩ : ∃ W1, w.alloc (.cells #[.int .i64 j.id, .int .i64 j.ent, .int .i64 j.per, .string j.ref, .slice A n c, .bool j.void] 111) = W1 := ⟨_, rfl⟩
  have hb1 : Below w.heap.size w W1 := by rw [← hW]; exact (Below.refl _ _).alloc (Nat.le_refl _) _
  have HR : Hid (∀ w1, Below W1.heap.size W1 w1 → Rd w1 B 3 A n (lins j.lines)) := fun w1 hb => h.far (hb1.trans (hb.mono hb1.size)) hB
  have HB1 := Lib.hid hb1
  have HW := Lib.hid hW
  clear hb1 hW h
  unfold Jrn.val
  obtain ⟨id, ent, per, ref, L, void⟩ := j
  dsimp only at *
  have c1 : ¬ id < 1 := by omega
  have c2 : ¬ 999999 < id := by omega
  have c3 : ¬ ent < 1 := by omega
  have c4 : ¬ 9 < ent := by omega
  generalize checkE ⟨id, ent, per, ref, L, void⟩ = E at *
  go_enter Tryz.func58, Tryz.ntmps58
  go_wp2_with (go_at_call 48; refine (refValid_any _ _).mono ?_; rintro e w' ⟨rfl, rfl⟩)
  rw [HW.out]
  have bx := box6 HW.out (Below.refl _ _)
  have HBX := Lib.hid bx
  obtain ⟨_, _, _, b3, _, _⟩ := bx
  go_loop [3] (fun iv => ∃ k : Nat, k ≤ ref.size ∧ iv = .int .i64 k ∧ Hid (refAll (ref.data.toList.take k) = true)) (fun iv => ref.size - (intOf iv).toNat)
  case atStart => exact ⟨0, Nat.zero_le _, rfl, rfl⟩
  case round =>
    obtain ⟨k, hk, rfl, hf⟩ := hrel
    by_cases hlt : k < ref.size
    · obtain ⟨hl, hg⟩ := at_list ref k hlt
      obtain ⟨b, hb⟩ : ∃ b : UInt8, ref.data.toList[k]? = some b ∧ ref[k] = b := ⟨_, List.getElem?_eq_getElem hl, hg⟩
      have HK := Lib.hid hb.1
      have hi1 : ∀ w, (Instr.index 9 (.string ref) (.int .i64 (k : Int))).run Tryz.prog w = .ok (.int .u8 (b.toNat : Int)) w := fun w => by
        rw [run_index_string w _ _ _ _ Tryz.underlying9, dif_pos (by omega)]
        have e := hb.2
        simp only [Int.toNat_natCast]
        rw [e]
      have kr := Lib.hid (fun w => refByte_any (b.toNat : Int) w)
      rw [show refBI (b.toNat : Int) = refB b from refBI_eq b] at kr
      clear hg hl hb
      cases hc : refB b
      · go_wp2_with (go_at_call 139; refine (kr.out _).mono ?_; rintro e w' ⟨rfl, rfl⟩)
        go_ret
        exact ⟨ret_int (eR.out (refAll_no HK.out hc)).symm, HB1.out⟩
      · go_wp2_with (go_at_call 139; refine (kr.out _).mono ?_; rintro e w' ⟨rfl, rfl⟩)
        exact ⟨⟨k + 1, by omega, by go_num, refAll_step hf.out HK.out hc⟩, by simp [intOf]; omega⟩
    · have HF : Hid (refAll ref.data.toList = true) := refAll_end hf.out (by rw [Array.length_toList]; exact Nat.le_of_not_lt hlt)
      clear hf
      go_wp2_with fail
      clear b3
      go_loopw [4, 5] (fun iv _ wr => ∃ k : Nat, k ≤ n ∧ iv = .int .i64 k ∧ Hid (linesAll ent (L.take k) = true) ∧ Below W1.heap.size W1 wr) (fun iv _ _ => n - (intOf iv).toNat)
      case atStart => exact ⟨0, Nat.zero_le _, rfl, rfl, Below.refl _ _⟩
      case round =>
        obtain ⟨k2, hk2, rfl, hf, hbel⟩ := hrel
        have hzr := hbel.size
        have HBr : Hid (Below w.heap.size w wr) := HB1.out.trans (hbel.mono HB1.out.size)
        obtain ⟨_, hE2, _, _, hS2, _⟩ := box6 HW.out hbel
        by_cases hlt2 : k2 < n
        · obtain ⟨ad, x, rfl, hbk, hx, p1, p2, p3⟩ := (HR.out wr hbel).lin hlt2
          have hkn : (k2 : Int) < (n : Int) := by omega
          have p2' := cell_behind p2 (by omega)
          have p3' := cell_behind p3 (by omega)
          have hzw : w.heap.size < wr.heap.size := block_of_cell hE2
          have HX := Lib.hid hx
          have HBL : Hid (∀ o, Below w.heap.size w (wr.alloc o)) := fun o => HBr.out.alloc HBr.out.size o
          have HBR : Hid (∀ o, Below W1.heap.size W1 (wr.alloc o)) := fun o => hbel.alloc hzr o
          clear hx p2 p3 hbel
          obtain ⟨x1, x2, x3⟩ := x
          by_cases d1 : x1 < 1
          · go_wp2_with fail
            go_ret
            exact ⟨ret_int (eL.out (linesAll_no HX.out (by simp [lineOk, inB]; omega))).symm, HBL.out _⟩
          by_cases d2 : 9999 < x1
          · go_wp2_with fail
            go_ret
            exact ⟨ret_int (eL.out (linesAll_no HX.out (by simp [lineOk, inB]; omega))).symm, HBL.out _⟩
          cases d3 : (x2 == 0)
          rotate_left
          · go_wp2_with fail
            go_ret
            exact ⟨ret_int (eL.out (linesAll_no HX.out (by simp [lineOk, d3]))).symm, HBL.out _⟩
          by_cases d4 : x3 < 0
          · go_wp2_with fail
            go_ret
            exact ⟨ret_int (eL.out (linesAll_no HX.out (by simp [lineOk, inB]; omega))).symm, HBL.out _⟩
          by_cases d5 : 9 < x3
          · go_wp2_with fail
            go_ret
            exact ⟨ret_int (eL.out (linesAll_no HX.out (by simp [lineOk, inB]; omega))).symm, HBL.out _⟩
          cases d6 : (x3 == ent)
          rotate_left
          · go_wp2_with fail
            go_ret
            exact ⟨ret_int (eL.out (linesAll_no HX.out (by simp [lineOk, d6]))).symm, HBL.out _⟩
          · go_wp2_with fail
            exact ⟨⟨k2 + 1, by omega, by go_num, linesAll_step hf.out HX.out (by simp [lineOk, inB, d3, d6]; omega), HBR.out _⟩, by simp [intOf]; omega⟩
        · have hE := eE.out HF.out (linesAll_end hf.out (by have := HL.out; omega))
          have HE := Lib.hid hE
          have HB3 := Lib.hid hbel
          clear hf hE hbel
          go_wp2_with fail
          clear hE2
          go_loop [7, 6] (fun iv sv => ∃ k : Nat, k ≤ n ∧ iv = .int .i64 k ∧ sv = .int .i64 (sumA (L.take k)) ∧ Hid (fitsL (L.take k) = true)) (fun iv _ => n - (intOf iv).toNat)
          case atStart => exact ⟨0, Nat.zero_le _, rfl, rfl, rfl⟩
          case round =>
            obtain ⟨k3, hk3, rfl, rfl, hf⟩ := hrel
            by_cases hlt3 : k3 < n
            · obtain ⟨ad, x, rfl, hbk, hx, p1, p2, p3⟩ := (HR.out wr HB3.out).lin hlt3
              have hkn : (k3 : Int) < (n : Int) := by omega
              have p2' := cell_behind p2 (by omega)
              have HX := Lib.hid hx
              have hbd := sumA_bound k3 (by have := HL.out; omega) hf.out
              have HST := Lib.hid (sumA_step hx)
              clear hx p1 p3 p2
              obtain ⟨x1, x2, x3⟩ := x
              dsimp only at HST p2'
              generalize sumA (L.take k3) = S at *
              cases q1 : fits1 x2
              · go_wp2_with (go_at_call 50; refine (refFits_any _ _).mono ?_; rintro e w' ⟨rfl, rfl⟩)
                go_ret
                exact ⟨ret_int (by rw [HE.out, if_neg (by rw [fitsL_no HX.out q1]; decide)]), HBr.out⟩
              · have hfit := fits1_iff.1 q1
                go_wp2_with (go_at_call 50; refine (refFits_any _ _).mono ?_; rintro e w' ⟨rfl, rfl⟩)
                refine ⟨⟨k3 + 1, by omega, by go_num, ?_, fitsL_step hf.out HX.out q1⟩, by simp [intOf]; omega⟩
                rw [HST.out]
            · obtain rfl : k3 = n := by omega
              have hfe := fitsL_end hf.out (Nat.le_of_eq HL.out)
              have hE := HE.out
              rw [hfe, if_pos rfl] at hE
              rw [List.take_of_length_le (Nat.le_of_eq HL.out)]
              have HE2 := Lib.hid hE
              clear hE hf hfe
              generalize sumA L = S at *
              cases q1 : (S != 0)
              · go_wp2
                go_ret
                exact ⟨ret_int (by rw [HE2.out, if_pos (by simpa using q1)]), HBr.out⟩
              · go_wp2
                go_ret
                exact ⟨ret_int (by rw [HE2.out, if_neg (by simpa using q1)]), HBr.out⟩
end Go.Proofs.YtjlokkjbdgcooaaGreat
