/-
  Contracts of the reference's refByte, Fits, Check.
-/
import Derived.Test.YthjpknipnmagkaaEntryCheck2
namespace Go.Proofs.Ythjpknipnmagkaa
open Go.RowKit

def refBI (x : Int) : Bool := decide (65 ≤ x ∧ x ≤ 90) || decide (48 ≤ x ∧ x ≤ 57)
set_option maxHeartbeats 400000 in
theorem refByte_any (x : Int) (w : World) :
    Calls Try.prog 37 #[.int .u8 x] w fun e w' => e = .returned (.bool (refBI x)) ∧ w = w' := by
  go_enter Try.func37, Try.ntmps37
  go_wp2
  all_goals
    go_ret
    exact ⟨ret_bool (by unfold refBI; rw [Bool.eq_iff_iff]; simp; try omega), rfl⟩
set_option maxHeartbeats 400000 in
theorem refFits_any (x : Int) (w : World) :
    Calls Try.prog 27 #[.int .i64 x] w fun e w' => e = .returned (.bool (fits1 x)) ∧ w = w' := by
  go_enter Try.func27, Try.ntmps27
  go_wp2
  all_goals
    go_ret
    exact ⟨ret_bool (by unfold fits1; rw [Bool.eq_iff_iff]; simp; try omega), rfl⟩

theorem front_no_id {j : Jrn} (h : j.id < 1 ∨ 999999 < j.id) : checkE j = 1 := checkE_front (by unfold frontOk inB; simp; omega)
theorem front_no_ent {j : Jrn} (h : j.ent < 1 ∨ 9 < j.ent) : checkE j = 1 := checkE_front (by unfold frontOk inB; simp; omega)
theorem front_no_per {j : Jrn} (h : okP j.per = false) : checkE j = 1 := checkE_front (by unfold frontOk; simp [h])
theorem front_no_len {j : Jrn} (h : 8 < j.ref.size) : checkE j = 1 := checkE_front (by
  have : decide (j.ref.data.toList.length ≤ 8) = false := by rw [Array.length_toList]; simp; exact h
  unfold frontOk refOk; rw [this]; simp)
theorem front_no_ref {j : Jrn} (h : refAll j.ref.data.toList = false) : checkE j = 1 := checkE_front (by unfold frontOk refOk; rw [h]; simp)
theorem lines_no_len {j : Jrn} (h : j.lines.length < 2 ∨ 8 < j.lines.length) : checkE j = 1 := checkE_lines (by
  unfold linesOk
  have : inB (j.lines.length : Int) 2 8 = false := by unfold inB; simp; omega
  rw [this]; rfl)
theorem lines_no {j : Jrn} (h : linesAll j.ent j.lines = false) : checkE j = 1 := checkE_lines (by unfold linesOk; rw [h, Bool.and_false])
theorem front_yes {j : Jrn} (h1 : 1 ≤ j.id ∧ j.id ≤ 999999) (h2 : 1 ≤ j.ent ∧ j.ent ≤ 9) (h3 : okP j.per = true) (h4 : j.ref.size ≤ 8) (h5 : refAll j.ref.data.toList = true) : frontOk j = true := by
  have : decide (j.ref.data.toList.length ≤ 8) = true := by rw [Array.length_toList]; simp; exact h4
  unfold frontOk refOk inB; rw [this, h3, h5]; simp; omega
theorem lines_yes {j : Jrn} (h1 : 2 ≤ j.lines.length ∧ j.lines.length ≤ 8) (h2 : linesAll j.ent j.lines = true) : linesOk j = true := by
  unfold linesOk
  have : inB (j.lines.length : Int) 2 8 = true := by unfold inB; simp; omega
  rw [this, h2]; rfl

set_option maxRecDepth 100000 in
set_option maxHeartbeats 2000000 in
theorem refCheck_bad (j : Jrn) (A : Option Addr) (n c : Nat) (w : World) (HL : Hid (j.lines.length = n))
    (h : (j.id < 1 ∨ 999999 < j.id) ∨ (j.ent < 1 ∨ 9 < j.ent) ∨ okP j.per = false ∨ 8 < j.ref.size ∨ n < 2 ∨ 8 < n) :
    Calls Try.prog 13 #[j.val A n c] w fun e w' => e = .returned (.int .i64 (checkE j)) ∧ Below w.heap.size w w' := by
  have hE : checkE j = 1 := by
    rcases h with h | h | h | h | h
    · exact front_no_id h
    · exact front_no_ent h
    · exact front_no_per h
    · exact front_no_len h
    · exact lines_no_len (by rw [HL.out]; exact h)
  rw [hE]
  clear hE
  have kv := fun (p : Int) (w : World) => refValid_any p w
  unfold Jrn.val
  obtain ⟨id, ent, per, ref, L, void⟩ := j
  dsimp only at *
  have HB : Hid (∀ o, Below w.heap.size w (w.alloc o)) := fun o => (Below.refl _ _).alloc (Nat.le_refl _) o
  by_cases a1 : id < 1
  · clear h
    go_enter Try.func13, Try.ntmps13
    go_wp2_with fail
    go_ret
    exact ⟨rfl, HB.out _⟩
  by_cases a2 : 999999 < id
  · clear h
    go_enter Try.func13, Try.ntmps13
    go_wp2_with fail
    go_ret
    exact ⟨rfl, HB.out _⟩
  by_cases a3 : ent < 1
  · clear h
    go_enter Try.func13, Try.ntmps13
    go_wp2_with fail
    go_ret
    exact ⟨rfl, HB.out _⟩
  by_cases a4 : 9 < ent
  · clear h
    go_enter Try.func13, Try.ntmps13
    go_wp2_with fail
    go_ret
    exact ⟨rfl, HB.out _⟩
  cases a5 : okP per
  · clear h
    go_enter Try.func13, Try.ntmps13
    go_wp2_with (go_at_call 28; refine (refValid_any _ _).mono ?_; rintro e w' ⟨rfl, rfl⟩)
    go_ret
    exact ⟨rfl, HB.out _⟩
  by_cases a6 : 8 < ref.size
  · clear h
    go_enter Try.func13, Try.ntmps13
    go_wp2_with (go_at_call 28; refine (refValid_any _ _).mono ?_; rintro e w' ⟨rfl, rfl⟩)
    go_ret
    exact ⟨rfl, HB.out _⟩
  by_cases a7 : n < 2
  · clear h
    go_enter Try.func13, Try.ntmps13
    go_wp2_with (go_at_call 28; refine (refValid_any _ _).mono ?_; rintro e w' ⟨rfl, rfl⟩)
    go_ret
    exact ⟨rfl, HB.out _⟩
  by_cases a8 : 8 < n
  · clear h
    go_enter Try.func13, Try.ntmps13
    go_wp2_with (go_at_call 28; refine (refValid_any _ _).mono ?_; rintro e w' ⟨rfl, rfl⟩)
    go_ret
    exact ⟨rfl, HB.out _⟩
  · exfalso
    rw [a5] at h
    simp at h
    omega
end Go.Proofs.Ythjpknipnmagkaa

