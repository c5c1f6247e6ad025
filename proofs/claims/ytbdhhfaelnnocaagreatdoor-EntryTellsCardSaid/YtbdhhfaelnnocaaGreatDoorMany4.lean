/-
  Several texts, one behind the other: what each holds stands ahead of it.
-/
import Derived.Test.YtbdhhfaelnnocaaGreatDoorMany1
import Derived.Test.YtbdhhfaelnnocaaGreatDoorQuietTail
import Derived.Test.YtbdhhfaelnnocaaGreatDoorEntryCheck2
import Derived.Lib.SmallJoins
import Derived.Test.YtbdhhfaelnnocaaGreatDoorMany2

/-
  Contracts of entry.refText, stateText, lineText.
-/
namespace Go.Proofs.YtbdhhfaelnnocaaGreatDoor
open Go.RowKit Go.Sort

def refT (l : List UInt8) : List UInt8 := if l = [] then [45] else l
def stateT (b : Bool) : List UInt8 := if b = true then [118, 111, 105, 100] else [108, 105, 118, 101]
def lineT (l : Lin) : List UInt8 := Lib.itoa l.acct ++ [58] ++ Lib.itoa l.amt ++ [58] ++ Lib.itoa l.part
def bs (l : List UInt8) : ByteArray := ⟨l.toArray⟩
theorem bs_list (l : List UInt8) : (bs l).data.toList = l := by simp [bs]
theorem bs_back (s : ByteArray) : bs s.data.toList = s := ByteArray.ext (by simp [bs])
theorem bs_size (l : List UInt8) : (bs l).size = l.length := by show l.toArray.size = l.length; simp
theorem bs_append (l m : List UInt8) : bs l ++ bs m = bs (l ++ m) := by
  apply ByteArray.ext
  apply Array.toList_inj.1
  rw [Joins.data_append, bs_list, bs_list, bs_list]

set_option maxHeartbeats 400000 in
theorem refText_any (s : ByteArray) (w : World) :
    Calls Tryz.prog 25 #[.string s] w fun e w' => e = .returned (.string (bs (refT s.data.toList))) ∧ w = w' := by
  cases h : s.toList.isEmpty
  · have HE : Hid (bs (refT s.data.toList) = s) := by
      unfold Hid refT
      rw [ByteArray.toList_eq] at h
      rw [if_neg (by intro e; rw [e] at h; cases h), bs_back]
    rw [HE.out]
    go_enter Tryz.func25, Tryz.ntmps25
    go_wp2
    go_ret
    exact ⟨rfl, rfl⟩
  · have HE : Hid (bs (refT s.data.toList) = ⟨#[45]⟩) := by
      unfold Hid refT
      rw [ByteArray.toList_eq] at h
      rw [if_pos (by simpa using h)]; rfl
    rw [HE.out]
    go_enter Tryz.func25, Tryz.ntmps25
    go_wp2
    go_ret
    exact ⟨rfl, rfl⟩
set_option maxHeartbeats 400000 in
theorem stateText_any (b : Bool) (w : World) :
    Calls Tryz.prog 26 #[.bool b] w fun e w' => e = .returned (.string (bs (stateT b))) ∧ w = w' := by
  cases b
  all_goals
    go_enter Tryz.func26, Tryz.ntmps26
    go_wp2
    go_ret
    exact ⟨rfl, rfl⟩

theorem lineT_eq (l : Lin) : itoaS l.acct ++ ⟨#[58]⟩ ++ itoaS l.amt ++ ⟨#[58]⟩ ++ itoaS l.part = bs (lineT l) := by
  unfold lineT
  rw [← bs_append, ← bs_append, ← bs_append, ← bs_append]; rfl

set_option maxRecDepth 100000 in
set_option maxHeartbeats 1000000 in
theorem lineText_any (l : Lin) (w : World) (G : Glob w) (hl : l.ok64) :
    Calls Tryz.prog 27 #[l.val] w fun e w' => e = .returned (.string (bs (lineT l))) ∧ Below w.heap.size w w' := by
  have HQ := Lib.hid (lineT_eq l)
  obtain ⟨x1, x2, x3⟩ := l
  obtain ⟨⟨p1, p2⟩, ⟨p3, p4⟩, ⟨p5, p6⟩⟩ := hl
  unfold Lin.val
  dsimp only at *
  have s1 := itoaS_size p1 p2
  have s2 := itoaS_size p3 p4
  have s3 := itoaS_size p5 p6
  have n1 : ¬ 9223372036854775807 < (itoaS x1).size + 1 := by omega
  have n2 : ¬ 9223372036854775807 < (itoaS x1).size + 1 + (itoaS x2).size := by omega
  have n3 : ¬ 9223372036854775807 < (itoaS x1).size + 1 + (itoaS x2).size + 1 := by omega
  have n4 : ¬ 9223372036854775807 < (itoaS x1).size + 1 + (itoaS x2).size + 1 + (itoaS x3).size := by omega
  clear s1 s2 s3
  obtain ⟨W1, hW⟩ : ∃ W1, w.alloc (.cells #[.int .i64 x1, .int .i64 x2, .int .i64 x3] 34) = W1 := ⟨_, rfl⟩
  have hb1 : Below w.heap.size w W1 := by rw [← hW]; exact (Below.refl _ _).alloc (Nat.le_refl _) _
  have G1 : Glob W1 := G.below hb1
  have c0 : W1.cell? ⟨w.heap.size, 0, none⟩ = some (.int .i64 x1) := by rw [← hW]; exact box_cell 0
  have c1 : W1.cell? ⟨w.heap.size, 1, none⟩ = some (.int .i64 x2) := by rw [← hW]; exact box_cell 1
  have c2 : W1.cell? ⟨w.heap.size, 2, none⟩ = some (.int .i64 x3) := by rw [← hW]; exact box_cell 2
  have k0 := cell_regrown c0
  have k1 := cell_regrown c1
  have k2 := cell_regrown c2
  have q1 := regrown_calls (w := W1) fun w1 hb => itoa_any x1 w1 (G1.below hb) p1 p2
  have q2 := regrown_calls (w := W1) fun w1 hb => itoa_any x2 w1 (G1.below hb) p3 p4
  have q3 := regrown_calls (w := W1) fun w1 hb => itoa_any x3 w1 (G1.below hb) p5 p6
  have Q1 := Lib.hid q1
  have Q2 := Lib.hid q2
  have Q3 := Lib.hid q3
  have HW := Lib.hid hW
  have HB := Lib.hid hb1
  clear q1 q2 q3 hW hb1 c0 c1 c2 G G1
  rw [← HQ.out]
  go_enter Tryz.func27, Tryz.ntmps27
  go_wp2_with fail
  rw [HW.out]
  refine wp_region_quiet_below (by kernel_rfl) (by kernel_rfl) ?_
  repeat (quiet_step (first | exact Q1.out _ _ | exact Q2.out _ _ | exact Q3.out _ _))
  refine wpQuiet_nil ?_
  intro _ hw'
  obtain ⟨⟨dq, osq⟩, hw''⟩ := hw'
  subst hw''
  go_wp2_with fail
  go_ret
  exact ⟨rfl, HB.out.trans ((below_regrown W1 dq osq).mono HB.out.size)⟩
end Go.Proofs.YtbdhhfaelnnocaaGreatDoor

/-
  Contracts of term.Of, Year, Month, on, Shift.
-/
namespace Go.Proofs.YtbdhhfaelnnocaaGreatDoor
open Go.RowKit

def okD (y m : Int) : Bool := decide (2000 ≤ y ∧ y ≤ 2099 ∧ 1 ≤ m ∧ m ≤ 12)
def ofV (y m : Int) : Int := if okD y m = true then 12 * (y - 2000) + m - 1 else 0
def ofE (y m : Int) : Int := if okD y m = true then 0 else 1
def yearV (p : Int) : Int := if okP p = true then 2000 + p / 12 else 0
def monthV (p : Int) : Int := if okP p = true then p % 12 + 1 else 0
def okS (p n : Int) : Bool := okP p && decide (-p ≤ n ∧ n ≤ 1199 - p)
def shiftV (p n : Int) : Int := if okS p n = true then p + n else 0
def shiftE (p n : Int) : Int := if okS p n = true then 0 else 1

set_option maxHeartbeats 400000 in
theorem of_any (y m : Int) (w : World) :
    Calls Tryz.prog 123 #[.int .i64 y, .int .i64 m] w fun e w' => e = .returned (.tuple #[.int .i64 (ofV y m), .int .i64 (ofE y m)]) ∧ Below w.heap.size w w' := by
  by_cases h : okD y m = true
  · have hb : 2000 ≤ y ∧ y ≤ 2099 ∧ 1 ≤ m ∧ m ≤ 12 := by unfold okD at h; simpa using h
    have hv : okP (12 * (y - 2000) + m - 1) = true := by unfold okP; simp; omega
    have e1 : ofV y m = 12 * (y - 2000) + m - 1 := by unfold ofV; rw [if_pos h]
    have e2 : ofE y m = 0 := by unfold ofE; rw [if_pos h]
    rw [e1, e2]
    clear e1 e2 h
    have HV := Lib.hid hv
    clear hv
    go_enter Tryz.func123, Tryz.ntmps123
    go_wp2_with fail
    refine (valid_one _ w).mono ?_
    rintro e w1 ⟨rfl, rfl⟩
    rw [HV.out]
    go_wp2
    go_ret2
    exact ⟨rfl, (Below.refl _ _).alloc (Nat.le_refl _) _⟩
  · have e1 : ofV y m = 0 := by unfold ofV; rw [if_neg h]
    have e2 : ofE y m = 1 := by unfold ofE; rw [if_neg h]
    have hb : ¬ (2000 ≤ y ∧ y ≤ 2099 ∧ 1 ≤ m ∧ m ≤ 12) := by unfold okD at h; simpa using h
    rw [e1, e2]
    clear e1 e2 h
    by_cases m1 : m < 1
    · go_enter Tryz.func123, Tryz.ntmps123
      go_wp2
      go_ret2
      exact ⟨rfl, Below.refl _ _⟩
    by_cases m2 : 12 < m
    · go_enter Tryz.func123, Tryz.ntmps123
      go_wp2
      go_ret2
      exact ⟨rfl, Below.refl _ _⟩
    by_cases m3 : y < 2000
    · go_enter Tryz.func123, Tryz.ntmps123
      go_wp2
      go_ret2
      exact ⟨rfl, Below.refl _ _⟩
    · have m4 : 2099 < y := by omega
      go_enter Tryz.func123, Tryz.ntmps123
      go_wp2
      go_ret2
      exact ⟨rfl, Below.refl _ _⟩

set_option maxHeartbeats 400000 in
theorem year_any (p : Int) (w : World) :
    Calls Tryz.prog 87 #[.int .i64 p] w fun e w' => e = .returned (.int .i64 (yearV p)) ∧ Below w.heap.size w w' := by
  cases h : okP p
  · have e1 : yearV p = 0 := by unfold yearV; simp [h]
    rw [e1]
    have HV := Lib.hid h
    clear h e1
    go_enter Tryz.func87, Tryz.ntmps87
    go_wp2_with fail
    refine (valid_one p w).mono ?_
    rintro e w1 ⟨rfl, rfl⟩
    rw [HV.out]
    go_wp2
    go_ret
    exact ⟨rfl, (Below.refl _ _).alloc (Nat.le_refl _) _⟩
  · have e1 : yearV p = 2000 + p / 12 := by unfold yearV; simp [h]
    have hb := okP_t h
    rw [e1]
    have HV := Lib.hid h
    clear h e1
    go_enter Tryz.func87, Tryz.ntmps87
    go_wp2_with fail
    refine (valid_one p w).mono ?_
    rintro e w1 ⟨rfl, rfl⟩
    rw [HV.out]
    go_wp2
    go_ret
    exact ⟨rfl, (Below.refl _ _).alloc (Nat.le_refl _) _⟩

set_option maxHeartbeats 400000 in
theorem month_any (p : Int) (w : World) :
    Calls Tryz.prog 88 #[.int .i64 p] w fun e w' => e = .returned (.int .i64 (monthV p)) ∧ Below w.heap.size w w' := by
  cases h : okP p
  · have e1 : monthV p = 0 := by unfold monthV; simp [h]
    rw [e1]
    have HV := Lib.hid h
    clear h e1
    go_enter Tryz.func88, Tryz.ntmps88
    go_wp2_with fail
    refine (valid_one p w).mono ?_
    rintro e w1 ⟨rfl, rfl⟩
    rw [HV.out]
    go_wp2
    go_ret
    exact ⟨rfl, (Below.refl _ _).alloc (Nat.le_refl _) _⟩
  · have e1 : monthV p = p % 12 + 1 := by unfold monthV; simp [h]
    have hb := okP_t h
    rw [e1]
    have HV := Lib.hid h
    clear h e1
    go_enter Tryz.func88, Tryz.ntmps88
    go_wp2_with fail
    refine (valid_one p w).mono ?_
    rintro e w1 ⟨rfl, rfl⟩
    rw [HV.out]
    go_wp2
    go_ret
    exact ⟨rfl, (Below.refl _ _).alloc (Nat.le_refl _) _⟩

end Go.Proofs.YtbdhhfaelnnocaaGreatDoor
