/-
  Contracts of entry.refText, stateText, lineText.
-/
import Derived.Test.YtakjiehncoankaaDoorGlob
import Derived.Test.YtakjiehncoankaaDoorQuietTail
import Derived.Test.YtakjiehncoankaaDoorEntryCheck2
import Derived.Lib.SmallJoins
namespace Go.Proofs.YtakjiehncoankaaDoor
open Go.RowKit Go.Sort

def refT (l : List UInt8) : List UInt8 := if l = [] then [45] else l
def stateT (b : Bool) : List UInt8 := if b = true then [118, 111, 105, 100] else [108, 105, 118, 101]
def lineT (l : Lin) : List UInt8 := Lib.itoa l.acct ++ [58] ++ Lib.itoa l.amt ++ [58] ++ Lib.itoa l.part
def bs (l : List UInt8) : ByteArray := ⟨l.toArray⟩
theorem bs_list (l : List UInt8) : (bs l).data.toList = l := by simp [bs]
theorem bs_back (s : ByteArray) : bs s.data.toList = s := ByteArray.ext (by simp [bs])
theorem bs_size (l : List UInt8) : (bs l).size = l.length := by show l.toArray.size = l.length; simp
theorem bs_append (l m : List UInt8) : bs l ++ bs m = bs (l ++ m) := by
  apply ByteArray.ext
  apply Array.toList_inj.1
  rw [Joins.data_append, bs_list, bs_list, bs_list]

set_option maxHeartbeats 400000 in
theorem refText_any (s : ByteArray) (w : World) :
    Calls Tryd.prog 29 #[.string s] w fun e w' => e = .returned (.string (bs (refT s.data.toList))) ∧ w = w' := by
  cases h : s.toList.isEmpty
  · have HE : Hid (bs (refT s.data.toList) = s) := by
      unfold Hid refT
      rw [ByteArray.toList_eq] at h
      rw [if_neg (by intro e; rw [e] at h; cases h), bs_back]
    rw [HE.out]
    go_enter Tryd.func29, Tryd.ntmps29
    go_wp2
    go_ret
    exact ⟨rfl, rfl⟩
  · have HE : Hid (bs (refT s.data.toList) = ⟨#[45]⟩) := by
      unfold Hid refT
      rw [ByteArray.toList_eq] at h
      rw [if_pos (by simpa using h)]; rfl
    rw [HE.out]
    go_enter Tryd.func29, Tryd.ntmps29
    go_wp2
    go_ret
    exact ⟨rfl, rfl⟩
set_option maxHeartbeats 400000 in
theorem stateText_any (b : Bool) (w : World) :
    Calls Tryd.prog 30 #[.bool b] w fun e w' => e = .returned (.string (bs (stateT b))) ∧ w = w' := by
  cases b
  all_goals
    go_enter Tryd.func30, Tryd.ntmps30
    go_wp2
    go_ret
    exact ⟨rfl, rfl⟩

def Lin.ok64 (l : Lin) : Prop := (-9223372036854775808 ≤ l.acct ∧ l.acct ≤ 9223372036854775807) ∧ (-9223372036854775808 ≤ l.amt ∧ l.amt ≤ 9223372036854775807) ∧ (-9223372036854775808 ≤ l.part ∧ l.part ≤ 9223372036854775807)
theorem lineT_eq (l : Lin) : itoaS l.acct ++ ⟨#[58]⟩ ++ itoaS l.amt ++ ⟨#[58]⟩ ++ itoaS l.part = bs (lineT l) := by
  unfold lineT
  rw [← bs_append, ← bs_append, ← bs_append, ← bs_append]; rfl

set_option maxRecDepth 100000 in
set_option maxHeartbeats 1000000 in
theorem lineText_any (l : Lin) (w : World) (G : Glob w) (hl : l.ok64) :
    Calls Tryd.prog 31 #[l.val] w fun e w' => e = .returned (.string (bs (lineT l))) ∧ Below w.heap.size w w' := by
  have HQ := Lib.hid (lineT_eq l)
  obtain ⟨x1, x2, x3⟩ := l
  obtain ⟨⟨p1, p2⟩, ⟨p3, p4⟩, ⟨p5, p6⟩⟩ := hl
  unfold Lin.val
  dsimp only at *
  have s1 := itoaS_size p1 p2
  have s2 := itoaS_size p3 p4
  have s3 := itoaS_size p5 p6
  have n1 : ¬ 9223372036854775807 < (itoaS x1).size + 1 := by omega
  have n2 : ¬ 9223372036854775807 < (itoaS x1).size + 1 + (itoaS x2).size := by omega
  have n3 : ¬ 9223372036854775807 < (itoaS x1).size + 1 + (itoaS x2).size + 1 := by omega
  have n4 : ¬ 9223372036854775807 < (itoaS x1).size + 1 + (itoaS x2).size + 1 + (itoaS x3).size := by omega
  clear s1 s2 s3
  obtain ⟨W1, hW⟩ : ∃ W1, w.alloc (.cells #[.int .i64 x1, .int .i64 x2, .int .i64 x3] 39) = W1 := ⟨_, rfl⟩
  have hb1 : Below w.heap.size w W1 := by rw [← hW]; exact (Below.refl _ _).alloc (Nat.le_refl _) _
  have G1 : Glob W1 := G.below hb1
  have c0 : W1.cell? ⟨w.heap.size, 0, none⟩ = some (.int .i64 x1) := by rw [← hW]; exact box_cell 0
  have c1 : W1.cell? ⟨w.heap.size, 1, none⟩ = some (.int .i64 x2) := by rw [← hW]; exact box_cell 1
  have c2 : W1.cell? ⟨w.heap.size, 2, none⟩ = some (.int .i64 x3) := by rw [← hW]; exact box_cell 2
  have k0 := cell_regrown c0
  have k1 := cell_regrown c1
  have k2 := cell_regrown c2
  have q1 := regrown_calls (w := W1) fun w1 hb => itoa_any x1 w1 (G1.below hb) p1 p2
  have q2 := regrown_calls (w := W1) fun w1 hb => itoa_any x2 w1 (G1.below hb) p3 p4
  have q3 := regrown_calls (w := W1) fun w1 hb => itoa_any x3 w1 (G1.below hb) p5 p6
  have Q1 := Lib.hid q1
  have Q2 := Lib.hid q2
  have Q3 := Lib.hid q3
  have HW := Lib.hid hW
  have HB := Lib.hid hb1
  clear q1 q2 q3 hW hb1 c0 c1 c2 G G1
  rw [← HQ.out]
  go_enter Tryd.func31, Tryd.ntmps31
  go_wp2_with fail
  rw [HW.out]
  refine wp_region_quiet_below (by kernel_rfl) (by kernel_rfl) ?_
  repeat (quiet_step (first | exact Q1.out _ _ | exact Q2.out _ _ | exact Q3.out _ _))
  refine wpQuiet_nil ?_
  intro _ hw'
  obtain ⟨⟨dq, osq⟩, hw''⟩ := hw'
  subst hw''
  go_wp2_with fail
  go_ret
  exact ⟨rfl, HB.out.trans ((below_regrown W1 dq osq).mono HB.out.size)⟩
end Go.Proofs.YtakjiehncoankaaDoor
