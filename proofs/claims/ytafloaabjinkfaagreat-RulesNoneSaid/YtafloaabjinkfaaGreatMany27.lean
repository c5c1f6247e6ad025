/-
  Several texts, one behind the other: what each holds stands ahead of it.
-/
import Derived.Test.YtafloaabjinkfaaGreatMany11
import Derived.Test.YtafloaabjinkfaaGreatMany3
import Derived.Test.YtafloaabjinkfaaGreatMany17
import Derived.Lib.QuietBelow
import Derived.BigQuiet
import Derived.Test.YtafloaabjinkfaaGreatMany2
import Derived.Test.YtafloaabjinkfaaGreatOwn

/-
  A wish in memory; contracts of those of rules' questions that change nothing: hasParts, mayBe, isNotVoid, keepsEntity, periodIsOpen, oldPeriodIsOpen.
-/
namespace Go.Proofs.YtafloaabjinkfaaGreat
open Go.RowKit Go.Sort

/-- A wish in its block: the journal that is asked for, the one that was found, the book that would be. -/
structure WishAt (w : World) (q : Nat) (cp gp bp : Value) (id : Int) (j o : JR) (tv : Value) : Prop where
  blk : w.heap[q]? = some (.cells #[cp, gp, bp, .int .i64 id, .int .i64 j.j.id, .int .i64 j.j.ent, .int .i64 j.j.per, .string j.j.ref, .slice j.A j.j.lines.length j.c, .bool j.j.void,
    .int .i64 o.j.id, .int .i64 o.j.ent, .int .i64 o.j.per, .string o.j.ref, .slice o.A o.j.lines.length o.c, .bool o.j.void, tv] 85 (0, 0))
section
variable {w w' : World} {q : Nat} {cp gp bp tv : Value} {id : Int} {j o : JR}
theorem WishAt.lt (h : WishAt w q cp gp bp id j o tv) : q < w.heap.size := lt_of_blk h.blk
theorem WishAt.kept (h : WishAt w q cp gp bp id j o tv) (hk : w'.heap[q]? = w.heap[q]?) : WishAt w' q cp gp bp id j o tv := ⟨hk.trans h.blk⟩
theorem WishAt.below (h : WishAt w q cp gp bp id j o tv) (hb : Below w.heap.size w w') : WishAt w' q cp gp bp id j o tv := h.kept (hb.block q h.lt)
theorem WishAt.head (h : WishAt w q cp gp bp id j o tv) : w.cell? ⟨q, 0, none⟩ = some cp ∧ w.cell? ⟨q, 1, none⟩ = some gp ∧ w.cell? ⟨q, 2, none⟩ = some bp ∧ w.cell? ⟨q, 3, none⟩ = some (.int .i64 id) ∧ w.cell? ⟨q, 16, none⟩ = some tv :=
  ⟨cell_of h.blk 0, cell_of h.blk 1, cell_of h.blk 2, cell_of h.blk 3, cell_of h.blk 16⟩
theorem WishAt.jrn (h : WishAt w q cp gp bp id j o tv) : w.cell? ⟨q, 4, none⟩ = some (.int .i64 j.j.id) ∧ w.cell? ⟨q, 5, none⟩ = some (.int .i64 j.j.ent) ∧ w.cell? ⟨q, 6, none⟩ = some (.int .i64 j.j.per) ∧ w.cell? ⟨q, 7, none⟩ = some (.string j.j.ref) ∧ w.cell? ⟨q, 8, none⟩ = some (.slice j.A j.j.lines.length j.c) ∧ w.cell? ⟨q, 9, none⟩ = some (.bool j.j.void) :=
  ⟨cell_of h.blk 4, cell_of h.blk 5, cell_of h.blk 6, cell_of h.blk 7, cell_of h.blk 8, cell_of h.blk 9⟩
theorem WishAt.old (h : WishAt w q cp gp bp id j o tv) : w.cell? ⟨q, 10, none⟩ = some (.int .i64 o.j.id) ∧ w.cell? ⟨q, 11, none⟩ = some (.int .i64 o.j.ent) ∧ w.cell? ⟨q, 12, none⟩ = some (.int .i64 o.j.per) ∧ w.cell? ⟨q, 13, none⟩ = some (.string o.j.ref) ∧ w.cell? ⟨q, 14, none⟩ = some (.slice o.A o.j.lines.length o.c) ∧ w.cell? ⟨q, 15, none⟩ = some (.bool o.j.void) :=
  ⟨cell_of h.blk 10, cell_of h.blk 11, cell_of h.blk 12, cell_of h.blk 13, cell_of h.blk 14, cell_of h.blk 15⟩
theorem WishAt.warm (h : WishAt w q cp gp bp id j o tv) (i : Nat) : w.frozen? ⟨q, i, none⟩ = false := warm_of h.blk i
end

set_option maxRecDepth 100000 in
set_option maxHeartbeats 400000 in
theorem hasParts_any (q : Nat) (a1 a2 a3 : Addr) (tv : Value) (id : Int) (j o : JR) (w : World) (h : WishAt w q (.pointer (some a1)) (.pointer (some a2)) (.pointer (some a3)) id j o tv) :
    Calls Tryz.prog 41 #[.pointer (some ⟨q, 0, none⟩)] w fun e w' => e = .returned (.int .i64 0) ∧ w = w' := by
  obtain ⟨p0, p1, p2, _, _⟩ := h.head
  clear h
  go_enter Tryz.func41, Tryz.ntmps41
  go_wp2_with fail
  go_ret
  exact ⟨rfl, rfl⟩
/-- A part is missing. -/
def Lacks (cp gp bp : Value) : Prop := cp = .pointer none ∨ (∃ a, cp = .pointer (some a)) ∧ gp = .pointer none ∨ (∃ a, cp = .pointer (some a)) ∧ (∃ b, gp = .pointer (some b)) ∧ bp = .pointer none
set_option maxRecDepth 100000 in
set_option maxHeartbeats 400000 in
theorem hasParts_no (q : Nat) (cp gp bp tv : Value) (id : Int) (j o : JR) (w : World) (h : WishAt w q cp gp bp id j o tv) (hn : Lacks cp gp bp) :
    Calls Tryz.prog 41 #[.pointer (some ⟨q, 0, none⟩)] w fun e w' => e = .returned (.int .i64 1) ∧ w = w' := by
  obtain ⟨p0, p1, p2, _, _⟩ := h.head
  clear h
  rcases hn with rfl | ⟨⟨a, rfl⟩, rfl⟩ | ⟨⟨a, rfl⟩, ⟨b, rfl⟩, rfl⟩
  all_goals
    go_enter Tryz.func41, Tryz.ntmps41
    go_wp2_with fail
    go_ret
    exact ⟨rfl, rfl⟩

set_option maxRecDepth 100000 in
set_option maxHeartbeats 400000 in
theorem mayBe_any (q B : Nat) (cp gp bp tv : Value) (id : Int) (j o : JR) (w : World) (h : WishAt w q cp gp bp id j o tv) (hR : Rd w B 3 j.A j.j.lines.length (lins j.j.lines)) (hB : B ≤ w.heap.size) (hn : j.j.lines.length ≤ maxLen) (hs : j.j.ref.size ≤ maxLen) :
    Calls Tryz.prog 48 #[.pointer (some ⟨q, 0, none⟩)] w fun e w' => e = .returned (.int .i64 (checkE j.j)) ∧ Below w.heap.size w w' := by
  obtain ⟨p4, p5, p6, p7, p8, p9⟩ := h.jrn
  have kc := Lib.hid (check_any j.j j.A j.j.lines.length j.c B w hR hB hn hs)
  unfold Jrn.val at kc
  clear h hR
  go_enter Tryz.func48, Tryz.ntmps48
  go_wp2_with fail
  refine kc.out.mono ?_
  rintro e w1 ⟨rfl, hb⟩
  have HB := Lib.hid hb
  clear hb
  go_wp2_with fail
  go_ret
  exact ⟨rfl, HB.out⟩

set_option maxRecDepth 100000 in
set_option maxHeartbeats 400000 in
theorem isNotVoid_any (q : Nat) (cp gp bp tv : Value) (id : Int) (j o : JR) (w : World) (h : WishAt w q cp gp bp id j o tv) :
    Calls Tryz.prog 51 #[.pointer (some ⟨q, 0, none⟩)] w fun e w' => e = .returned (.int .i64 (if j.j.void = true then 1 else 0)) ∧ w = w' := by
  obtain ⟨p4, p5, p6, p7, p8, p9⟩ := h.jrn
  clear h
  cases hv : j.j.void
  all_goals
    rw [hv] at p9
    go_enter Tryz.func51, Tryz.ntmps51
    go_wp2_with fail
    go_ret
    exact ⟨rfl, rfl⟩

set_option maxRecDepth 100000 in
set_option maxHeartbeats 1000000 in
theorem keepsEntity_any (q : Nat) (cp gp bp tv : Value) (id : Int) (j o : JR) (w : World) (h : WishAt w q cp gp bp id j o tv) :
    Calls Tryz.prog 61 #[.pointer (some ⟨q, 0, none⟩)] w fun e w' => e = .returned (.int .i64 (if j.j.ent = o.j.ent then 0 else 1)) ∧ Below w.heap.size w w' := by
  obtain ⟨p4, p5, p6, p7, p8, p9⟩ := h.jrn
  obtain ⟨p10, p11, p12, p13, p14, p15⟩ := h.old
  clear h
  generalize j.j.ent = x at *
  generalize o.j.ent = y at *
  by_cases hxy : x = y
  · have ht : (x != y) = false := by simp [hxy]
    rw [if_pos hxy]
    go_enter Tryz.func61, Tryz.ntmps61
    go_wp2_with fail
    go_quiet (fail)
    go_wp2_with fail
    go_ret
    exact ⟨rfl, Drew.below ⟨_, rfl⟩⟩
  · have ht : (x != y) = true := by simp [hxy]
    rw [if_neg hxy]
    go_enter Tryz.func61, Tryz.ntmps61
    go_wp2_with fail
    go_quiet (fail)
    go_wp2_with fail
    go_ret
    exact ⟨rfl, Drew.below ⟨_, rfl⟩⟩

set_option maxRecDepth 100000 in
set_option maxHeartbeats 1000000 in
theorem periodIsOpen_any (q g B : Nat) (cp bp tv v : Value) (l : List Trio) (id : Int) (j o : JR) (w : World) (h : WishAt w q cp (.pointer (some ⟨g, 0, none⟩)) bp id j o tv) (hG : GatesAt w B g v l) :
    Calls Tryz.prog 50 #[.pointer (some ⟨q, 0, none⟩)] w fun e w' => e = .returned (.int .i64 (mayT l j.j.ent j.j.per)) ∧ Below w.heap.size w w' := by
  obtain ⟨_, p1, _, _, _⟩ := h.head
  obtain ⟨p4, p5, p6, p7, p8, p9⟩ := h.jrn
  have Q := Lib.hid (regrown_calls (w := w) fun w1 hb => may_any B g v l j.j.ent j.j.per w1 (hG.below hb))
  replace p1 := cell_regrown p1; replace p5 := cell_regrown p5; replace p6 := cell_regrown p6
  clear h hG
  go_enter Tryz.func50, Tryz.ntmps50
  go_wp2_with fail
  refine wp_region_quiet_below (by kernel_rfl) (by kernel_rfl) ?_
  repeat (go_big_quiet_step (fail))
  go_big_quiet_want
  go_big_quiet_op
  go_big_quiet_call (exact Q.out _ _)
  repeat (go_big_quiet_step (fail))
  refine wpQuiet_nil ?_
  intro _ hw'
  obtain ⟨⟨dq, osq⟩, hw''⟩ := hw'
  subst hw''
  have HB := Lib.hid (below_regrown w dq osq)
  go_wp2_with fail
  go_ret
  exact ⟨rfl, HB.out⟩
set_option maxRecDepth 100000 in
set_option maxHeartbeats 1000000 in
theorem oldPeriodIsOpen_any (q g B : Nat) (cp bp tv v : Value) (l : List Trio) (id : Int) (j o : JR) (w : World) (h : WishAt w q cp (.pointer (some ⟨g, 0, none⟩)) bp id j o tv) (hG : GatesAt w B g v l) :
    Calls Tryz.prog 60 #[.pointer (some ⟨q, 0, none⟩)] w fun e w' => e = .returned (.int .i64 (mayT l o.j.ent o.j.per)) ∧ Below w.heap.size w w' := by
  obtain ⟨_, p1, _, _, _⟩ := h.head
  obtain ⟨p10, p11, p12, p13, p14, p15⟩ := h.old
  have Q := Lib.hid (regrown_calls (w := w) fun w1 hb => may_any B g v l o.j.ent o.j.per w1 (hG.below hb))
  replace p1 := cell_regrown p1; replace p11 := cell_regrown p11; replace p12 := cell_regrown p12
  clear h hG
  go_enter Tryz.func60, Tryz.ntmps60
  go_wp2_with fail
  refine wp_region_quiet_below (by kernel_rfl) (by kernel_rfl) ?_
  repeat (go_big_quiet_step (fail))
  go_big_quiet_want
  go_big_quiet_op
  go_big_quiet_call (exact Q.out _ _)
  repeat (go_big_quiet_step (fail))
  refine wpQuiet_nil ?_
  intro _ hw'
  obtain ⟨⟨dq, osq⟩, hw''⟩ := hw'
  subst hw''
  have HB := Lib.hid (below_regrown w dq osq)
  go_wp2_with fail
  go_ret
  exact ⟨rfl, HB.out⟩
end Go.Proofs.YtafloaabjinkfaaGreat

/-
  A journal that is stored into a block, cell by cell. No code.
-/
namespace Go.Proofs.YtafloaabjinkfaaGreat
open Go.RowKit

theorem six_jat {w : World} {b : Nat} {a0 a1 a2 a3 a4 a5 : Value} (j : Jrn) (A : Option Addr) (n c : Nat) (h : w.heap[b]? = some (.cells #[a0, a1, a2, a3, a4, a5] 29 (0, 0))) :
    JAt ((((((w.setCell ⟨b, 0, none⟩ (.int .i64 j.id)).setCell ⟨b, 1, none⟩ (.int .i64 j.ent)).setCell ⟨b, 2, none⟩ (.int .i64 j.per)).setCell ⟨b, 3, none⟩ (.string j.ref)).setCell ⟨b, 4, none⟩ (.slice A n c)).setCell ⟨b, 5, none⟩ (.bool j.void)) b j A n c :=
  set_here (set_here (set_here (set_here (set_here (set_here h)))))
theorem six_below {w w' : World} {B b o : Nat} (h : Below B w w') (hB : B ≤ b) (u0 u1 u2 u3 u4 u5 : Value) : Below B w ((((((w'.setCell ⟨b, o, none⟩ u0).setCell ⟨b, o + 1, none⟩ u1).setCell ⟨b, o + 2, none⟩ u2).setCell ⟨b, o + 3, none⟩ u3).setCell ⟨b, o + 4, none⟩ u4).setCell ⟨b, o + 5, none⟩ u5) :=
  (((((h.setCell hB _).setCell hB _).setCell hB _).setCell hB _).setCell hB _).setCell hB _
theorem six_heap {w : World} {b k o : Nat} (h : k ≠ b) (u0 u1 u2 u3 u4 u5 : Value) : ((((((w.setCell ⟨b, o, none⟩ u0).setCell ⟨b, o + 1, none⟩ u1).setCell ⟨b, o + 2, none⟩ u2).setCell ⟨b, o + 3, none⟩ u3).setCell ⟨b, o + 4, none⟩ u4).setCell ⟨b, o + 5, none⟩ u5).heap[k]? = w.heap[k]? := by
  refine (Below.heap_setCell _ _ _ _ h).trans ((Below.heap_setCell _ _ _ _ h).trans ((Below.heap_setCell _ _ _ _ h).trans ((Below.heap_setCell _ _ _ _ h).trans ((Below.heap_setCell _ _ _ _ h).trans (Below.heap_setCell _ _ _ _ h)))))
theorem six_own {w : World} {B N b n size o : Nat} {e : TypeId} {v : Value} {xs : List Value} (h : w.ownsRow N e size v n xs) (hb : b < N) (u0 u1 u2 u3 u4 u5 : Value) : ((((((w.setCell ⟨b, o, none⟩ u0).setCell ⟨b, o + 1, none⟩ u1).setCell ⟨b, o + 2, none⟩ u2).setCell ⟨b, o + 3, none⟩ u3).setCell ⟨b, o + 4, none⟩ u4).setCell ⟨b, o + 5, none⟩ u5).ownsRow N e size v n xs :=
  own_kept h fun k _ hk2 => six_heap (by have := own_ge h k hk2; omega) _ _ _ _ _ _
end Go.Proofs.YtafloaabjinkfaaGreat
