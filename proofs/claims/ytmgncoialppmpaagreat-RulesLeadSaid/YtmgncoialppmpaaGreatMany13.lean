/-
  Several texts, one behind the other: what each holds stands ahead of it.
-/
import Derived.Test.YtmgncoialppmpaaGreatGatesFind
import Derived.Test.YtmgncoialppmpaaGreatMany6
import Derived.Test.YtmgncoialppmpaaGreatMany3
import Derived.Test.YtmgncoialppmpaaGreatMany11
import Derived.Test.YtmgncoialppmpaaGreatMany5
import Derived.Lib.QuietBelow
import Derived.BigQuiet
import Derived.Test.YtmgncoialppmpaaGreatMany4
import Derived.Test.YtmgncoialppmpaaGreatMany2

/-
  Gates in memory; (*Gates).place.
-/
namespace Go.Proofs.YtmgncoialppmpaaGreat
open Go.RowKit

/-- Gates: their variable, and their rows in a row of its own. -/
structure GatesAt (w : World) (B c : Nat) (v : Value) (l : List Trio) : Prop where
  blk : w.heap[c]? = some (.cells #[v] 117 (0, 0))
  low : B ≤ c
  own : w.ownsRow B 113 3 v l.length (trios l)
  good : GoodT l
/-- The blocks of gates. -/
def InGates (c : Nat) (v : Value) (k : Nat) : Prop := k = c ∨ v.ownBlock = some k
section
variable {w w' : World} {B c : Nat} {v : Value} {l : List Trio}
theorem GatesAt.cell (h : GatesAt w B c v l) : w.cell? ⟨c, 0, none⟩ = some v := by rw [cell_of h.blk]; rfl
theorem GatesAt.warm (h : GatesAt w B c v l) : w.frozen? ⟨c, 0, none⟩ = false := warm_of h.blk 0
theorem GatesAt.lt (h : GatesAt w B c v l) : c < w.heap.size := lt_of_blk h.blk
theorem GatesAt.kept (h : GatesAt w B c v l) (hk : ∀ k, k < w.heap.size → InGates c v k → w'.heap[k]? = w.heap[k]?) : GatesAt w' B c v l :=
  ⟨(hk c h.lt (.inl rfl)).trans h.blk, h.low, own_kept h.own fun k hk1 hk2 => hk k hk1 (.inr hk2), h.good⟩
theorem GatesAt.below (h : GatesAt w B c v l) (hb : Below w.heap.size w w') : GatesAt w' B c v l := h.kept fun k hk _ => hb.block k hk
theorem GatesAt.but {S : Nat → Prop} (h : GatesAt w B c v l) (hb : But S w w') (hs : ∀ k, InGates c v k → ¬ S k) : GatesAt w' B c v l := h.kept fun k hk hi => hb.block k hk (hs k hi)
theorem GatesAt.form (h : GatesAt w B c v l) : ∃ A cap, v = .slice A l.length cap := own_form h.own
theorem GatesAt.ge (h : GatesAt w B c v l) : ∀ k, InGates c v k → B ≤ k := by
  rintro k (rfl | hk)
  · exact h.low
  · exact own_ge h.own k hk
theorem GatesAt.ltB (h : GatesAt w B c v l) : ∀ k, InGates c v k → k < w.heap.size := by
  rintro k (rfl | hk)
  · exact h.lt
  · exact own_lt h.own k hk
theorem GatesAt.apart (h : GatesAt w B c v l) : v.ownBlock ≠ some c := own_ne h.own h.blk (by decide)
end

set_option maxRecDepth 100000 in
theorem place_anyGt (B c : Nat) (v : Value) (l : List Trio) (en pe : Int) (w : World) (h : GatesAt w B c v l) (ho : okT en pe = true) :
    Calls Tryz.prog 181 #[.pointer (some ⟨c, 0, none⟩), .int .i64 en, .int .i64 pe] w fun e w' => e = .returned (.tuple #[.int .i64 (posT l (en * 2000 + pe) : Nat), .bool (findT l (en * 2000 + pe)).isSome]) ∧ Below w.heap.size w w' := by
  have hc := h.cell
  obtain ⟨A, cap, rfl⟩ := h.form
  have ks := search_anyGt l en pe ho A l.length cap _ w (rd_of_own h.own) (Nat.le_refl _) (by have := h.good.len; omega) h.good
  have HG := Lib.hid h
  clear h ho
  generalize (posT l (en * 2000 + pe)) = P at *
  generalize (findT l (en * 2000 + pe)).isSome = S at *
  go_enter Tryz.func181, Tryz.ntmps181
  go_wp2_with fail
  refine ks.mono ?_
  rintro e w' ⟨rfl, hb⟩
  go_wp2
  go_ret2
  exact ⟨rfl, hb⟩
end Go.Proofs.YtmgncoialppmpaaGreat

/-
  Contracts of gates' known, (*Gates).State, May.
-/
namespace Go.Proofs.YtmgncoialppmpaaGreat
open Go.RowKit

theorem okT_lo {e p : Int} (h : e < 1) : okT e p = false := by simp [okT]; omega
theorem okT_hi {e p : Int} (h : 9 < e) : okT e p = false := by simp [okT]; omega
theorem okT_p {e p : Int} (h1 : ¬ e < 1) (h2 : ¬ 9 < e) : okT e p = okP p := by
  unfold okT okP
  rw [Bool.eq_iff_iff]
  simp
  omega

set_option maxRecDepth 100000 in
set_option maxHeartbeats 400000 in
theorem known_anyGt (en pe : Int) (w : World) : Calls Tryz.prog 98 #[.int .i64 en, .int .i64 pe] w fun e w' => e = .returned (.bool (okT en pe)) ∧ Below w.heap.size w w' := by
  by_cases h1 : en < 1
  · rw [okT_lo h1]
    go_enter Tryz.func98, Tryz.ntmps98
    go_wp2_with fail
    go_ret
    exact ⟨rfl, Below.refl _ _⟩
  by_cases h2 : 9 < en
  · rw [okT_hi h2]
    go_enter Tryz.func98, Tryz.ntmps98
    go_wp2_with fail
    go_ret
    exact ⟨rfl, Below.refl _ _⟩
  rw [okT_p h1 h2]
  have kv := Lib.hid (valid_one pe w (T := 3))
  generalize okP pe = b at *
  go_enter Tryz.func98, Tryz.ntmps98
  go_wp2_with fail
  refine kv.out.mono ?_
  rintro e w' ⟨rfl, rfl⟩
  go_wp2_with fail
  go_ret
  exact ⟨rfl, (Below.refl _ _).alloc (Nat.le_refl _) _⟩

/-- A row at a place, as a walk reads it. -/
theorem GatesAt.at {w : World} {B c p : Nat} {v : Value} {l : List Trio} {a : Trio} (h : GatesAt w B c v l) (hp : l[p]? = some a) : ∃ g cap, v = .slice (some ⟨g, 0, none⟩) l.length cap ∧ p < l.length ∧ g < w.heap.size ∧ B ≤ g ∧
    w.cell? ⟨g, p * 3, none⟩ = some (.int .i64 a.x) ∧ w.cell? ⟨g, p * 3 + 1, none⟩ = some (.int .i64 a.y) ∧ w.cell? ⟨g, p * 3 + 2, none⟩ = some (.int .i64 a.z) ∧ ∀ j, w.frozen? ⟨g, j, none⟩ = false := by
  have hl := (List.getElem?_eq_some_iff.1 hp).1
  rcases h.own.2 with ⟨_, h1⟩ | ⟨g, cap, cur, rfl, hB, hh, _⟩
  · omega
  · obtain ⟨h1, h2, h3⟩ := trios_at l p a hp
    exact ⟨g, cap, rfl, hl, lt_of_blk hh, hB, own_cell h.own h1, own_cell h.own h2, own_cell h.own h3, fun j => warm_of hh j⟩

set_option maxRecDepth 100000 in
set_option maxHeartbeats 400000 in
theorem state_any (B c : Nat) (v : Value) (l : List Trio) (en pe : Int) (w : World) (h : GatesAt w B c v l) :
    Calls Tryz.prog 99 #[.pointer (some ⟨c, 0, none⟩), .int .i64 en, .int .i64 pe] w fun e w' => e = .returned (.int .i64 (stT l en pe)) ∧ Below w.heap.size w w' := by
  have HC := Lib.hid h
  have hclt := h.lt
  have kk := known_anyGt en pe w
  cases ho : okT en pe
  · rw [show stT l en pe = 2 by simp [stT, ho]]
    rw [ho] at kk
    clear ho h
    go_enter Tryz.func99, Tryz.ntmps99
    go_wp2_with fail
    refine kk.mono ?_
    rintro e w1 ⟨rfl, hb⟩
    go_wp2_with fail
    go_ret
    exact ⟨rfl, hb⟩
  · rw [ho] at kk
    have kp := Lib.hid (fun w1 (hb : Below w.heap.size w w1) => place_anyGt B c v l en pe w1 (HC.out.below hb) ho)
    rw [show stT l en pe = zOf (findT l (en * 2000 + pe)) by simp [stT, ho]]
    cases hf : findT l (en * 2000 + pe) with
    | none =>
      rw [hf] at kp
      clear ho h hf
      unfold zOf
      go_enter Tryz.func99, Tryz.ntmps99
      go_wp2_with fail
      refine kk.mono ?_
      rintro e w1 ⟨rfl, hb⟩
      go_wp2_with fail
      refine (kp.out w1 hb).mono ?_
      rintro e w2 ⟨rfl, hb2⟩
      have HB : Hid (Below w.heap.size w w2) := hb.trans (hb2.mono hb.size)
      clear hb hb2
      go_wp2_with fail
      go_ret
      exact ⟨rfl, HB.out⟩
    | some a =>
      rw [hf] at kp
      obtain ⟨hat, _⟩ := find_some_atGt h.good.1 hf
      have HAT := Lib.hid hat
      have hlen := h.good.len
      clear ho h hf hat
      unfold zOf
      generalize posT l (en * 2000 + pe) = p at *
      go_enter Tryz.func99, Tryz.ntmps99
      go_wp2_with fail
      refine kk.mono ?_
      rintro e w1 ⟨rfl, hb⟩
      go_wp2_with fail
      refine (kp.out w1 hb).mono ?_
      rintro e w2 ⟨rfl, hb2⟩
      have HB : Hid (Below w.heap.size w w2) := hb.trans (hb2.mono hb.size)
      have hC2 := HC.out.below HB.out
      have hcc := hC2.cell
      obtain ⟨g, cap, rfl, hpl, hgl, _, hc0, hc1, hc2, _⟩ := hC2.at HAT.out
      have hpI : (p : Int) < (l.length : Int) := by omega
      clear hb hb2 hC2
      go_wp2_with fail
      go_ret
      exact ⟨rfl, HB.out⟩
set_option maxRecDepth 100000 in
theorem state_nil (en pe : Int) (w : World) : Calls Tryz.prog 99 #[.pointer none, .int .i64 en, .int .i64 pe] w fun e w' => e = .returned (.int .i64 2) ∧ w = w' := by
  go_enter Tryz.func99, Tryz.ntmps99
  go_wp2_with fail
  go_ret
  exact ⟨rfl, rfl⟩

set_option maxRecDepth 100000 in
set_option maxHeartbeats 400000 in
theorem may_any (B c : Nat) (v : Value) (l : List Trio) (en pe : Int) (w : World) (h : GatesAt w B c v l) :
    Calls Tryz.prog 165 #[.pointer (some ⟨c, 0, none⟩), .int .i64 en, .int .i64 pe] w fun e w' => e = .returned (.int .i64 (mayT l en pe)) ∧ Below w.heap.size w w' := by
  have kk := known_anyGt en pe w
  have ks := Lib.hid (fun w1 (hb : Below w.heap.size w w1) => state_any B c v l en pe w1 (h.below hb))
  cases ho : okT en pe
  · rw [show mayT l en pe = 1 by simp [mayT, ho]]
    rw [ho] at kk
    clear ho h
    go_enter Tryz.func165, Tryz.ntmps165
    go_wp2_with fail
    refine kk.mono ?_
    rintro e w1 ⟨rfl, hb⟩
    go_wp2_with fail
    go_ret
    exact ⟨rfl, hb⟩
  · rw [ho] at kk
    have HM : Hid (mayT l en pe = if stT l en pe = 0 then 0 else 6) := by show mayT l en pe = _; simp [mayT, ho]
    clear ho h
    generalize stT l en pe = s at *
    generalize mayT l en pe = m at *
    by_cases hs : s = 0
    · subst hs
      obtain rfl : m = 0 := by rw [HM.out]; simp
      go_enter Tryz.func165, Tryz.ntmps165
      go_wp2_with fail
      refine kk.mono ?_
      rintro e w1 ⟨rfl, hb⟩
      go_wp2_with fail
      refine (ks.out w1 hb).mono ?_
      rintro e w2 ⟨rfl, hb2⟩
      go_wp2_with fail
      go_ret
      exact ⟨rfl, hb.trans (hb2.mono hb.size)⟩
    · obtain rfl : m = 6 := by rw [HM.out]; simp [hs]
      have ht : (s != 0) = true := by simp [hs]
      go_enter Tryz.func165, Tryz.ntmps165
      go_wp2_with fail
      refine kk.mono ?_
      rintro e w1 ⟨rfl, hb⟩
      go_wp2_with fail
      refine (ks.out w1 hb).mono ?_
      rintro e w2 ⟨rfl, hb2⟩
      go_wp2_with fail
      go_ret
      exact ⟨rfl, hb.trans (hb2.mono hb.size)⟩
set_option maxRecDepth 100000 in
theorem may_nil (en pe : Int) (w : World) : Calls Tryz.prog 165 #[.pointer none, .int .i64 en, .int .i64 pe] w fun e w' => e = .returned (.int .i64 1) ∧ w = w' := by
  go_enter Tryz.func165, Tryz.ntmps165
  go_wp2_with fail
  go_ret
  exact ⟨rfl, rfl⟩
end Go.Proofs.YtmgncoialppmpaaGreat

/-
  A wish in memory; contracts of those of rules' questions that change nothing: hasParts, mayBe, isNotVoid, keepsEntity, periodIsOpen, oldPeriodIsOpen.
-/
namespace Go.Proofs.YtmgncoialppmpaaGreat
open Go.RowKit Go.Sort

/-- A wish in its block: the journal that is asked for, the one that was found, the book that would be. -/
structure WishAt (w : World) (q : Nat) (cp gp bp : Value) (id : Int) (j o : JR) (tv : Value) : Prop where
  blk : w.heap[q]? = some (.cells #[cp, gp, bp, .int .i64 id, .int .i64 j.j.id, .int .i64 j.j.ent, .int .i64 j.j.per, .string j.j.ref, .slice j.A j.j.lines.length j.c, .bool j.j.void,
    .int .i64 o.j.id, .int .i64 o.j.ent, .int .i64 o.j.per, .string o.j.ref, .slice o.A o.j.lines.length o.c, .bool o.j.void, tv] 126 (0, 0))
section
variable {w w' : World} {q : Nat} {cp gp bp tv : Value} {id : Int} {j o : JR}
theorem WishAt.lt (h : WishAt w q cp gp bp id j o tv) : q < w.heap.size := lt_of_blk h.blk
theorem WishAt.kept (h : WishAt w q cp gp bp id j o tv) (hk : w'.heap[q]? = w.heap[q]?) : WishAt w' q cp gp bp id j o tv := ⟨hk.trans h.blk⟩
theorem WishAt.below (h : WishAt w q cp gp bp id j o tv) (hb : Below w.heap.size w w') : WishAt w' q cp gp bp id j o tv := h.kept (hb.block q h.lt)
theorem WishAt.head (h : WishAt w q cp gp bp id j o tv) : w.cell? ⟨q, 0, none⟩ = some cp ∧ w.cell? ⟨q, 1, none⟩ = some gp ∧ w.cell? ⟨q, 2, none⟩ = some bp ∧ w.cell? ⟨q, 3, none⟩ = some (.int .i64 id) ∧ w.cell? ⟨q, 16, none⟩ = some tv :=
  ⟨cell_of h.blk 0, cell_of h.blk 1, cell_of h.blk 2, cell_of h.blk 3, cell_of h.blk 16⟩
theorem WishAt.jrn (h : WishAt w q cp gp bp id j o tv) : w.cell? ⟨q, 4, none⟩ = some (.int .i64 j.j.id) ∧ w.cell? ⟨q, 5, none⟩ = some (.int .i64 j.j.ent) ∧ w.cell? ⟨q, 6, none⟩ = some (.int .i64 j.j.per) ∧ w.cell? ⟨q, 7, none⟩ = some (.string j.j.ref) ∧ w.cell? ⟨q, 8, none⟩ = some (.slice j.A j.j.lines.length j.c) ∧ w.cell? ⟨q, 9, none⟩ = some (.bool j.j.void) :=
  ⟨cell_of h.blk 4, cell_of h.blk 5, cell_of h.blk 6, cell_of h.blk 7, cell_of h.blk 8, cell_of h.blk 9⟩
theorem WishAt.old (h : WishAt w q cp gp bp id j o tv) : w.cell? ⟨q, 10, none⟩ = some (.int .i64 o.j.id) ∧ w.cell? ⟨q, 11, none⟩ = some (.int .i64 o.j.ent) ∧ w.cell? ⟨q, 12, none⟩ = some (.int .i64 o.j.per) ∧ w.cell? ⟨q, 13, none⟩ = some (.string o.j.ref) ∧ w.cell? ⟨q, 14, none⟩ = some (.slice o.A o.j.lines.length o.c) ∧ w.cell? ⟨q, 15, none⟩ = some (.bool o.j.void) :=
  ⟨cell_of h.blk 10, cell_of h.blk 11, cell_of h.blk 12, cell_of h.blk 13, cell_of h.blk 14, cell_of h.blk 15⟩
theorem WishAt.warm (h : WishAt w q cp gp bp id j o tv) (i : Nat) : w.frozen? ⟨q, i, none⟩ = false := warm_of h.blk i
end

set_option maxRecDepth 100000 in
set_option maxHeartbeats 400000 in
theorem hasParts_any (q : Nat) (a1 a2 a3 : Addr) (tv : Value) (id : Int) (j o : JR) (w : World) (h : WishAt w q (.pointer (some a1)) (.pointer (some a2)) (.pointer (some a3)) id j o tv) :
    Calls Tryz.prog 63 #[.pointer (some ⟨q, 0, none⟩)] w fun e w' => e = .returned (.int .i64 0) ∧ w = w' := by
  obtain ⟨p0, p1, p2, _, _⟩ := h.head
  clear h
  go_enter Tryz.func63, Tryz.ntmps63
  go_wp2_with fail
  go_ret
  exact ⟨rfl, rfl⟩
/-- A part is missing. -/
def Lacks (cp gp bp : Value) : Prop := cp = .pointer none ∨ (∃ a, cp = .pointer (some a)) ∧ gp = .pointer none ∨ (∃ a, cp = .pointer (some a)) ∧ (∃ b, gp = .pointer (some b)) ∧ bp = .pointer none
set_option maxRecDepth 100000 in
set_option maxHeartbeats 400000 in
theorem hasParts_no (q : Nat) (cp gp bp tv : Value) (id : Int) (j o : JR) (w : World) (h : WishAt w q cp gp bp id j o tv) (hn : Lacks cp gp bp) :
    Calls Tryz.prog 63 #[.pointer (some ⟨q, 0, none⟩)] w fun e w' => e = .returned (.int .i64 1) ∧ w = w' := by
  obtain ⟨p0, p1, p2, _, _⟩ := h.head
  clear h
  rcases hn with rfl | ⟨⟨a, rfl⟩, rfl⟩ | ⟨⟨a, rfl⟩, ⟨b, rfl⟩, rfl⟩
  all_goals
    go_enter Tryz.func63, Tryz.ntmps63
    go_wp2_with fail
    go_ret
    exact ⟨rfl, rfl⟩

set_option maxRecDepth 100000 in
set_option maxHeartbeats 400000 in
theorem mayBe_any (q B : Nat) (cp gp bp tv : Value) (id : Int) (j o : JR) (w : World) (h : WishAt w q cp gp bp id j o tv) (hR : Rd w B 3 j.A j.j.lines.length (lins j.j.lines)) (hB : B ≤ w.heap.size) (hn : j.j.lines.length ≤ maxLen) (hs : j.j.ref.size ≤ maxLen) :
    Calls Tryz.prog 70 #[.pointer (some ⟨q, 0, none⟩)] w fun e w' => e = .returned (.int .i64 (checkE j.j)) ∧ Below w.heap.size w w' := by
  obtain ⟨p4, p5, p6, p7, p8, p9⟩ := h.jrn
  have kc := Lib.hid (check_any j.j j.A j.j.lines.length j.c B w hR hB hn hs)
  unfold Jrn.val at kc
  clear h hR
  go_enter Tryz.func70, Tryz.ntmps70
  go_wp2_with fail
  refine kc.out.mono ?_
  rintro e w1 ⟨rfl, hb⟩
  have HB := Lib.hid hb
  clear hb
  go_wp2_with fail
  go_ret
  exact ⟨rfl, HB.out⟩

set_option maxRecDepth 100000 in
set_option maxHeartbeats 400000 in
theorem isNotVoid_any (q : Nat) (cp gp bp tv : Value) (id : Int) (j o : JR) (w : World) (h : WishAt w q cp gp bp id j o tv) :
    Calls Tryz.prog 73 #[.pointer (some ⟨q, 0, none⟩)] w fun e w' => e = .returned (.int .i64 (if j.j.void = true then 1 else 0)) ∧ w = w' := by
  obtain ⟨p4, p5, p6, p7, p8, p9⟩ := h.jrn
  clear h
  cases hv : j.j.void
  all_goals
    rw [hv] at p9
    go_enter Tryz.func73, Tryz.ntmps73
    go_wp2_with fail
    go_ret
    exact ⟨rfl, rfl⟩

set_option maxRecDepth 100000 in
set_option maxHeartbeats 1000000 in
theorem keepsEntity_any (q : Nat) (cp gp bp tv : Value) (id : Int) (j o : JR) (w : World) (h : WishAt w q cp gp bp id j o tv) :
    Calls Tryz.prog 83 #[.pointer (some ⟨q, 0, none⟩)] w fun e w' => e = .returned (.int .i64 (if j.j.ent = o.j.ent then 0 else 1)) ∧ Below w.heap.size w w' := by
  obtain ⟨p4, p5, p6, p7, p8, p9⟩ := h.jrn
  obtain ⟨p10, p11, p12, p13, p14, p15⟩ := h.old
  clear h
  generalize j.j.ent = x at *
  generalize o.j.ent = y at *
  by_cases hxy : x = y
  · have ht : (x != y) = false := by simp [hxy]
    rw [if_pos hxy]
    go_enter Tryz.func83, Tryz.ntmps83
    go_wp2_with fail
    go_quiet (fail)
    go_wp2_with fail
    go_ret
    exact ⟨rfl, Drew.below ⟨_, rfl⟩⟩
  · have ht : (x != y) = true := by simp [hxy]
    rw [if_neg hxy]
    go_enter Tryz.func83, Tryz.ntmps83
    go_wp2_with fail
    go_quiet (fail)
    go_wp2_with fail
    go_ret
    exact ⟨rfl, Drew.below ⟨_, rfl⟩⟩

set_option maxRecDepth 100000 in
set_option maxHeartbeats 1000000 in
theorem periodIsOpen_any (q g B : Nat) (cp bp tv v : Value) (l : List Trio) (id : Int) (j o : JR) (w : World) (h : WishAt w q cp (.pointer (some ⟨g, 0, none⟩)) bp id j o tv) (hG : GatesAt w B g v l) :
    Calls Tryz.prog 72 #[.pointer (some ⟨q, 0, none⟩)] w fun e w' => e = .returned (.int .i64 (mayT l j.j.ent j.j.per)) ∧ Below w.heap.size w w' := by
  obtain ⟨_, p1, _, _, _⟩ := h.head
  obtain ⟨p4, p5, p6, p7, p8, p9⟩ := h.jrn
  have Q := Lib.hid (regrown_calls (w := w) fun w1 hb => may_any B g v l j.j.ent j.j.per w1 (hG.below hb))
  replace p1 := cell_regrown p1; replace p5 := cell_regrown p5; replace p6 := cell_regrown p6
  clear h hG
  go_enter Tryz.func72, Tryz.ntmps72
  go_wp2_with fail
  refine wp_region_quiet_below (by kernel_rfl) (by kernel_rfl) ?_
  repeat (go_big_quiet_step (fail))
  go_big_quiet_want
  go_big_quiet_op
  go_big_quiet_call (exact Q.out _ _)
  repeat (go_big_quiet_step (fail))
  refine wpQuiet_nil ?_
  intro _ hw'
  obtain ⟨⟨dq, osq⟩, hw''⟩ := hw'
  subst hw''
  have HB := Lib.hid (below_regrown w dq osq)
  go_wp2_with fail
  go_ret
  exact ⟨rfl, HB.out⟩
set_option maxRecDepth 100000 in
set_option maxHeartbeats 1000000 in
theorem oldPeriodIsOpen_any (q g B : Nat) (cp bp tv v : Value) (l : List Trio) (id : Int) (j o : JR) (w : World) (h : WishAt w q cp (.pointer (some ⟨g, 0, none⟩)) bp id j o tv) (hG : GatesAt w B g v l) :
    Calls Tryz.prog 82 #[.pointer (some ⟨q, 0, none⟩)] w fun e w' => e = .returned (.int .i64 (mayT l o.j.ent o.j.per)) ∧ Below w.heap.size w w' := by
  obtain ⟨_, p1, _, _, _⟩ := h.head
  obtain ⟨p10, p11, p12, p13, p14, p15⟩ := h.old
  have Q := Lib.hid (regrown_calls (w := w) fun w1 hb => may_any B g v l o.j.ent o.j.per w1 (hG.below hb))
  replace p1 := cell_regrown p1; replace p11 := cell_regrown p11; replace p12 := cell_regrown p12
  clear h hG
  go_enter Tryz.func82, Tryz.ntmps82
  go_wp2_with fail
  refine wp_region_quiet_below (by kernel_rfl) (by kernel_rfl) ?_
  repeat (go_big_quiet_step (fail))
  go_big_quiet_want
  go_big_quiet_op
  go_big_quiet_call (exact Q.out _ _)
  repeat (go_big_quiet_step (fail))
  refine wpQuiet_nil ?_
  intro _ hw'
  obtain ⟨⟨dq, osq⟩, hw''⟩ := hw'
  subst hw''
  have HB := Lib.hid (below_regrown w dq osq)
  go_wp2_with fail
  go_ret
  exact ⟨rfl, HB.out⟩
end Go.Proofs.YtmgncoialppmpaaGreat

/-
  A journal that is stored into a block, cell by cell. No code.
-/
namespace Go.Proofs.YtmgncoialppmpaaGreat
open Go.RowKit

theorem six_jat {w : World} {b : Nat} {a0 a1 a2 a3 a4 a5 : Value} (j : Jrn) (A : Option Addr) (n c : Nat) (h : w.heap[b]? = some (.cells #[a0, a1, a2, a3, a4, a5] 29 (0, 0))) :
    JAt ((((((w.setCell ⟨b, 0, none⟩ (.int .i64 j.id)).setCell ⟨b, 1, none⟩ (.int .i64 j.ent)).setCell ⟨b, 2, none⟩ (.int .i64 j.per)).setCell ⟨b, 3, none⟩ (.string j.ref)).setCell ⟨b, 4, none⟩ (.slice A n c)).setCell ⟨b, 5, none⟩ (.bool j.void)) b j A n c :=
  set_here (set_here (set_here (set_here (set_here (set_here h)))))
theorem six_below {w w' : World} {B b o : Nat} (h : Below B w w') (hB : B ≤ b) (u0 u1 u2 u3 u4 u5 : Value) : Below B w ((((((w'.setCell ⟨b, o, none⟩ u0).setCell ⟨b, o + 1, none⟩ u1).setCell ⟨b, o + 2, none⟩ u2).setCell ⟨b, o + 3, none⟩ u3).setCell ⟨b, o + 4, none⟩ u4).setCell ⟨b, o + 5, none⟩ u5) :=
  (((((h.setCell hB _).setCell hB _).setCell hB _).setCell hB _).setCell hB _).setCell hB _
theorem six_heap {w : World} {b k o : Nat} (h : k ≠ b) (u0 u1 u2 u3 u4 u5 : Value) : ((((((w.setCell ⟨b, o, none⟩ u0).setCell ⟨b, o + 1, none⟩ u1).setCell ⟨b, o + 2, none⟩ u2).setCell ⟨b, o + 3, none⟩ u3).setCell ⟨b, o + 4, none⟩ u4).setCell ⟨b, o + 5, none⟩ u5).heap[k]? = w.heap[k]? := by
  refine (Below.heap_setCell _ _ _ _ h).trans ((Below.heap_setCell _ _ _ _ h).trans ((Below.heap_setCell _ _ _ _ h).trans ((Below.heap_setCell _ _ _ _ h).trans ((Below.heap_setCell _ _ _ _ h).trans (Below.heap_setCell _ _ _ _ h)))))
theorem six_own {w : World} {B N b n size o : Nat} {e : TypeId} {v : Value} {xs : List Value} (h : w.ownsRow N e size v n xs) (hb : b < N) (u0 u1 u2 u3 u4 u5 : Value) : ((((((w.setCell ⟨b, o, none⟩ u0).setCell ⟨b, o + 1, none⟩ u1).setCell ⟨b, o + 2, none⟩ u2).setCell ⟨b, o + 3, none⟩ u3).setCell ⟨b, o + 4, none⟩ u4).setCell ⟨b, o + 5, none⟩ u5).ownsRow N e size v n xs :=
  own_kept h fun k _ hk2 => six_heap (by have := own_ge h k hk2; omega) _ _ _ _ _ _
end Go.Proofs.YtmgncoialppmpaaGreat
