/-
  Several texts, one behind the other: what each holds stands ahead of it.
-/
import Derived.Test.YthjpknipnmagkaaGreatOwn
import Derived.Test.YthjpknipnmagkaaGreatMany1
import Derived.BigQuiet
import Derived.Shelf.SlSortCmp.WholeK
import Derived.Lib.AppendZeros

/-
  What stays where some blocks are written. No code.
-/
namespace Go.Proofs.YthjpknipnmagkaaGreat
open Go.RowKit

/-- All blocks but those of S stay. -/
structure But (S : Nat → Prop) (w w' : World) : Prop where
  os : w'.os = w.os
  tape : w'.tape = w.tape
  output : w'.output = w.output
  size : w.heap.size ≤ w'.heap.size
  block : ∀ k, k < w.heap.size → ¬ S k → w'.heap[k]? = w.heap[k]?
theorem But.refl (S : Nat → Prop) (w : World) : But S w w := ⟨rfl, rfl, rfl, Nat.le_refl _, fun _ _ _ => rfl⟩
theorem But.trans {S : Nat → Prop} {a b c : World} (h : But S a b) (k : But S b c) : But S a c :=
  ⟨k.os.trans h.os, k.tape.trans h.tape, k.output.trans h.output, Nat.le_trans h.size k.size, fun i hi hs => (k.block i (Nat.lt_of_lt_of_le hi h.size) hs).trans (h.block i hi hs)⟩
theorem But.wide {S T : Nat → Prop} {a b : World} (h : But S a b) (hs : ∀ k, k < a.heap.size → S k → T k) : But T a b := ⟨h.os, h.tape, h.output, h.size, fun i hi ht => h.block i hi fun hx => ht (hs i hi hx)⟩
theorem But.of_below {S : Nat → Prop} {a b : World} (h : Below a.heap.size a b) : But S a b := ⟨h.os, h.tape, h.output, h.size, fun i hi _ => h.block i hi⟩
theorem But.below {S : Nat → Prop} {a b : World} {B : Nat} (h : But S a b) (hs : ∀ k, k < a.heap.size → S k → B ≤ k) (hB : B ≤ a.heap.size) : Below B a b :=
  ⟨h.os, h.tape, h.output, h.size, fun i hi => h.block i (Nat.lt_of_lt_of_le hi hB) fun hx => by have := hs i (Nat.lt_of_lt_of_le hi hB) hx; omega⟩
/-- Of two ways one behind the other, the second of which writes blocks of its own beside. -/
theorem But.more {S T : Nat → Prop} {a b c : World} (h : But S a b) (k : But T b c) (hs : ∀ i, i < a.heap.size → T i → S i) : But S a c :=
  ⟨k.os.trans h.os, k.tape.trans h.tape, k.output.trans h.output, Nat.le_trans h.size k.size, fun i hi hn => (k.block i (Nat.lt_of_lt_of_le hi h.size) fun hx => hn (hs i hi hx)).trans (h.block i hi hn)⟩
theorem But.of_grown {a b : World} {row : Option Nat} (h : a.grownBy b row) : But (fun k => row = some k) a b := ⟨h.os, h.tape, h.output, h.size, fun i hi hn => h.block i hi fun e => hn e.symm⟩
end Go.Proofs.YthjpknipnmagkaaGreat

/-
  Contracts of cmp.Compare at integers; two blocks laid, as the sort asks for them.
-/
namespace Go.Proofs.YthjpknipnmagkaaGreat
open Go.RowKit Go.Sort

def cmpN (x y : Int) : Int := if x < y then -1 else if y < x then 1 else 0
set_option maxRecDepth 100000 in
set_option maxHeartbeats 400000 in
theorem isNaN_anyN (x : Int) (w : World) : Calls Tryz.prog 196 #[.int .i64 x] w fun e w' => e = .returned (.bool false) ∧ w = w' := by
  have t1 : (x != x) = false := by simp
  go_enter Tryz.func196, Tryz.ntmps196
  go_wp2_with fail
  go_ret
  exact ⟨rfl, rfl⟩
set_option maxRecDepth 100000 in
set_option maxHeartbeats 400000 in
theorem cmp_anyN (x y : Int) (w : World) : Calls Tryz.prog 158 #[.int .i64 x, .int .i64 y] w fun e w' => e = .returned (.int .i64 (cmpN x y)) ∧ w = w' := by
  unfold cmpN
  have k1 := Lib.hid (isNaN_anyN x)
  have k2 := Lib.hid (isNaN_anyN y)
  go_enter Tryz.func158, Tryz.ntmps158
  by_cases h1 : x < y
  · rw [if_pos h1]
    go_wp2_with fail
    refine (k1.out _).mono ?_
    rintro e w1 ⟨rfl, rfl⟩
    go_wp2_with fail
    refine (k2.out _).mono ?_
    rintro e w1 ⟨rfl, rfl⟩
    go_wp2_with fail
    go_ret
    exact ⟨rfl, rfl⟩
  · rw [if_neg h1]
    by_cases h2 : y < x
    · rw [if_pos h2]
      have h2' : x > y := h2
      go_wp2_with fail
      refine (k1.out _).mono ?_
      rintro e w1 ⟨rfl, rfl⟩
      go_wp2_with fail
      refine (k2.out _).mono ?_
      rintro e w1 ⟨rfl, rfl⟩
      go_wp2_with fail
      go_ret
      exact ⟨rfl, rfl⟩
    · rw [if_neg h2]
      have h2' : ¬ x > y := h2
      go_wp2_with fail
      refine (k1.out _).mono ?_
      rintro e w1 ⟨rfl, rfl⟩
      go_wp2_with fail
      refine (k2.out _).mono ?_
      rintro e w1 ⟨rfl, rfl⟩
      go_wp2_with fail
      go_ret
      exact ⟨rfl, rfl⟩

theorem grow_twoN (w : World) (a b : Obj) (q : Nat) (os : Array Obj) : ∃ q' os', grow (((w.alloc a).alloc b).drewN q) os = grow (w.drewN q') os' := by
  refine ⟨q, #[a] ++ #[b] ++ os, ?_⟩
  rw [show ((w.alloc a).alloc b).drewN q = ((w.drewN q).alloc a).alloc b from rfl, alloc_eq_grow, alloc_eq_grow, grow_grow, grow_grow, Array.append_assoc]
end Go.Proofs.YthjpknipnmagkaaGreat

/-
  Lists of balances, and the statements' helper over them: SameBalances.
-/
namespace Go.Proofs.YthjpknipnmagkaaGreat
open Go.RowKit

/-- An element. -/
structure Bal where
  acct : Int
  amt : Int
deriving DecidableEq
def Bal.cells (a : Bal) : List Value := [.int .i64 a.acct, .int .i64 a.amt]
def Bal.val (a : Bal) : Value := .agg #[.int .i64 a.acct, .int .i64 a.amt]
def bals (l : List Bal) : List Value := l.flatMap Bal.cells
theorem bals_len : ∀ l : List Bal, (bals l).length = l.length * 2
  | [] => rfl
  | a :: l => by have := bals_len l; unfold bals at this ⊢; simp [Bal.cells, this]; omega
theorem bals_append (l m : List Bal) : bals (l ++ m) = bals l ++ bals m := by simp [bals]
theorem bals_at : ∀ (l : List Bal) (k : Nat) (a : Bal), l[k]? = some a → (bals l)[k * 2]? = some (.int .i64 a.acct) ∧ (bals l)[k * 2 + 1]? = some (.int .i64 a.amt)
  | [], k, a, h => by simp at h
  | b :: l, 0, a, h => by
    simp at h; subst h
    exact ⟨rfl, rfl⟩
  | b :: l, k + 1, a, h => by
    have := bals_at l k a (by simpa using h)
    unfold bals at this ⊢
    simp only [List.flatMap_cons, Bal.cells]
    rw [show (k + 1) * 2 = k * 2 + 2 by omega]
    simpa [List.getElem?_append_right] using this
theorem Rd.bals_len {w : World} {B n : Nat} {A : Option Addr} {l : List Bal} (h : Rd w B 2 A n (bals l)) : l.length = n := by
  have := h.1; rw [Go.Proofs.YthjpknipnmagkaaGreat.bals_len] at this; omega
theorem Rd.bal {w : World} {B n i : Nat} {A : Option Addr} {l : List Bal} (h : Rd w B 2 A n (bals l)) (hi : i < n) :
    ∃ ad a, A = some ad ∧ ad.block < B ∧ l[i]? = some a ∧ w.cell? (ad.add (i * 2)) = some (.int .i64 a.acct) ∧ w.cell? (ad.add (i * 2 + 1)) = some (.int .i64 a.amt) := by
  obtain ⟨ad, e, hb, hc⟩ := h.2 (by omega)
  have hl := h.bals_len
  have hg : l[i]? = some l[i] := List.getElem?_eq_getElem (by omega)
  obtain ⟨h1, h2⟩ := bals_at l i _ hg
  exact ⟨ad, _, e, hb, hg, hc _ _ h1, hc _ _ h2⟩

theorem infoBal : (Tryz.prog.info? 99).map (fun i => (i.zero, i.size, i.bytes)) = some (some (.agg #[.int .i64 0, .int .i64 0]), 2, 16) := by kernel_rfl
theorem bal_step {l m : List Bal} {k : Nat} (hk : k < l.length ∧ k < m.length) (h1 : l.take k = m.take k) (h2 : l[k]? = m[k]?) : l.take (k + 1) = m.take (k + 1) := by
  rw [List.take_succ_eq_append_getElem hk.1, List.take_succ_eq_append_getElem hk.2, h1]
  rw [List.getElem?_eq_getElem hk.1, List.getElem?_eq_getElem hk.2] at h2
  injection h2 with h2
  rw [h2]

set_option maxRecDepth 100000 in
set_option maxHeartbeats 400000 in
theorem sameBalances_any (l m : List Bal) (A1 A2 : Option Addr) (n1 n2 c1 c2 B1 B2 : Nat) (w : World) (h1 : Rd w B1 2 A1 n1 (bals l)) (h2 : Rd w B2 2 A2 n2 (bals m)) (hn1 : n1 ≤ 1000000) (hn2 : n2 ≤ 1000000) :
    Calls Tryz.prog 37 #[.slice A1 n1 c1, .slice A2 n2 c2] w fun e w' => e = .returned (.bool (l == m)) ∧ Drew w w' := by
  have L1 := Lib.hid h1.bals_len
  have L2 := Lib.hid h2.bals_len
  by_cases hne : n1 = n2
  · subst hne
    have t1 : ((n1 : Int) != (n1 : Int)) = false := by simp
    go_enter Tryz.func37, Tryz.ntmps37
    go_wp2_with fail
    go_loopw [5] (fun i wr => ∃ k : Nat, k ≤ n1 ∧ i = .int .i64 k ∧ Hid (l.take k = m.take k) ∧ Drew w wr) (fun i _ => n1 - (intOf i).toNat)
    case atStart => exact ⟨0, Nat.zero_le _, rfl, by simp [Hid], Drew.refl _⟩
    case round =>
      obtain ⟨k, hk, rfl, hs, q, rfl⟩ := hrel
      by_cases hlt : k < n1
      · obtain ⟨a1, x, rfl, hb1, hx, p1, p2⟩ := h1.bal hlt
        obtain ⟨a2, y, rfl, hb2, hy, r1, r2⟩ := h2.bal hlt
        have hkn : (k : Int) < (n1 : Int) := by omega
        have p2' := cell_behind p2 (by omega)
        have r2' := cell_behind r2 (by omega)
        have HX : Hid (x = y → l.take (k + 1) = m.take (k + 1)) := fun h => bal_step (by have := L1.out; have := L2.out; omega) hs.out (by rw [hx, hy, h])
        have HY : Hid (x ≠ y → (l == m) = false) := by
          intro h
          rw [beq_eq_false_iff_ne]
          intro e
          rw [e, hy] at hx
          exact h (by injection hx with hx; exact hx.symm)
        clear hx hy p2 r2
        obtain ⟨x1, x2⟩ := x
        obtain ⟨y1, y2⟩ := y
        by_cases e1 : x1 = y1
        · subst e1
          by_cases e2 : x2 = y2
          · subst e2
            go_wp2_with fail
            go_big_quiet (fail)
            go_wp2
            exact ⟨⟨k + 1, by omega, by go_num, HX.out (by first | rfl | trivial), Drew.add _ _⟩, by simp [intOf]; omega⟩
          · skip
            go_wp2_with fail
            go_big_quiet (fail)
            go_wp2
            go_ret
            exact ⟨ret_bool (HY.out (by simp [e2])).symm, ⟨_, World.drewN_drewN _ _ _⟩⟩
        · skip
          go_wp2_with fail
          go_big_quiet (fail)
          go_wp2
          go_ret
          exact ⟨ret_bool (HY.out (by simp [e1])).symm, ⟨_, World.drewN_drewN _ _ _⟩⟩
      · go_wp2
        go_ret
        refine ⟨ret_bool ?_, _, rfl⟩
        have := hs.out
        rw [List.take_of_length_le (by have := L1.out; omega), List.take_of_length_le (by have := L2.out; omega)] at this
        rw [this]; simp
  · have t1 : ((n1 : Int) != (n2 : Int)) = true := by rw [bne_iff_ne]; omega
    have HN := Lib.hid hne
    clear hne
    go_enter Tryz.func37, Tryz.ntmps37
    go_wp2
    go_ret
    refine ⟨ret_bool ?_, Drew.refl _⟩
    symm
    rw [beq_eq_false_iff_ne]
    intro e
    have := L1.out; have := L2.out
    rw [e] at *
    have := HN.out; omega
end Go.Proofs.YthjpknipnmagkaaGreat

/-
  Contracts of slices.Grow of a nil slice, and of slices.Concat of two slices, of balances.
-/
namespace Go.Proofs.YthjpknipnmagkaaGreat
open Go.RowKit

theorem infoBal_rest : (Tryz.prog.info? 99).map (fun i => i.size) = some 2 := by kernel_rfl
theorem balsOne (l : List Bal) : ∀ u ∈ bals l, u.oneCell' = true := by
  intro u hu
  obtain ⟨a, _, hu⟩ := List.mem_flatMap.1 hu
  simp [Bal.cells] at hu
  rcases hu with rfl | rfl <;> rfl
/-- One's own, of length 0. -/
theorem own_zero {w : World} {B g c : Nat} {e : TypeId} {size : Nat} {cur : Array Value} (hB : B ≤ g) (hh : w.heap[g]? = some (.cells cur e (0, 0))) (hc : c ≤ maxLen) (hs : cur.size = c * size) : w.ownsRow B e size (.slice (some ⟨g, 0, none⟩) 0 c) 0 [] :=
  ⟨by simp, .inr ⟨g, c, cur, rfl, hB, hh, Nat.zero_le _, hc, hs, by simp⟩⟩
set_option maxRecDepth 100000 in
set_option maxHeartbeats 1000000 in
theorem growNil_any (n : Nat) (w : World) (hn : n ≤ 1000000) :
    Calls Tryz.prog 202 #[.slice none 0 0, .int .i64 n] w fun e w' => ∃ A c, e = .returned (.slice A 0 c) ∧ w'.ownsRow w.heap.size 99 2 (.slice A 0 c) 0 [] ∧ Below w.heap.size w w' := by
  obtain ⟨i0, hi0, hz0, hz1, hz2⟩ := info_parts infoBal
  by_cases h0 : n = 0
  · subst h0
    go_enter Tryz.func202, Tryz.ntmps202
    go_wp2_with fail
    go_ret
    exact ⟨none, 0, rfl, World.ownsRow_nil _ _ _ _, Below.refl _ _⟩
  · have hrun := fun ty => Lib.run_append_nil_zeros (P := Tryz.prog) w 81 3 ty 99 i0 _ .i64 .i64 Tryz.underlying81 Tryz.underlying3 hi0 hz0 n (by omega) (by rw [hz1]; omega) (by omega) (by rw [hz2]; omega)
    have hcap : grownCap w n 0 99 ≤ maxLen := grownCap_le_maxLen w n 0 _ (by unfold maxLen; omega)
    have hge : n ≤ grownCap w n 0 99 := grownCap_ge w n 0 _
    obtain ⟨cs, hcs⟩ : ∃ cs, Builtin.zeroCells (Value.agg #[.int .i64 0, .int .i64 0]).cells n ++ Builtin.zeroCells (Value.agg #[.int .i64 0, .int .i64 0]).cells (grownCap w n 0 99 - n) = cs := ⟨_, rfl⟩
    have hsz : cs.size = grownCap w n 0 99 * 2 := by
      rw [← hcs, Array.size_append, size_zeroCells, size_zeroCells]
      show n * 2 + (grownCap w n 0 99 - n) * 2 = _
      omega
    rw [hcs] at hrun
    have HSZ := Lib.hid hsz; have HCAP := Lib.hid hcap
    have hnI : (0 : Int) < (n : Int) := by omega
    generalize grownCap w n 0 99 = cap at *
    clear hcs hi0 hz0 hz1 hz2 hsz hcap
    have HGE := Lib.hid hge
    have hge0 : (0 : Int) ≤ (cap : Int) := by omega
    go_enter Tryz.func202, Tryz.ntmps202
    go_wp2_with (at_builtin; refine Lib.wpList_append_run _ rfl _ _ _ _ rfl _ _ rfl rfl _ _ (hrun _) ?_)
    go_ret
    refine ⟨_, cap, rfl, own_zero (Nat.le_refl _) (heap_new w.drew (.cells cs 99)) (by exact HCAP.out) (by exact HSZ.out), ?_⟩
    exact (below_drewN (Below.refl _ _) 1).alloc (by show w.heap.size ≤ w.heap.size; omega) _

/-- Balances appended to balances of one's own. -/
theorem append_bals {w : World} {base m n c B : Nat} {v : Value} {A : Option Addr} {L l : List Bal} (h : w.ownsRow base 99 2 v m (bals L)) (h2 : Rd w B 2 A n (bals l)) (hb : base ≤ w.heap.size) (hm : m + n ≤ 2000000) :
    ∃ v' w', (∀ ty, (Builtin.append_ #[81, 81] ty #[v, .slice A n c]).run Tryz.prog w = .ok v' w') ∧ w'.ownsRow base 99 2 v' (m + n) (bals (L ++ l)) ∧ Below base w w' := by
  obtain ⟨v', w', hrun, hown, hg, hp⟩ := append_fresh (P := Tryz.prog) (ty := 0) (c := c) infoBal Tryz.underlying81 rfl (by omega) base v m (bals L) h h2 (balsOne _) (by unfold maxLen; omega) (by omega) hb
  exact ⟨v', w', fun ty => hrun, by rw [bals_append]; exact hown, (Below.refl _ _).grown hg hb (own_ge h)⟩
set_option maxRecDepth 100000 in
set_option maxHeartbeats 2000000 in
theorem concat_any (l1 l2 : List Bal) (A1 A2 : Option Addr) (n1 n2 c1 c2 B g : Nat) (w : World) (h1 : Rd w B 2 A1 n1 (bals l1)) (h2 : Rd w B 2 A2 n2 (bals l2)) (hB : B ≤ w.heap.size) (hn1 : n1 ≤ 400000) (hn2 : n2 ≤ 400000)
    (hg0 : w.cell? ⟨g, 0, none⟩ = some (.slice A1 n1 c1)) (hg1 : w.cell? ⟨g, 1, none⟩ = some (.slice A2 n2 c2)) (hg : g < w.heap.size) :
    Calls Tryz.prog 166 #[.slice (some ⟨g, 0, none⟩) 2 2] w fun e w' => ∃ A c, e = .returned (.slice A (n1 + n2) c) ∧ w'.ownsRow w.heap.size 99 2 (.slice A (n1 + n2) c) (n1 + n2) (bals (l1 ++ l2)) ∧ Below w.heap.size w w' := by
  have kg := growNil_any (n1 + n2) w (by omega)
  rw [show ((n1 + n2 : Nat) : Int) = (n1 : Int) + (n2 : Int) by omega] at kg
  have KG := Lib.hid kg
  have HR1 := Lib.hid (fun w1 (hb : Below w.heap.size w w1) => h1.far hb hB)
  have HR2 := Lib.hid (fun w1 (hb : Below w.heap.size w w1) => h2.far hb hB)
  have HC0 := Lib.hid (fun w1 (hb : Below w.heap.size w w1) => (hb.cell (p := ⟨g, 0, none⟩) hg).trans hg0)
  have HC1 := Lib.hid (fun w1 (hb : Below w.heap.size w w1) => (hb.cell (p := ⟨g, 1, none⟩) hg).trans hg1)
  have hnn1 : ¬ ((n1 : Int) < 0) := by omega
  clear h1 h2 kg
  go_enter Tryz.func166, Tryz.ntmps166
  go_wp2_with fail
  go_loopw [3, 11] (fun sv iv wr => ((iv = .int .i64 0 ∧ sv = .int .i64 0) ∨ (iv = .int .i64 1 ∧ sv = .int .i64 n1) ∨ (iv = .int .i64 2 ∧ sv = .int .i64 ((n1 : Int) + (n2 : Int)))) ∧ wr = w) (fun _ iv _ => 2 - (intOf iv).toNat)
  case atStart => exact ⟨.inl ⟨rfl, rfl⟩, rfl⟩
  case round =>
    obtain ⟨hcase, hw0⟩ := hrel
    have hw1 := hw0.symm
    subst hw1
    clear hw0
    rcases hcase with ⟨rfl, rfl⟩ | ⟨rfl, rfl⟩ | ⟨rfl, rfl⟩
    · go_wp2_with fail
      exact ⟨⟨.inr (.inl ⟨rfl, rfl⟩), trivial⟩, by simp [intOf]⟩
    · go_wp2_with fail
      exact ⟨⟨.inr (.inr ⟨rfl, rfl⟩), trivial⟩, by simp [intOf]⟩
    · go_wp2_with fail
      refine KG.out.mono ?_
      rintro e w1 ⟨A, c, rfl, hown, hb1⟩
      have HO := Lib.hid hown
      have HB1 := Lib.hid hb1
      clear hown hb1 KG
      go_wp2_with fail
      go_loopw [6, 27] (fun lv iv wq => ∃ A c n l, lv = .slice A n c ∧ wq.ownsRow w.heap.size 99 2 (.slice A n c) n (bals l) ∧ Below w.heap.size w wq ∧ ((iv = .int .i64 0 ∧ n = 0 ∧ l = []) ∨ (iv = .int .i64 1 ∧ n = n1 ∧ l = l1) ∨ (iv = .int .i64 2 ∧ n = n1 + n2 ∧ l = l1 ++ l2))) (fun _ iv _ => 2 - (intOf iv).toNat)
      case atStart => exact ⟨A, c, 0, [], rfl, HO.out, HB1.out, .inl ⟨rfl, rfl, rfl⟩⟩
      case round =>
        obtain ⟨A, c, n, l, rfl, hown, hbel, hcase⟩ := hrel
        have hc0 := HC0.out wr hbel
        have hc1 := HC1.out wr hbel
        have hr1 := HR1.out wr hbel
        have hr2 := HR2.out wr hbel
        have HBEL := Lib.hid hbel
        have hsz := hbel.size
        rcases hcase with ⟨rfl, rfl, rfl⟩ | ⟨rfl, rfl, rfl⟩ | ⟨rfl, rfl, rfl⟩
        · obtain ⟨v', w2, hrun, hown2, hb2⟩ := append_bals (c := c1) hown hr1 hsz (by omega)
          rw [Nat.zero_add, List.nil_append] at hown2
          obtain ⟨A2', c2', rfl⟩ := own_form hown2
          have HO2 := Lib.hid hown2
          have HB2 := Lib.hid (HBEL.out.trans hb2)
          clear hown hown2 hb2 hr1 hr2 hbel
          go_wp2_with (at_builtin; refine Lib.wpList_append_run _ rfl _ _ _ _ rfl _ _ rfl rfl _ _ (hrun _) ?_)
          exact ⟨⟨_, _, _, _, rfl, HO2.out, HB2.out, .inr (.inl ⟨rfl, rfl, rfl⟩)⟩, by simp [intOf]⟩
        · obtain ⟨v', w2, hrun, hown2, hb2⟩ := append_bals (c := c2) hown hr2 hsz (by omega)
          obtain ⟨A2', c2', rfl⟩ := own_form hown2
          have HO2 := Lib.hid hown2
          have HB2 := Lib.hid (HBEL.out.trans hb2)
          clear hown hown2 hb2 hr1 hr2 hbel
          go_wp2_with (at_builtin; refine Lib.wpList_append_run _ rfl _ _ _ _ rfl _ _ rfl rfl _ _ (hrun _) ?_)
          exact ⟨⟨_, _, _, _, rfl, HO2.out, HB2.out, .inr (.inr ⟨rfl, rfl, rfl⟩)⟩, by simp [intOf]⟩
        · have HO := Lib.hid hown
          clear hown hr1 hr2 hbel
          go_wp2_with fail
          go_ret
          exact ⟨_, _, rfl, HO.out, HBEL.out⟩
end Go.Proofs.YthjpknipnmagkaaGreat
