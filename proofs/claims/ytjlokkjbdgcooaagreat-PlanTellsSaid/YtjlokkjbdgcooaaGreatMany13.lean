/-
  Several texts, one behind the other: what each holds stands ahead of it.
-/
import Derived.Test.YtjlokkjbdgcooaaGreatOwn
import Derived.Test.YtjlokkjbdgcooaaGreatMany12
import Derived.Deep.RegionLaw
import Derived.Deep.RegionHeldLaw

/-
  What stays where some blocks are written. No code.
-/
namespace Go.Proofs.YtjlokkjbdgcooaaGreat
open Go.RowKit

/-- All blocks but those of S stay. -/
structure But (S : Nat → Prop) (w w' : World) : Prop where
  os : w'.os = w.os
  tape : w'.tape = w.tape
  output : w'.output = w.output
  size : w.heap.size ≤ w'.heap.size
  block : ∀ k, k < w.heap.size → ¬ S k → w'.heap[k]? = w.heap[k]?
theorem But.refl (S : Nat → Prop) (w : World) : But S w w := ⟨rfl, rfl, rfl, Nat.le_refl _, fun _ _ _ => rfl⟩
theorem But.trans {S : Nat → Prop} {a b c : World} (h : But S a b) (k : But S b c) : But S a c :=
  ⟨k.os.trans h.os, k.tape.trans h.tape, k.output.trans h.output, Nat.le_trans h.size k.size, fun i hi hs => (k.block i (Nat.lt_of_lt_of_le hi h.size) hs).trans (h.block i hi hs)⟩
theorem But.wide {S T : Nat → Prop} {a b : World} (h : But S a b) (hs : ∀ k, k < a.heap.size → S k → T k) : But T a b := ⟨h.os, h.tape, h.output, h.size, fun i hi ht => h.block i hi fun hx => ht (hs i hi hx)⟩
theorem But.of_below {S : Nat → Prop} {a b : World} (h : Below a.heap.size a b) : But S a b := ⟨h.os, h.tape, h.output, h.size, fun i hi _ => h.block i hi⟩
theorem But.below {S : Nat → Prop} {a b : World} {B : Nat} (h : But S a b) (hs : ∀ k, k < a.heap.size → S k → B ≤ k) (hB : B ≤ a.heap.size) : Below B a b :=
  ⟨h.os, h.tape, h.output, h.size, fun i hi => h.block i (Nat.lt_of_lt_of_le hi hB) fun hx => by have := hs i (Nat.lt_of_lt_of_le hi hB) hx; omega⟩
/-- Of two ways one behind the other, the second of which writes blocks of its own beside. -/
theorem But.more {S T : Nat → Prop} {a b c : World} (h : But S a b) (k : But T b c) (hs : ∀ i, i < a.heap.size → T i → S i) : But S a c :=
  ⟨k.os.trans h.os, k.tape.trans h.tape, k.output.trans h.output, Nat.le_trans h.size k.size, fun i hi hn => (k.block i (Nat.lt_of_lt_of_le hi h.size) fun hx => hn (hs i hi hx)).trans (h.block i hi hn)⟩
theorem But.of_grown {a b : World} {row : Option Nat} (h : a.grownBy b row) : But (fun k => row = some k) a b := ⟨h.os, h.tape, h.output, h.size, fun i hi hn => h.block i hi fun e => hn e.symm⟩
end Go.Proofs.YtjlokkjbdgcooaaGreat

/-
  Contracts of Push and Pop of agenda's queue, and of container/heap's over it.
-/
namespace Go.Proofs.YtjlokkjbdgcooaaGreat
open Go.RowKit Go.Sort

/-- The blocks of an agenda. -/
def InAg (b : Nat) (v : Value) (k : Nat) : Prop := k = b ∨ v.ownBlock = some k
theorem push_end {w w1 : World} {b B n c g cap : Nat} {A : Option Addr} {ys : List Value} {ob : Obj} (_hb : w.heap[b]? = some (.cells #[.slice A n c] 153 (0, 0)))
    (hat : (Value.slice A n c).ownBlock = some g ∨ g = w.heap.size + 1)
    (h1 : w1.heap[b]? = some (.cells #[.slice A n c] 153 (0, 0))) (hown1 : w1.ownsRow B 71 3 (.slice (some ⟨g, 0, none⟩) (n + 1) cap) (n + 1) ys) (hg : ((w.alloc ob).drew).grownBy w1 (Value.slice A n c).ownBlock) :
    Box (w1.setCell ⟨b, 0, none⟩ (.slice (some ⟨g, 0, none⟩) (n + 1) cap)) b g (n + 1) cap ∧ (w1.setCell ⟨b, 0, none⟩ (.slice (some ⟨g, 0, none⟩) (n + 1) cap)).ownsRow B 71 3 (.slice (some ⟨g, 0, none⟩) (n + 1) cap) (n + 1) ys ∧
      But (InAg b (.slice A n c)) w (w1.setCell ⟨b, 0, none⟩ (.slice (some ⟨g, 0, none⟩) (n + 1) cap)) ∧ ((Value.slice A n c).ownBlock = some g ∨ w.heap.size ≤ g) := by
  have hne : b ≠ g := fun e => own_ne hown1 h1 (by decide) (by rw [e]; rfl)
  refine ⟨⟨?_, hne⟩, ?_, ?_, ?_⟩
  · rw [set_here h1]; rfl
  · refine own_kept hown1 fun k _ hk => Below.heap_setCell _ _ _ _ ?_
    have : g = k := by simpa [Value.ownBlock] using hk
    intro e; exact hne (by rw [this]; exact e.symm)
  · have h0 : But (InAg b (.slice A n c)) w (w.alloc ob).drew := But.of_below ((Below.refl _ _).alloc (Nat.le_refl _) _).drew
    have h2 : But (InAg b (.slice A n c)) (w.alloc ob).drew w1 := (But.of_grown hg).wide fun k _ hk => .inr hk
    have h3 : But (InAg b (.slice A n c)) w1 (w1.setCell ⟨b, 0, none⟩ (.slice (some ⟨g, 0, none⟩) (n + 1) cap)) := (But.of_grown (grown_set w1 b 0 _)).wide fun k _ hk => .inl (by injection hk with hk; exact hk.symm)
    exact (h0.trans h2).trans h3
  · rcases hat with h | h
    · exact .inl h
    · exact .inr (by omega)

set_option maxRecDepth 100000 in
set_option maxHeartbeats 1000000 in
theorem pushm_any (b B n : Nat) (A : Option Addr) (c : Nat) (xs : List Value) (x : Itm) (w : World) (hb : w.heap[b]? = some (.cells #[.slice A n c] 153 (0, 0))) (hown : w.ownsRow B 71 3 (.slice A n c) n xs)
    (hB : B ≤ w.heap.size) (hsm : n < 1000000) :
    Calls Tryz.prog 291 #[.pointer (some ⟨b, 0, none⟩), .iface 71 (.agg #[.int .i64 x.per, .int .i64 x.rk, .int .i64 x.id])] w fun e w' => e = .returned (.tuple #[]) ∧
      ∃ g cap, Box w' b g (n + 1) cap ∧ w'.ownsRow B 71 3 (.slice (some ⟨g, 0, none⟩) (n + 1) cap) (n + 1) (xs ++ [.int .i64 x.per, .int .i64 x.rk, .int .i64 x.id]) ∧ But (InAg b (.slice A n c)) w w' ∧ ((Value.slice A n c).ownBlock = some g ∨ w.heap.size ≤ g) := by
  obtain ⟨i0, hi0, hz0, hz1, hz2⟩ := info_parts infoItm
  have hI := Lib.hid hi0; have hZ0 := Lib.hid hz0; have hZ1 := Lib.hid hz1; have hZ2 := Lib.hid hz2
  have HB := Lib.hid hb
  have hc0 : w.cell? ⟨b, 0, none⟩ = some (.slice A n c) := by rw [cell_of hb]; rfl
  have hf0 : w.frozen? ⟨b, 0, none⟩ = false := warm_of hb 0
  have hbl := lt_of_blk hb
  clear hi0 hz0 hz1 hz2 hb
  have hta : ∀ W, (Instr.typeAssert (.iface 71 (.agg #[.int .i64 x.per, .int .i64 x.rk, .int .i64 x.id])) 20 71 false).run Tryz.prog W = .ok (.agg #[.int .i64 x.per, .int .i64 x.rk, .int .i64 x.id]) W := fun _ => by kernel_rfl
  have HO : Hid (∀ ob, ((w.alloc ob).drew).ownsRow B 71 3 (.slice A n c) n xs) := fun ob => own_kept hown fun k hk _ => Below.heap_alloc w ob k hk
  have HN : Hid (∀ W : World, ∀ j u, [Value.int .i64 x.per, .int .i64 x.rk, .int .i64 x.id][j]? = some u → ((W.alloc (.cells #[.int .i64 x.per, .int .i64 x.rk, .int .i64 x.id] 71)).drew).cell? (Addr.add ⟨W.heap.size, 0, none⟩ j) = some u) := by
    intro W j u hu
    match j, hu with
    | 0, hu => simp at hu; subst hu; simp [Addr.add, go_sem]
    | 1, hu => simp at hu; subst hu; simp [Addr.add, go_sem]
    | 2, hu => simp at hu; subst hu; simp [Addr.add, go_sem]
    | j + 3, hu => simp at hu
  have HF : Hid (∀ ob w1, ((w.alloc ob).drew).grownBy w1 (Value.slice A n c).ownBlock → w1.heap[b]? = some (.cells #[.slice A n c] 153 (0, 0))) := by
    intro ob w1 hg
    rw [hg.block b (by simp; omega) (fun h => own_ne hown HB.out (by decide) h.symm)]
    exact (Below.heap_alloc w ob b hbl).trans HB.out
  go_enter Tryz.func291, Tryz.ntmps291
  go_wp2_with fail
  go_region_law (refine step_append_lies _ rfl (.tmp 7) (.tmp 10) 151 rfl B 71 i0 _ 3 24 Tryz.underlying151 hI.out hZ0.out hZ1.out hZ2.out rfl (by decide) (.slice A n c) n xs (by simp [Act.eval]) (HO.out _) ⟨w.heap.size, 0, none⟩ 1 1 [.int .i64 x.per, .int .i64 x.rk, .int .i64 x.id] (by simp [Act.eval]) rfl (HN.out _) (by simp [Value.oneCell']) (by omega) (by unfold maxLen; omega) (by omega) (by simp; omega) (w.heap.size + 1) (by simp) ?_; intro g cap w1 hown1 hgrow1 hat1 hlt1; have HAT := Lib.hid hat1; clear hat1; have hx0 := cell_of (HF.out _ w1 hgrow1) 0; have hx1 := warm_of (HF.out _ w1 hgrow1) 0; simp only [List.getElem?_toArray, List.getElem?_cons_zero] at hx0)
  all_goals
    go_end0
    exact ⟨rfl, g, cap, push_end HB.out HAT.out (HF.out _ w1 hgrow1) hown1 hgrow1⟩

/-- The agenda in block b is a heap of n items; it and its row lie from B on. -/
structure HeapAt (w : World) (B b : Nat) (v : Value) (n : Nat) (f : Nat → Itm) : Prop where
  blk : w.heap[b]? = some (.cells #[v] 153 (0, 0))
  own : w.ownsRow B 71 3 v n (flat f n)
  low : B ≤ b
/-- What became of it. -/
def HeapTo (w : World) (B b : Nat) (v : Value) (n : Nat) (f : Nat → Itm) (w' : World) : Prop :=
  ∃ v', HeapAt w' B b v' n f ∧ But (InAg b v) w w' ∧ ∀ k, v'.ownBlock = some k → v.ownBlock = some k ∨ w.heap.size ≤ k

/-- What became of it, in the same row. -/
def HeapStay (w : World) (B b : Nat) (v : Value) (n : Nat) (f : Nat → Itm) (w' : World) : Prop :=
  ∃ v', HeapAt w' B b v' n f ∧ But (InAg b v) w w' ∧ v'.ownBlock = v.ownBlock

def put (f : Nat → Itm) (n : Nat) (x : Itm) : Nat → Itm := fun k => if k = n then x else f k

theorem flat_put (f : Nat → Itm) (n : Nat) (x : Itm) : flat f n ++ [.int .i64 x.per, .int .i64 x.rk, .int .i64 x.id] = flat (put f n x) (n + 1) := by
  rw [show flat f n = flat (put f n x) n from flat_congr fun k hk => by simp [put]; intro h; omega]
  rw [flat_succ]
  simp [put]

theorem up_last {lt : Itm → Itm → Bool} {f : Nat → Itm} {n : Nat} (x : Itm) (h : Hp.Heap lt n f) : Hp.Up lt (n + 1) n (put f n x) := by
  apply Hp.Up.start
  intro k h0 hk
  have := h k h0 hk
  simp only [put]
  rw [if_neg (by omega), if_neg (by omega)]
  exact this

set_option maxRecDepth 100000 in
set_option maxHeartbeats 1000000 in
theorem heapPush_any (b B n : Nat) (v : Value) (f : Nat → Itm) (x : Itm) (w : World) (hh : HeapAt w B b v n f) (hp : Hp.Heap itmLt n f) (hsm : n < 1000000) :
    Calls Tryz.prog 158 #[.iface 219 (.pointer (some ⟨b, 0, none⟩)), .iface 71 (.agg #[.int .i64 x.per, .int .i64 x.rk, .int .i64 x.id])] w fun e w' => e = .returned (.tuple #[]) ∧
      ∃ f', HeapTo w B b v (n + 1) f' w' ∧ Hp.Heap itmLt (n + 1) f' ∧ Hp.Perm (n + 1) (put f n x) f' := by
  obtain ⟨hb, hown, hBb⟩ := hh
  obtain ⟨A, c, rfl⟩ := own_form hown
  have hbl := lt_of_blk hb
  have HB := Lib.hid hb
  clear hb
  have hm1 := method_push b w
  go_enter Tryz.func158, Tryz.ntmps158
  go_wp2_with fail
  refine (pushm_any b B n A c (flat f n) x w HB.out hown (by omega) hsm).mono ?_
  rintro e w1 ⟨rfl, g, cap, hbx, hown1, hbut, hat⟩
  have HAT := Lib.hid hat
  clear hat
  rw [flat_put] at hown1
  obtain ⟨hrow, hBg⟩ := row_of_own hown1
  have hm2 := method_len b w1 _ hbx.cell
  go_wp2_with fail
  refine (lenI_any _ (n + 1) cap w1 (by unfold maxLen; omega)).mono ?_
  rintro e w' ⟨rfl, rfl⟩
  rw [Int.natCast_add, Int.natCast_one]
  go_wp2_with fail
  refine (up_any b g (n + 1) cap n (put f n x) w1 hbx hrow (up_last _ hp) (by omega)).mono ?_
  rintro e w2 ⟨rfl, f', hr2, hh2, hp2, hg2⟩
  go_wp2_with fail
  go_end0
  refine ⟨rfl, f', ⟨_, ⟨(hbx.grown hg2).1, own_of_row hr2 hBg, hBb⟩, hbut.more (But.of_grown hg2) (fun i hi e => ?_), fun k hk => ?_⟩, hh2, hp2⟩
  · injection e with e
    subst e
    rcases HAT.out with h | h
    · exact .inr h
    · omega
  · have : g = k := by simpa [Value.ownBlock] using hk
    subst this
    exact HAT.out

theorem RRow.less {w : World} {g cap n : Nat} {f : Nat → Itm} (h : RRow w g cap (n + 1) f) : RRow w g cap n f := by
  obtain ⟨cur, h1, h2, h3, h4, h5⟩ := h
  exact ⟨cur, h1, by omega, h3, h4, fun k hk => h5 k (by omega)⟩
theorem pop_end {w : World} {b B n g c : Nat} {f : Nat → Itm} (hb : Box w b g (n + 1) c) (hr : RRow w g c (n + 1) f) (hBg : B ≤ g) (hBb : B ≤ b) (ob : Obj) :
    HeapStay w B b (.slice (some ⟨g, 0, none⟩) (n + 1) c) n f ((w.setCell ⟨b, 0, none⟩ (.slice (some ⟨g, 0, none⟩) n c)).alloc ob) := by
  have hbl := hb.lt
  have hgl := hr.lt
  have hz : (w.setCell ⟨b, 0, none⟩ (.slice (some ⟨g, 0, none⟩) n c)).heap.size = w.heap.size := by simp [World.setCell]
  refine ⟨.slice (some ⟨g, 0, none⟩) n c, ⟨?_, ?_, hBb⟩, ?_, rfl⟩
  · rw [Below.heap_alloc _ _ _ (by omega), set_here hb.1]; rfl
  · refine own_of_row (hr.less.kept ?_) hBg
    rw [Below.heap_alloc _ _ _ (by omega), Below.heap_setCell _ _ _ _ (fun e => hb.2 e.symm)]
  · exact ((But.of_grown (grown_set w b 0 _)).wide fun k _ hk => .inl (by injection hk with hk; exact hk.symm)).trans (But.of_below ((Below.refl _ _).alloc (Nat.le_refl _) _))

set_option maxRecDepth 100000 in
set_option maxHeartbeats 1000000 in
theorem popm_any (b B n : Nat) (g c : Nat) (f : Nat → Itm) (w : World) (hb : Box w b g (n + 1) c) (hr : RRow w g c (n + 1) f) (hsm : n < 1000000) (hBg : B ≤ g) (hBb : B ≤ b) :
    Calls Tryz.prog 290 #[.pointer (some ⟨b, 0, none⟩)] w fun e w' => e = .returned (.iface 71 (.agg #[.int .i64 (f n).per, .int .i64 (f n).rk, .int .i64 (f n).id])) ∧
      HeapStay w B b (.slice (some ⟨g, 0, none⟩) (n + 1) c) n f w' := by
  have hc0 := hb.cell
  have hf0 : w.frozen? ⟨b, 0, none⟩ = false := warm_of hb.1 0
  have hbl := hb.lt
  obtain ⟨hn0, hn1, hn2⟩ := hr.cells (k := n) (by omega)
  have hnc : n + 1 ≤ c := by obtain ⟨_, _, h, _⟩ := hr; exact h
  have hnc' : n ≤ c := by omega
  go_enter Tryz.func290, Tryz.ntmps290
  go_wp2_with fail
  go_ret
  exact ⟨rfl, pop_end hb hr hBg hBb _⟩
end Go.Proofs.YtjlokkjbdgcooaaGreat

/-
  Contract of container/heap's Pop over agenda's queue.
-/
namespace Go.Proofs.YtjlokkjbdgcooaaGreat
open Go.RowKit Go.Sort

theorem heapAt_row {w : World} {B b n : Nat} {v : Value} {f : Nat → Itm} (h : HeapAt w B b v (n + 1) f) : ∃ g c, v = .slice (some ⟨g, 0, none⟩) (n + 1) c ∧ Box w b g (n + 1) c ∧ RRow w g c (n + 1) f ∧ B ≤ g ∧ B ≤ b := by
  obtain ⟨hb, hown, hB⟩ := h
  rcases hown.2 with ⟨_, h1⟩ | ⟨g, cap, cur, rfl, hg, hh, _⟩
  · omega
  · have hne : b ≠ g := by
      rintro rfl
      exact own_ne hown hb (by decide) rfl
    obtain ⟨h1, h2⟩ := row_of_own hown
    exact ⟨g, cap, rfl, ⟨hb, hne⟩, h1, h2, hB⟩

set_option maxRecDepth 100000 in
set_option maxHeartbeats 1000000 in
theorem heapPop_any (b B n : Nat) (v : Value) (f : Nat → Itm) (w : World) (hh : HeapAt w B b v (n + 1) f) (hp : Hp.Heap itmLt (n + 1) f) (hsm : n < 100000) :
    Calls Tryz.prog 157 #[.iface 219 (.pointer (some ⟨b, 0, none⟩))] w fun e w' => e = .returned (.iface 71 (.agg #[.int .i64 (f 0).per, .int .i64 (f 0).rk, .int .i64 (f 0).id])) ∧
      ∃ f', HeapStay w B b v n f' w' ∧ Hp.Heap itmLt n f' ∧ Hp.Perm (n + 1) f f' ∧ f' n = f 0 := by
  obtain ⟨g, c, rfl, hbx, hrow, hBg, hBb⟩ := heapAt_row hh
  have hbl := hbx.lt
  have hm1 := method_len b w _ hbx.cell
  have hm2 := method_swap b w _ hbx.cell
  clear hh
  go_enter Tryz.func157, Tryz.ntmps157
  go_wp2_with fail
  refine (lenI_any _ (n + 1) c w (by unfold maxLen; omega)).mono ?_
  rintro e w' ⟨rfl, rfl⟩
  rw [Int.natCast_add, Int.natCast_one]
  go_wp2_with fail
  refine (swap_row g c (n + 1) 0 n f w hrow (by omega) (by omega)).mono ?_
  rintro e w1 ⟨rfl, hr1, hg1⟩
  go_wp2_with fail
  refine (down_any b g (n + 1) c n 0 0 (Hp.swap f 0 n) w1 (hbx.grown hg1) hr1 (Hp.Down.start hp).s (Nat.le_refl _) (by omega) (by omega) (by omega)).mono ?_
  rintro e w2 ⟨⟨x, rfl⟩, f', hr2, hh2, hp2, hg2⟩
  have hm3 := method_pop b w2
  have hbx2 := (hbx.grown hg1).grown hg2
  go_wp2_with fail
  refine (popm_any b B n g c f' w2 hbx2 hr2 (by omega) hBg hBb).mono ?_
  rintro e w3 ⟨rfl, hh3⟩
  have HH3 := Lib.hid hh3
  clear hh3
  go_wp2_with fail
  go_ret
  have e0 : f' n = f 0 := by
    obtain ⟨s, t, _, _, h3⟩ := hp2
    rw [h3 n (Nat.le_refl _), Hp.swap_r]
  obtain ⟨v', h1, h2, h3⟩ := HH3.out
  have hsz := Nat.le_trans hg1.size hg2.size
  refine ⟨by rw [← e0]; rfl, f', ⟨v', h1, (((But.of_grown hg1).trans (But.of_grown hg2)).wide fun k _ hk => ?_).trans h2, h3⟩, hh2.all, (Hp.Perm.swap_ f (by omega) (by omega)).trans (hp2.more (by omega)), e0⟩
  exact .inr (by injection hk with hk; subst hk; rfl)
end Go.Proofs.YtjlokkjbdgcooaaGreat
