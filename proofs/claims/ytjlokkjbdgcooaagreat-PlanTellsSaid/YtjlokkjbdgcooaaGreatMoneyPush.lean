/-
  Contracts of Push and Pop of money's heap of rests, and of container/heap's over it.
-/
import Derived.Test.YtjlokkjbdgcooaaGreatMany3
import Derived.Deep.RegionLaw
import Derived.Deep.RegionHeldLaw
namespace Go.Proofs.YtjlokkjbdgcooaaGreat.Mo
open Go.RowKit

theorem infoRest : (Tryz.prog.info? 293).map (fun i => (i.zero, i.size, i.bytes)) = some (some (.agg #[.int .i64 0, .int .u64 0]), 2, 16) := by kernel_rfl

theorem push_end {w w1 : World} {b B n c g cap : Nat} {A : Option Addr} {ys : List Value} {ob : Obj} (_hb : w.heap[b]? = some (.cells #[.slice A n c] 289 (0, 0)))
    (hB : B ≤ w.heap.size) (hBb : B ≤ b) (hge : ∀ k, (Value.slice A n c).ownBlock = some k → B ≤ k)
    (h1 : w1.heap[b]? = some (.cells #[.slice A n c] 289 (0, 0))) (hown1 : w1.ownsRow B 293 2 (.slice (some ⟨g, 0, none⟩) (n + 1) cap) (n + 1) ys) (hg : ((w.alloc ob).drew).grownBy w1 (Value.slice A n c).ownBlock) :
    Box (w1.setCell ⟨b, 0, none⟩ (.slice (some ⟨g, 0, none⟩) (n + 1) cap)) b g (n + 1) cap ∧ (w1.setCell ⟨b, 0, none⟩ (.slice (some ⟨g, 0, none⟩) (n + 1) cap)).ownsRow B 293 2 (.slice (some ⟨g, 0, none⟩) (n + 1) cap) (n + 1) ys ∧
      Below B w (w1.setCell ⟨b, 0, none⟩ (.slice (some ⟨g, 0, none⟩) (n + 1) cap)) := by
  have hne : b ≠ g := fun e => own_ne hown1 h1 (by decide) (by rw [e]; rfl)
  refine ⟨⟨?_, hne⟩, ?_, ?_⟩
  · rw [set_here h1]; rfl
  · refine own_kept hown1 fun k _ hk => Below.heap_setCell _ _ _ _ ?_
    have : g = k := by simpa [Value.ownBlock] using hk
    intro e; exact hne (by rw [this]; exact e.symm)
  · have h0 : Below B w (w.alloc ob).drew := ((Below.refl _ _).alloc hB _).drew
    exact (h0.grown hg (by simp; omega) hge).setCell hBb _

set_option maxRecDepth 100000 in
set_option maxHeartbeats 1000000 in
theorem pushm_any (b B n : Nat) (A : Option Addr) (c : Nat) (xs : List Value) (p o : Int) (w : World) (hb : w.heap[b]? = some (.cells #[.slice A n c] 289 (0, 0))) (hown : w.ownsRow B 293 2 (.slice A n c) n xs)
    (hB : B ≤ w.heap.size) (hBb : B ≤ b) (hsm : n < 1000000) :
    Calls Tryz.prog 296 #[.pointer (some ⟨b, 0, none⟩), .iface 293 (.agg #[.int .i64 p, .int .u64 o])] w fun e w' => e = .returned (.tuple #[]) ∧
      ∃ g cap, Box w' b g (n + 1) cap ∧ w'.ownsRow B 293 2 (.slice (some ⟨g, 0, none⟩) (n + 1) cap) (n + 1) (xs ++ [.int .i64 p, .int .u64 o]) ∧ Below B w w' := by
  obtain ⟨i0, hi0, hz0, hz1, hz2⟩ := info_parts infoRest
  have hI := Lib.hid hi0; have hZ0 := Lib.hid hz0; have hZ1 := Lib.hid hz1; have hZ2 := Lib.hid hz2
  have HB := Lib.hid hb
  have hc0 : w.cell? ⟨b, 0, none⟩ = some (.slice A n c) := by rw [cell_of hb]; rfl
  have hf0 : w.frozen? ⟨b, 0, none⟩ = false := warm_of hb 0
  have hbl := lt_of_blk hb
  clear hi0 hz0 hz1 hz2 hb
  have hta : ∀ W, (Instr.typeAssert (.iface 293 (.agg #[.int .i64 p, .int .u64 o])) 20 293 false).run Tryz.prog W = .ok (.agg #[.int .i64 p, .int .u64 o]) W := fun _ => by kernel_rfl
  have HO : Hid (∀ ob, ((w.alloc ob).drew).ownsRow B 293 2 (.slice A n c) n xs) := fun ob => own_kept hown fun k hk _ => Below.heap_alloc w ob k hk
  have HN : Hid (∀ W : World, ∀ j u, [Value.int .i64 p, .int .u64 o][j]? = some u → ((W.alloc (.cells #[.int .i64 p, .int .u64 o] 293)).drew).cell? (Addr.add ⟨W.heap.size, 0, none⟩ j) = some u) := by
    intro W j u hu
    match j, hu with
    | 0, hu => simp at hu; subst hu; simp [Addr.add, go_sem]
    | 1, hu => simp at hu; subst hu; simp [Addr.add, go_sem]
    | j + 2, hu => simp at hu
  have HF : Hid (∀ ob w1, ((w.alloc ob).drew).grownBy w1 (Value.slice A n c).ownBlock → w1.heap[b]? = some (.cells #[.slice A n c] 289 (0, 0))) := by
    intro ob w1 hg
    rw [hg.block b (by simp; omega) (fun h => own_ne hown HB.out (by decide) h.symm)]
    exact (Below.heap_alloc w ob b hbl).trans HB.out
  go_enter Tryz.func296, Tryz.ntmps296
  go_wp2_with fail
  go_region_law (refine step_append_lies _ rfl (.tmp 7) (.tmp 10) 289 rfl B 293 i0 _ 2 16 Tryz.underlying289 hI.out hZ0.out hZ1.out hZ2.out rfl (by decide) (.slice A n c) n xs (by simp [Act.eval]) (HO.out _) ⟨w.heap.size, 0, none⟩ 1 1 [.int .i64 p, .int .u64 o] (by simp [Act.eval]) rfl (HN.out _) (by simp [Value.oneCell']) (by omega) (by unfold maxLen; omega) (by omega) (by simp; omega) (w.heap.size + 1) (by simp) ?_; intro g cap w1 hown1 hgrow1 hat1 hlt1; have hx0 := cell_of (HF.out _ w1 hgrow1) 0; have hx1 := warm_of (HF.out _ w1 hgrow1) 0; simp only [List.getElem?_toArray, List.getElem?_cons_zero] at hx0)
  all_goals
    go_end0
    exact ⟨rfl, g, cap, push_end HB.out hB hBb (own_ge hown) (HF.out _ w1 hgrow1) hown1 hgrow1⟩

theorem row_of_own {w : World} {B g n cap : Nat} {f : Nat → Int × Int} (h : w.ownsRow B 293 2 (.slice (some ⟨g, 0, none⟩) n cap) n (flat f n)) : RRow w g cap n f ∧ B ≤ g := by
  rcases h.2 with ⟨h1, _⟩ | ⟨g', cap', cur, h1, hB, hh, h2, h3, h4, h5⟩
  · cases h1
  · injection h1 with h1 _ hc
    injection h1 with h1
    injection h1 with h1
    subst h1 hc
    refine ⟨⟨cur, hh, h2, h3, h4, fun k hk => ?_⟩, hB⟩
    have := flat_at f n k hk
    rw [← h5] at this
    rw [List.getElem?_take_of_lt (by omega), List.getElem?_take_of_lt (by omega)] at this
    simpa using this
theorem own_of_row {w : World} {B g n cap : Nat} {f : Nat → Int × Int} (h : RRow w g cap n f) (hB : B ≤ g) : w.ownsRow B 293 2 (.slice (some ⟨g, 0, none⟩) n cap) n (flat f n) := by
  obtain ⟨cur, hh, h2, h3, h4, h5⟩ := h
  refine ⟨flat_len f n, .inr ⟨g, cap, cur, rfl, hB, hh, h2, h3, h4, ?_⟩⟩
  refine flat_eq ?_ fun k hk => ?_
  · rw [List.length_take]; simp; omega
  · rw [List.getElem?_take_of_lt (by omega), List.getElem?_take_of_lt (by omega)]
    simpa using h5 k hk

/-- The variable in block b holds n rests; it and its row lie from B on. -/
def HeapAt (w : World) (B b n : Nat) (f : Nat → Int × Int) : Prop :=
  ∃ A c, w.heap[b]? = some (.cells #[.slice A n c] 289 (0, 0)) ∧ w.ownsRow B 293 2 (.slice A n c) n (flat f n) ∧ B ≤ b

def put (f : Nat → Int × Int) (n : Nat) (x : Int × Int) : Nat → Int × Int := fun k => if k = n then x else f k

theorem flat_put (f : Nat → Int × Int) (n : Nat) (p o : Int) : flat f n ++ [.int .i64 p, .int .u64 o] = flat (put f n (p, o)) (n + 1) := by
  rw [show flat f n = flat (put f n (p, o)) n from flat_congr fun k hk => by simp [put]; intro h; omega]
  simp [flat, put]

theorem below_of_grown {w w' : World} {B g : Nat} (h : w.grownBy w' (some g)) (hB : B ≤ g) (hs : B ≤ w.heap.size) : Below B w w' :=
  ⟨h.os, h.tape, h.output, h.size, fun k hk => h.block k (by omega) (fun e => by injection e with e; omega)⟩

theorem up_last {lt : (Int × Int) → (Int × Int) → Bool} {f : Nat → Int × Int} {n : Nat} (x : Int × Int) (h : Hp.Heap lt n f) : Hp.Up lt (n + 1) n (put f n x) := by
  apply Hp.Up.start
  intro k h0 hk
  have := h k h0 hk
  simp only [put]
  rw [if_neg (by omega), if_neg (by omega)]
  exact this

set_option maxRecDepth 100000 in
set_option maxHeartbeats 1000000 in
theorem heapPush_any (b B n : Nat) (f : Nat → Int × Int) (p o : Int) (w : World) (hh : HeapAt w B b n f) (hp : Hp.Heap restLt n f) (hsm : n < 1000000) :
    Calls Tryz.prog 158 #[.iface 294 (.pointer (some ⟨b, 0, none⟩)), .iface 293 (.agg #[.int .i64 p, .int .u64 o])] w fun e w' => e = .returned (.tuple #[]) ∧
      ∃ f', HeapAt w' B b (n + 1) f' ∧ Hp.Heap restLt (n + 1) f' ∧ Hp.Perm (n + 1) (put f n (p, o)) f' ∧ Below B w w' := by
  obtain ⟨A, c, hb, hown, hBb⟩ := hh
  have hbl := lt_of_blk hb
  have HB := Lib.hid hb
  clear hb
  have hm1 := method_push b w
  go_enter Tryz.func158, Tryz.ntmps158
  go_wp2_with fail
  refine (pushm_any b B n A c (flat f n) p o w HB.out hown (by omega) hBb hsm).mono ?_
  rintro e w1 ⟨rfl, g, cap, hbx, hown1, hb1⟩
  rw [flat_put] at hown1
  obtain ⟨hrow, hBg⟩ := row_of_own hown1
  have hm2 := method_len b w1 _ hbx.cell
  go_wp2_with fail
  refine (len_any _ (n + 1) cap w1 (by unfold maxLen; omega)).mono ?_
  rintro e w' ⟨rfl, rfl⟩
  rw [Int.natCast_add, Int.natCast_one]
  go_wp2_with fail
  refine (up_any b g (n + 1) cap n (put f n (p, o)) w1 hbx hrow (up_last _ hp) (by omega)).mono ?_
  rintro e w2 ⟨rfl, f', hr2, hh2, hp2, hg2⟩
  go_wp2_with fail
  go_end0
  refine ⟨rfl, f', ⟨_, _, (hbx.grown hg2).1, own_of_row hr2 hBg, hBb⟩, hh2, hp2, hb1.trans (below_of_grown hg2 hBg ?_)⟩
  exact Nat.le_trans (by omega) hb1.size

theorem RRow.less {w : World} {g cap n : Nat} {f : Nat → Int × Int} (h : RRow w g cap (n + 1) f) : RRow w g cap n f := by
  obtain ⟨cur, h1, h2, h3, h4, h5⟩ := h
  exact ⟨cur, h1, by omega, h3, h4, fun k hk => h5 k (by omega)⟩
theorem RRow.kept {w w' : World} {g cap n : Nat} {f : Nat → Int × Int} (h : RRow w g cap n f) (hk : w'.heap[g]? = w.heap[g]?) : RRow w' g cap n f := by
  obtain ⟨cur, h1, h2⟩ := h
  exact ⟨cur, hk.trans h1, h2⟩
theorem RRow.lt {w : World} {g cap n : Nat} {f : Nat → Int × Int} (h : RRow w g cap n f) : g < w.heap.size := by
  obtain ⟨cur, h1, _⟩ := h
  exact lt_of_blk h1

theorem pop_end {w : World} {b B n g c : Nat} {f : Nat → Int × Int} (hb : Box w b g (n + 1) c) (hr : RRow w g c (n + 1) f) (hBg : B ≤ g) (hBb : B ≤ b) (ob : Obj) :
    HeapAt ((w.setCell ⟨b, 0, none⟩ (.slice (some ⟨g, 0, none⟩) n c)).alloc ob) B b n f ∧ Below B w ((w.setCell ⟨b, 0, none⟩ (.slice (some ⟨g, 0, none⟩) n c)).alloc ob) := by
  have hbl := hb.lt
  have hgl := hr.lt
  have hz : (w.setCell ⟨b, 0, none⟩ (.slice (some ⟨g, 0, none⟩) n c)).heap.size = w.heap.size := by simp [World.setCell]
  refine ⟨⟨some ⟨g, 0, none⟩, c, ?_, ?_, hBb⟩, ?_⟩
  · rw [Below.heap_alloc _ _ _ (by omega), set_here hb.1]; rfl
  · refine own_of_row (hr.less.kept ?_) hBg
    rw [Below.heap_alloc _ _ _ (by omega), Below.heap_setCell _ _ _ _ (fun e => hb.2 e.symm)]
  · exact ((Below.refl _ _).setCell hBb _).alloc (by omega) _

set_option maxRecDepth 100000 in
set_option maxHeartbeats 1000000 in
theorem popm_any (b B n : Nat) (g c : Nat) (f : Nat → Int × Int) (w : World) (hb : Box w b g (n + 1) c) (hr : RRow w g c (n + 1) f) (hsm : n < 1000000) (hBg : B ≤ g) (hBb : B ≤ b) :
    Calls Tryz.prog 295 #[.pointer (some ⟨b, 0, none⟩)] w fun e w' => e = .returned (.iface 293 (.agg #[.int .i64 (f n).1, .int .u64 (f n).2])) ∧
      HeapAt w' B b n f ∧ Below B w w' := by
  have hc0 := hb.cell
  have hf0 : w.frozen? ⟨b, 0, none⟩ = false := warm_of hb.1 0
  have hbl := hb.lt
  obtain ⟨hn0, hn1⟩ := hr.cells (k := n) (by omega)
  have hnc : n + 1 ≤ c := by obtain ⟨_, _, h, _⟩ := hr; exact h
  have hnc' : n ≤ c := by omega
  go_enter Tryz.func295, Tryz.ntmps295
  go_wp2_with fail
  go_ret
  exact ⟨rfl, pop_end hb hr hBg hBb _⟩
end Go.Proofs.YtjlokkjbdgcooaaGreat.Mo

