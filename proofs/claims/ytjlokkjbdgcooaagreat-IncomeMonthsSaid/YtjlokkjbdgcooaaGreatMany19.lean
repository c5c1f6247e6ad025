/-
  Several texts, one behind the other: what each holds stands ahead of it.
-/
import Derived.Test.YtjlokkjbdgcooaaGreatMany13
import Derived.Test.YtjlokkjbdgcooaaGreatMany14
import Derived.Test.YtjlokkjbdgcooaaGreatMany18
import Derived.Test.YtjlokkjbdgcooaaGreatMany3
import Derived.Lib.AppendZeros

/-
  Balances laid together: their sums by account. No code.
-/
namespace Go.Proofs.YtjlokkjbdgcooaaGreat
open Go.RowKit
open Mo

def sumB (a : Int) : List Bal → Int
  | [] => 0
  | x :: r => (if x.acct = a then x.amt else 0) + sumB a r
theorem sumB_append (a : Int) : ∀ l m : List Bal, sumB a (l ++ m) = sumB a l + sumB a m
  | [], m => by simp [sumB]
  | x :: r, m => by simp only [List.cons_append, sumB, sumB_append a r m]; omega
theorem sumB_perm (a : Int) {l m : List Bal} (h : l.Perm m) : sumB a l = sumB a m := by
  induction h with
  | nil => rfl
  | cons x _ ih => simp only [sumB, ih]
  | swap x y l => simp only [sumB]; omega
  | trans _ _ ih1 ih2 => exact ih1.trans ih2
theorem sumB_out {a : Int} : ∀ {l : List Bal}, (∀ x ∈ l, x.acct ≠ a) → sumB a l = 0
  | [], _ => rfl
  | x :: r, h => by
    rw [sumB, if_neg (h x (List.mem_cons_self ..)), sumB_out fun y hy => h y (List.mem_cons_of_mem _ hy)]
    rfl
theorem sumB_all {a : Int} : ∀ {l : List Bal}, (∀ x ∈ l, x.acct = a) → sumB a l = (amts l).sum
  | [], _ => rfl
  | x :: r, h => by
    rw [sumB, if_pos (h x (List.mem_cons_self ..)), sumB_all fun y hy => h y (List.mem_cons_of_mem _ hy)]
    simp [amts]
/-- What comes together: each account once, in order, none of 0. -/
structure PlusOf (l R : List Bal) : Prop where
  rise : R.Pairwise fun x y => x.acct < y.acct
  nz : ∀ x ∈ R, x.amt ≠ 0
  sum : ∀ a, sumB a R = sumB a l
theorem sumB_rise : ∀ {R : List Bal}, (R.Pairwise fun x y => x.acct < y.acct) → ∀ x ∈ R, sumB x.acct R = x.amt
  | [], _, _, h => by cases h
  | y :: r, hr, x, hx => by
    have h2 := List.pairwise_cons.1 hr
    rcases List.mem_cons.1 hx with rfl | hx
    · rw [sumB, if_pos rfl, sumB_out fun z hz => by have := h2.1 z hz; omega]
      omega
    · have := h2.1 x hx
      rw [sumB, if_neg (by omega), sumB_rise h2.2 x hx]
      omega
theorem mem_of_sumB {R : List Bal} (hr : R.Pairwise fun x y => x.acct < y.acct) {a : Int} (h : sumB a R ≠ 0) : (⟨a, sumB a R⟩ : Bal) ∈ R := by
  by_cases hx : ∃ x ∈ R, x.acct = a
  · obtain ⟨x, hx, rfl⟩ := hx
    rw [sumB_rise hr x hx]
    exact hx
  · exact absurd (sumB_out fun x hm e => hx ⟨x, hm, e⟩) h
theorem PlusOf.mem {l R : List Bal} (h : PlusOf l R) (x : Bal) : x ∈ R ↔ sumB x.acct l = x.amt ∧ x.amt ≠ 0 := by
  constructor
  · intro hx
    exact ⟨by rw [← h.sum, sumB_rise h.rise x hx], h.nz x hx⟩
  · rintro ⟨h1, h2⟩
    rw [← h.sum] at h1
    have := mem_of_sumB h.rise (a := x.acct) (by rw [h1]; exact h2)
    rwa [h1] at this
theorem PlusOf.unique {l l' R R' : List Bal} (h : PlusOf l R) (h' : PlusOf l' R') (he : ∀ a, sumB a l = sumB a l') : R = R' := by
  have hp : R.Perm R' := by
    refine (List.perm_ext_iff_of_nodup ?_ ?_).2 fun x => by rw [h.mem, h'.mem, he]
    · exact h.rise.imp fun hxy e => by rw [e] at hxy; omega
    · exact h'.rise.imp fun hxy e => by rw [e] at hxy; omega
  exact hp.eq_of_pairwise (le := fun x y => x.acct < y.acct) (fun a b _ _ h1 h2 => by omega) h.rise h'.rise
theorem PlusOf.congr {l l' R : List Bal} (h : PlusOf l R) (he : ∀ a, sumB a l = sumB a l') : PlusOf l' R := ⟨h.rise, h.nz, fun a => (h.sum a).trans (he a)⟩
/-- Does each sum fit, and each amount? -/
def plusB (l : List Bal) : Bool := l.all fun x => fits1 x.amt && fits1 (sumB x.acct l)
theorem plusB_perm {l m : List Bal} (h : l.Perm m) : plusB l = plusB m := by
  unfold plusB
  rw [h.all_eq]
  congr 1
  funext x
  rw [sumB_perm _ h]
theorem plusB_iff {l : List Bal} : plusB l = true ↔ ∀ x ∈ l, fits1 x.amt = true ∧ fits1 (sumB x.acct l) = true := by
  unfold plusB
  simp [List.all_eq_true]

/-- Between two groups: what lies behind, what is ahead, what has come. -/
structure PlusSt (P T R : List Bal) : Prop where
  of : PlusOf P R
  cut : ∀ x ∈ P, ∀ y ∈ T, x.acct < y.acct
  ok : ∀ x ∈ P, fits1 x.amt = true ∧ fits1 (sumB x.acct (P ++ T)) = true
theorem PlusSt.start (L : List Bal) : PlusSt [] L [] := ⟨⟨List.Pairwise.nil, by simp, fun _ => rfl⟩, by simp, by simp⟩
theorem cnt_group {T : List Bal} {k : Nat} {x0 : Bal} (hT : ByAcct T) (h : CntOf T k) (h0 : T[0]? = some x0) : (∀ x ∈ T.take k, x.acct = x0.acct) ∧ (∀ y ∈ T.drop k, x0.acct < y.acct) ∧ x0 ∈ T.take k := by
  refine ⟨fun x hx => ?_, fun y hy => ?_, ?_⟩
  · obtain ⟨i, hi, rfl⟩ := List.getElem_of_mem hx
    have hik : i < k := by rw [List.length_take] at hi; omega
    have hil : i < T.length := by rw [List.length_take] at hi; omega
    rw [List.getElem_take]
    exact h.same i _ _ hik (List.getElem?_eq_getElem hil) h0
  · have hkl : k < T.length := by
      rcases Nat.lt_or_ge k T.length with h1 | h1
      · exact h1
      · rw [List.drop_eq_nil_of_le h1] at hy; cases hy
    have hk := h.other _ _ (List.getElem?_eq_getElem hkl) h0
    have hp := List.pairwise_iff_getElem.1 hT
    have h0l : 0 < T.length := by omega
    have e0 : T[0] = x0 := by rw [List.getElem?_eq_getElem h0l] at h0; injection h0
    have h1 := hp 0 k h0l hkl (by have := h.pos; omega)
    rw [e0] at h1
    obtain ⟨i, hi, rfl⟩ := List.getElem_of_mem hy
    rw [List.getElem_drop]
    rw [List.length_drop] at hi
    rcases Nat.eq_zero_or_pos i with rfl | hi0
    · simp only [Nat.add_zero]
      omega
    · have h2 := hp k (k + i) hkl (by omega) (by omega)
      omega
  · refine List.mem_of_getElem? (i := 0) ?_
    rw [List.getElem?_take_of_lt h.pos]
    exact h0
theorem group_sum {P T R : List Bal} {k : Nat} {x0 : Bal} (hst : PlusSt P T R) (hT : ByAcct T) (h : CntOf T k) (h0 : T[0]? = some x0) : (amts (T.take k)).sum = sumB x0.acct (P ++ T) := by
  obtain ⟨h1, h2, h3⟩ := cnt_group hT h h0
  have hx : x0 ∈ T := List.mem_of_mem_take h3
  rw [sumB_append, sumB_out fun x hx2 e => by have := hst.cut x hx2 x0 hx; omega, ← List.take_append_drop k T, sumB_append, sumB_all h1, sumB_out fun y hy e => by have := h2 y hy; omega]
  simp
theorem fitsAll_iff {l : List Int} : fitsAll l = true ↔ ∀ x ∈ l, fits1 x = true := by unfold fitsAll; rw [List.all_eq_true]
/-- A group that may not be. -/
theorem group_bad {P T R : List Bal} {k : Nat} {x0 : Bal} (hst : PlusSt P T R) (hT : ByAcct T) (h : CntOf T k) (h0 : T[0]? = some x0) (hE : Mo.addE (amts (T.take k)) ≠ 0) : Mo.addE (amts (T.take k)) = 2 ∧ plusB (P ++ T) = false := by
  unfold Mo.addE at hE ⊢
  rw [group_sum hst hT h h0] at hE ⊢
  by_cases hc : (fitsAll (amts (T.take k)) && fits1 (sumB x0.acct (P ++ T))) = true
  · rw [if_pos hc] at hE; exact absurd rfl hE
  · rw [if_neg hc]
    refine ⟨rfl, ?_⟩
    rw [Bool.eq_false_iff]
    intro hb
    have hb := plusB_iff.1 hb
    refine hc ?_
    obtain ⟨_, _, h3⟩ := cnt_group hT h h0
    rw [Bool.and_eq_true]
    refine ⟨fitsAll_iff.2 fun v hv => ?_, (hb x0 (List.mem_append_right _ (List.mem_of_mem_take h3))).2⟩
    obtain ⟨x, hx, rfl⟩ := List.mem_map.1 hv
    exact (hb x (List.mem_append_right _ (List.mem_of_mem_take hx))).1
theorem group_good {P T R : List Bal} {k : Nat} {x0 : Bal} (hst : PlusSt P T R) (hT : ByAcct T) (h : CntOf T k) (h0 : T[0]? = some x0) (hE : Mo.addE (amts (T.take k)) = 0) :
    Mo.addV (amts (T.take k)) = sumB x0.acct (P ++ T) ∧ (sumB x0.acct (P ++ T) = 0 → PlusSt (P ++ T.take k) (T.drop k) R) ∧ (sumB x0.acct (P ++ T) ≠ 0 → PlusSt (P ++ T.take k) (T.drop k) (R ++ [⟨x0.acct, sumB x0.acct (P ++ T)⟩])) := by
  obtain ⟨h1, h2, h3⟩ := cnt_group hT h h0
  have hx : x0 ∈ T := List.mem_of_mem_take h3
  have hgs := group_sum hst hT h h0
  unfold Mo.addE at hE
  unfold Mo.addV
  rw [hgs] at hE ⊢
  have hc : (fitsAll (amts (T.take k)) && fits1 (sumB x0.acct (P ++ T))) = true := by
    by_cases hc : (fitsAll (amts (T.take k)) && fits1 (sumB x0.acct (P ++ T))) = true
    · exact hc
    · rw [if_neg hc] at hE; cases hE
  rw [if_pos hc]
  rw [Bool.and_eq_true] at hc
  have hwhole : P ++ T.take k ++ T.drop k = P ++ T := by rw [List.append_assoc, List.take_append_drop]
  have hcut : ∀ x ∈ P ++ T.take k, ∀ y ∈ T.drop k, x.acct < y.acct := fun x hxm y hy => by
    rcases List.mem_append.1 hxm with hxm | hxm
    · exact hst.cut x hxm y (List.mem_of_mem_drop hy)
    · rw [h1 x hxm]; exact h2 y hy
  have hok : ∀ x ∈ P ++ T.take k, fits1 x.amt = true ∧ fits1 (sumB x.acct (P ++ T.take k ++ T.drop k)) = true := fun x hxm => by
    rw [hwhole]
    rcases List.mem_append.1 hxm with hxm | hxm
    · exact hst.ok x hxm
    · exact ⟨fitsAll_iff.1 hc.1 _ (List.mem_map_of_mem hxm), by rw [h1 x hxm]; exact hc.2⟩
  have hR : ∀ x ∈ R, x.acct < x0.acct := fun x hxm => by
    have hm := (hst.of.mem x).1 hxm
    by_cases hp : ∃ y ∈ P, y.acct = x.acct
    · obtain ⟨y, hy, e⟩ := hp
      rw [← e]
      exact hst.cut y hy x0 hx
    · rw [sumB_out fun y hy e => hp ⟨y, hy, e⟩] at hm
      omega
  have hsum : ∀ a, sumB a (P ++ T.take k) = sumB a P + if x0.acct = a then sumB x0.acct (P ++ T) else 0 := fun a => by
    rw [sumB_append]
    by_cases e : x0.acct = a
    · subst e
      rw [if_pos rfl, sumB_all h1, hgs]
    · have : sumB a (T.take k) = 0 := sumB_out fun x hxm e2 => e (by rw [← h1 x hxm]; exact e2)
      rw [if_neg e, this]
  refine ⟨rfl, fun hz => ⟨⟨hst.of.rise, hst.of.nz, fun a => ?_⟩, hcut, hok⟩, fun hz => ⟨⟨?_, ?_, fun a => ?_⟩, hcut, hok⟩⟩
  · rw [hsum, hst.of.sum, hz]
    split <;> omega
  · refine List.pairwise_append.2 ⟨hst.of.rise, List.pairwise_singleton _ _, fun x hxm y hy => ?_⟩
    rw [List.mem_singleton] at hy
    subst hy
    exact hR x hxm
  · intro x hxm
    rcases List.mem_append.1 hxm with hxm | hxm
    · exact hst.of.nz x hxm
    · rw [List.mem_singleton] at hxm
      subst hxm
      exact hz
  · rw [hsum, sumB_append, hst.of.sum]
    simp [sumB]
theorem PlusSt.done {P R : List Bal} (h : PlusSt P [] R) : PlusOf P R ∧ plusB P = true := ⟨h.of, plusB_iff.2 fun x hx => by simpa using h.ok x hx⟩
theorem plusOf_perm {l m R : List Bal} (h : PlusOf l R) (hp : l.Perm m) : PlusOf m R := h.congr fun a => sumB_perm a hp
end Go.Proofs.YtjlokkjbdgcooaaGreat

/-
  Contracts of slices.Grow of a nil slice, and of slices.Concat of two slices, of balances.
-/
namespace Go.Proofs.YtjlokkjbdgcooaaGreat
open Go.RowKit

theorem infoBal_rest : (Tryz.prog.info? 161).map (fun i => i.size) = some 2 := by kernel_rfl
theorem balsOne (l : List Bal) : ∀ u ∈ bals l, u.oneCell' = true := by
  intro u hu
  obtain ⟨a, _, hu⟩ := List.mem_flatMap.1 hu
  simp [Bal.cells] at hu
  rcases hu with rfl | rfl <;> rfl
/-- One's own, of length 0. -/
theorem own_zero {w : World} {B g c : Nat} {e : TypeId} {size : Nat} {cur : Array Value} (hB : B ≤ g) (hh : w.heap[g]? = some (.cells cur e (0, 0))) (hc : c ≤ maxLen) (hs : cur.size = c * size) : w.ownsRow B e size (.slice (some ⟨g, 0, none⟩) 0 c) 0 [] :=
  ⟨by simp, .inr ⟨g, c, cur, rfl, hB, hh, Nat.zero_le _, hc, hs, by simp⟩⟩
set_option maxRecDepth 100000 in
set_option maxHeartbeats 1000000 in
theorem growNil_any (n : Nat) (w : World) (hn : n ≤ 1000000) :
    Calls Tryz.prog 205 #[.slice none 0 0, .int .i64 n] w fun e w' => ∃ A c, e = .returned (.slice A 0 c) ∧ w'.ownsRow w.heap.size 161 2 (.slice A 0 c) 0 [] ∧ Below w.heap.size w w' := by
  obtain ⟨i0, hi0, hz0, hz1, hz2⟩ := info_parts infoBal
  by_cases h0 : n = 0
  · subst h0
    go_enter Tryz.func205, Tryz.ntmps205
    go_wp2_with fail
    go_ret
    exact ⟨none, 0, rfl, World.ownsRow_nil _ _ _ _, Below.refl _ _⟩
  · have hrun := fun ty => Lib.run_append_nil_zeros (P := Tryz.prog) w 81 3 ty 161 i0 _ .i64 .i64 Tryz.underlying81 Tryz.underlying3 hi0 hz0 n (by omega) (by rw [hz1]; omega) (by omega) (by rw [hz2]; omega)
    have hcap : grownCap w n 0 161 ≤ maxLen := grownCap_le_maxLen w n 0 _ (by unfold maxLen; omega)
    have hge : n ≤ grownCap w n 0 161 := grownCap_ge w n 0 _
    obtain ⟨cs, hcs⟩ : ∃ cs, Builtin.zeroCells (Value.agg #[.int .i64 0, .int .i64 0]).cells n ++ Builtin.zeroCells (Value.agg #[.int .i64 0, .int .i64 0]).cells (grownCap w n 0 161 - n) = cs := ⟨_, rfl⟩
    have hsz : cs.size = grownCap w n 0 161 * 2 := by
      rw [← hcs, Array.size_append, size_zeroCells, size_zeroCells]
      show n * 2 + (grownCap w n 0 161 - n) * 2 = _
      omega
    rw [hcs] at hrun
    have HSZ := Lib.hid hsz; have HCAP := Lib.hid hcap
    have hnI : (0 : Int) < (n : Int) := by omega
    generalize grownCap w n 0 161 = cap at *
    clear hcs hi0 hz0 hz1 hz2 hsz hcap
    have HGE := Lib.hid hge
    have hge0 : (0 : Int) ≤ (cap : Int) := by omega
    go_enter Tryz.func205, Tryz.ntmps205
    go_wp2_with (at_builtin; refine Lib.wpList_append_run _ rfl _ _ _ _ rfl _ _ rfl rfl _ _ (hrun _) ?_)
    go_ret
    refine ⟨_, cap, rfl, own_zero (Nat.le_refl _) (heap_new w.drew (.cells cs 161)) (by exact HCAP.out) (by exact HSZ.out), ?_⟩
    exact (below_drewN (Below.refl _ _) 1).alloc (by show w.heap.size ≤ w.heap.size; omega) _

/-- Balances appended to balances of one's own. -/
theorem append_bals {w : World} {base m n c B : Nat} {v : Value} {A : Option Addr} {L l : List Bal} (h : w.ownsRow base 161 2 v m (bals L)) (h2 : Rd w B 2 A n (bals l)) (hb : base ≤ w.heap.size) (hm : m + n ≤ 2000000) :
    ∃ v' w', (∀ ty, (Builtin.append_ #[81, 81] ty #[v, .slice A n c]).run Tryz.prog w = .ok v' w') ∧ w'.ownsRow base 161 2 v' (m + n) (bals (L ++ l)) ∧ Below base w w' := by
  obtain ⟨v', w', hrun, hown, hg, hp⟩ := append_fresh (P := Tryz.prog) (ty := 0) (c := c) infoBal Tryz.underlying81 rfl (by omega) base v m (bals L) h h2 (balsOne _) (by unfold maxLen; omega) (by omega) hb
  exact ⟨v', w', fun ty => hrun, by rw [bals_append]; exact hown, (Below.refl _ _).grown hg hb (own_ge h)⟩
set_option maxRecDepth 100000 in
set_option maxHeartbeats 2000000 in
theorem concat_any (l1 l2 : List Bal) (A1 A2 : Option Addr) (n1 n2 c1 c2 B g : Nat) (w : World) (h1 : Rd w B 2 A1 n1 (bals l1)) (h2 : Rd w B 2 A2 n2 (bals l2)) (hB : B ≤ w.heap.size) (hn1 : n1 ≤ 400000) (hn2 : n2 ≤ 400000)
    (hg0 : w.cell? ⟨g, 0, none⟩ = some (.slice A1 n1 c1)) (hg1 : w.cell? ⟨g, 1, none⟩ = some (.slice A2 n2 c2)) (hg : g < w.heap.size) :
    Calls Tryz.prog 170 #[.slice (some ⟨g, 0, none⟩) 2 2] w fun e w' => ∃ A c, e = .returned (.slice A (n1 + n2) c) ∧ w'.ownsRow w.heap.size 161 2 (.slice A (n1 + n2) c) (n1 + n2) (bals (l1 ++ l2)) ∧ Below w.heap.size w w' := by
  have kg := growNil_any (n1 + n2) w (by omega)
  rw [show ((n1 + n2 : Nat) : Int) = (n1 : Int) + (n2 : Int) by omega] at kg
  have KG := Lib.hid kg
  have HR1 := Lib.hid (fun w1 (hb : Below w.heap.size w w1) => h1.far hb hB)
  have HR2 := Lib.hid (fun w1 (hb : Below w.heap.size w w1) => h2.far hb hB)
  have HC0 := Lib.hid (fun w1 (hb : Below w.heap.size w w1) => (hb.cell (p := ⟨g, 0, none⟩) hg).trans hg0)
  have HC1 := Lib.hid (fun w1 (hb : Below w.heap.size w w1) => (hb.cell (p := ⟨g, 1, none⟩) hg).trans hg1)
  have hnn1 : ¬ ((n1 : Int) < 0) := by omega
  clear h1 h2 kg
  go_enter Tryz.func170, Tryz.ntmps170
  go_wp2_with fail
  go_loopw [3, 11] (fun sv iv wr => ((iv = .int .i64 0 ∧ sv = .int .i64 0) ∨ (iv = .int .i64 1 ∧ sv = .int .i64 n1) ∨ (iv = .int .i64 2 ∧ sv = .int .i64 ((n1 : Int) + (n2 : Int)))) ∧ wr = w) (fun _ iv _ => 2 - (intOf iv).toNat)
  case atStart => exact ⟨.inl ⟨rfl, rfl⟩, rfl⟩
  case round =>
    obtain ⟨hcase, hw0⟩ := hrel
    have hw1 := hw0.symm
    subst hw1
    clear hw0
    rcases hcase with ⟨rfl, rfl⟩ | ⟨rfl, rfl⟩ | ⟨rfl, rfl⟩
    · go_wp2_with fail
      exact ⟨⟨.inr (.inl ⟨rfl, rfl⟩), trivial⟩, by simp [intOf]⟩
    · go_wp2_with fail
      exact ⟨⟨.inr (.inr ⟨rfl, rfl⟩), trivial⟩, by simp [intOf]⟩
    · go_wp2_with fail
      refine KG.out.mono ?_
      rintro e w1 ⟨A, c, rfl, hown, hb1⟩
      have HO := Lib.hid hown
      have HB1 := Lib.hid hb1
      clear hown hb1 KG
      go_wp2_with fail
      go_loopw [6, 27] (fun lv iv wq => ∃ A c n l, lv = .slice A n c ∧ wq.ownsRow w.heap.size 161 2 (.slice A n c) n (bals l) ∧ Below w.heap.size w wq ∧ ((iv = .int .i64 0 ∧ n = 0 ∧ l = []) ∨ (iv = .int .i64 1 ∧ n = n1 ∧ l = l1) ∨ (iv = .int .i64 2 ∧ n = n1 + n2 ∧ l = l1 ++ l2))) (fun _ iv _ => 2 - (intOf iv).toNat)
      case atStart => exact ⟨A, c, 0, [], rfl, HO.out, HB1.out, .inl ⟨rfl, rfl, rfl⟩⟩
      case round =>
        obtain ⟨A, c, n, l, rfl, hown, hbel, hcase⟩ := hrel
        have hc0 := HC0.out wr hbel
        have hc1 := HC1.out wr hbel
        have hr1 := HR1.out wr hbel
        have hr2 := HR2.out wr hbel
        have HBEL := Lib.hid hbel
        have hsz := hbel.size
        rcases hcase with ⟨rfl, rfl, rfl⟩ | ⟨rfl, rfl, rfl⟩ | ⟨rfl, rfl, rfl⟩
        · obtain ⟨v', w2, hrun, hown2, hb2⟩ := append_bals (c := c1) hown hr1 hsz (by omega)
          rw [Nat.zero_add, List.nil_append] at hown2
          obtain ⟨A2', c2', rfl⟩ := own_form hown2
          have HO2 := Lib.hid hown2
          have HB2 := Lib.hid (HBEL.out.trans hb2)
          clear hown hown2 hb2 hr1 hr2 hbel
          go_wp2_with (at_builtin; refine Lib.wpList_append_run _ rfl _ _ _ _ rfl _ _ rfl rfl _ _ (hrun _) ?_)
          exact ⟨⟨_, _, _, _, rfl, HO2.out, HB2.out, .inr (.inl ⟨rfl, rfl, rfl⟩)⟩, by simp [intOf]⟩
        · obtain ⟨v', w2, hrun, hown2, hb2⟩ := append_bals (c := c2) hown hr2 hsz (by omega)
          obtain ⟨A2', c2', rfl⟩ := own_form hown2
          have HO2 := Lib.hid hown2
          have HB2 := Lib.hid (HBEL.out.trans hb2)
          clear hown hown2 hb2 hr1 hr2 hbel
          go_wp2_with (at_builtin; refine Lib.wpList_append_run _ rfl _ _ _ _ rfl _ _ rfl rfl _ _ (hrun _) ?_)
          exact ⟨⟨_, _, _, _, rfl, HO2.out, HB2.out, .inr (.inr ⟨rfl, rfl, rfl⟩)⟩, by simp [intOf]⟩
        · have HO := Lib.hid hown
          clear hown hr1 hr2 hbel
          go_wp2_with fail
          go_ret
          exact ⟨_, _, rfl, HO.out, HBEL.out⟩
end Go.Proofs.YtjlokkjbdgcooaaGreat
