/-
  Several texts, one behind the other: what each holds stands ahead of it.
-/
import Derived.Test.YtjlokkjbdgcooaaGreatMany7
import Derived.Test.YtjlokkjbdgcooaaGreatMany9
import Derived.Test.YtjlokkjbdgcooaaGreatOwn
import Derived.Deep.Slices
import Derived.ChangeArms
import Derived.OpenShut

/-
  Contracts of term.Of, Year, Month, on, Shift.
-/
namespace Go.Proofs.YtjlokkjbdgcooaaGreat
open Go.RowKit

def okD (y m : Int) : Bool := decide (2000 ≤ y ∧ y ≤ 2099 ∧ 1 ≤ m ∧ m ≤ 12)
def ofV (y m : Int) : Int := if okD y m = true then 12 * (y - 2000) + m - 1 else 0
def ofETm (y m : Int) : Int := if okD y m = true then 0 else 1
def yearV (p : Int) : Int := if okP p = true then 2000 + p / 12 else 0
def monthV (p : Int) : Int := if okP p = true then p % 12 + 1 else 0
def okS (p n : Int) : Bool := okP p && decide (-p ≤ n ∧ n ≤ 1199 - p)
def shiftV (p n : Int) : Int := if okS p n = true then p + n else 0
def shiftE (p n : Int) : Int := if okS p n = true then 0 else 1

set_option maxHeartbeats 400000 in
theorem on_any (p n : Int) (w : World) (hp : okP p = true) (_n1 : -9223372036854775808 ≤ n) (_n2 : n ≤ 9223372036854775807) :
    Calls Tryz.prog 209 #[.int .i64 p, .int .i64 n] w fun e w' => e = .returned (.tuple #[.int .i64 (shiftV p n), .bool (okS p n)]) ∧ w = w' := by
  have hb := okP_t hp
  by_cases h1 : n < -p
  · have e0 : okS p n = false := by unfold okS; simp; omega
    have e1 : shiftV p n = 0 := by unfold shiftV; simp [e0]
    rw [e0, e1]
    clear e0 e1 hp
    go_enter Tryz.func209, Tryz.ntmps209
    go_wp2
    go_ret2
    exact ⟨rfl, rfl⟩
  by_cases h2 : 1199 - p < n
  · have e0 : okS p n = false := by unfold okS; simp; omega
    have e1 : shiftV p n = 0 := by unfold shiftV; simp [e0]
    rw [e0, e1]
    clear e0 e1 hp
    go_enter Tryz.func209, Tryz.ntmps209
    go_wp2
    go_ret2
    exact ⟨rfl, rfl⟩
  · have e0 : okS p n = true := by unfold okS; rw [hp]; simp; omega
    have e1 : shiftV p n = p + n := by unfold shiftV; simp [e0]
    rw [e0, e1]
    clear e0 e1 hp
    go_enter Tryz.func209, Tryz.ntmps209
    go_wp2
    go_ret2
    exact ⟨by first | rfl | (congr 4; unfold wrap64; omega), rfl⟩

set_option maxHeartbeats 400000 in
theorem shift_any (p n : Int) (w : World) (n1 : -9223372036854775808 ≤ n) (n2 : n ≤ 9223372036854775807) :
    Calls Tryz.prog 180 #[.int .i64 p, .int .i64 n] w fun e w' => e = .returned (.tuple #[.int .i64 (shiftV p n), .int .i64 (shiftE p n)]) ∧ Below w.heap.size w w' := by
  cases h : okP p
  · have e0 : okS p n = false := by unfold okS; simp [h]
    have e1 : shiftV p n = 0 := by unfold shiftV; simp [e0]
    have e2 : shiftE p n = 1 := by unfold shiftE; simp [e0]
    rw [e1, e2]
    have HV := Lib.hid h
    clear h e0 e1 e2
    go_enter Tryz.func180, Tryz.ntmps180
    go_wp2_with fail
    refine (valid_one p w).mono ?_
    rintro e w1 ⟨rfl, rfl⟩
    rw [HV.out]
    go_wp2
    go_ret2
    exact ⟨rfl, (Below.refl _ _).alloc (Nat.le_refl _) _⟩
  · have HV := Lib.hid h
    cases hs : okS p n
    · have e1 : shiftV p n = 0 := by unfold shiftV; simp [hs]
      have e2 : shiftE p n = 1 := by unfold shiftE; simp [hs]
      rw [e2, e1]
      have H1 := Lib.hid e1
      have HS := Lib.hid hs
      clear h e1 e2 hs
      go_enter Tryz.func180, Tryz.ntmps180
      go_wp2_with fail
      refine (valid_one p w).mono ?_
      rintro e w1 ⟨rfl, rfl⟩
      rw [HV.out]
      go_wp2_with fail
      refine (on_any p n _ HV.out n1 n2).mono ?_
      rintro e w1 ⟨rfl, rfl⟩
      rw [HS.out, H1.out]
      go_wp2
      go_ret2
      exact ⟨rfl, (Below.refl _ _).alloc (Nat.le_refl _) _⟩
    · have e1 : shiftV p n = p + n := by unfold shiftV; simp [hs]
      have e2 : shiftE p n = 0 := by unfold shiftE; simp [hs]
      rw [e2, e1]
      have H1 := Lib.hid e1
      have HS := Lib.hid hs
      clear h e1 e2 hs
      go_enter Tryz.func180, Tryz.ntmps180
      go_wp2_with fail
      refine (valid_one p w).mono ?_
      rintro e w1 ⟨rfl, rfl⟩
      rw [HV.out]
      go_wp2_with fail
      refine (on_any p n _ HV.out n1 n2).mono ?_
      rintro e w1 ⟨rfl, rfl⟩
      rw [HS.out, H1.out]
      go_wp2
      go_ret2
      exact ⟨rfl, (Below.refl _ _).alloc (Nat.le_refl _) _⟩
end Go.Proofs.YtjlokkjbdgcooaaGreat

/-
  Contract of plan.Periods.
-/
namespace Go.Proofs.YtjlokkjbdgcooaaGreat
open Go.RowKit

/-- The first k periods from f on, e apart. -/
def perL (f e : Int) (k : Nat) : List Int := (List.range k).map fun j : Nat => f + (j : Int) * e
def perN (f u e : Int) : Nat := ((u - f) / e).toNat + 1
def perT (t : Tpl) : List Int := if chkT t = true then perL t.frm t.ev (perN t.frm t.til t.ev) else []
theorem perL_succ (f e : Int) (k : Nat) : perL f e (k + 1) = perL f e k ++ [f + (k : Int) * e] := by simp [perL, List.range_succ]
theorem perL_len (f e : Int) (k : Nat) : (perL f e k).length = k := by simp [perL]
theorem per_lt {f u e : Int} (he : 1 ≤ e) (hf : f ≤ u) (k : Nat) : k < perN f u e ↔ f + (k : Int) * e ≤ u := by
  unfold perN
  have h0 : 0 ≤ (u - f) / e := Int.ediv_nonneg (by omega) (by omega)
  have h1 := Int.le_ediv_iff_mul_le (a := (k : Int)) (b := u - f) (c := e) (by omega)
  constructor
  · intro h
    have := h1.1 (by omega)
    omega
  · intro h
    have := h1.2 (by omega)
    omega
theorem front_of {t : Tpl} (h : chkT t = true) : (0 ≤ t.frm ∧ t.frm ≤ 1199) ∧ (0 ≤ t.til ∧ t.til ≤ 1199) ∧ t.frm ≤ t.til ∧ (1 ≤ t.ev ∧ t.ev ≤ 60) ∧ (1 ≤ t.amt ∧ t.amt ≤ 1000000000000000) := by
  unfold chkT frontT at h
  simp only [Bool.and_eq_true, decide_eq_true_eq] at h
  obtain ⟨⟨⟨⟨⟨⟨⟨_, _⟩, h1, h2⟩, h3⟩, h4⟩, h5⟩, _⟩, _⟩ := h
  exact ⟨okP_t h1, okP_t h2, h3, inB_iff.1 h4, inB_iff.1 h5⟩
theorem perN_le {t : Tpl} (h : chkT t = true) : perN t.frm t.til t.ev ≤ 1200 := by
  obtain ⟨h1, h2, h3, h4, _⟩ := front_of h
  rcases Nat.lt_or_ge 1200 (perN t.frm t.til t.ev) with h5 | h5
  · have h6 := (per_lt h4.1 h3 1200).1 h5
    have : (1200 : Nat) * 1 ≤ ((1200 : Nat) : Int) * t.ev := Int.mul_le_mul_of_nonneg_left h4.1 (by omega)
    omega
  · exact h5
theorem chkTE_no {t : Tpl} (h : chkT t = false) : chkTE t = 1 := by unfold chkTE; rw [h]; rfl
theorem chkTE_yes {t : Tpl} (h : chkT t = true) : chkTE t = 0 := by unfold chkTE; rw [if_pos h]

set_option maxRecDepth 100000 in
set_option maxHeartbeats 2000000 in
theorem periods_any (t : Tpl) (w : World) (h : TplIn w t) : Calls Tryz.prog 14 #[.agg t.cells.toArray] w fun e w' => ∃ A c, e = .returned (.slice A (perT t).length c) ∧ w'.ownsRow w.heap.size 3 1 (.slice A (perT t).length c) (perT t).length (ints .i64 (perT t)) ∧ Below w.heap.size w w' := by
  obtain ⟨i0, hi0, hz0, hz1, hz2⟩ := info_parts infoInt
  have hI := Lib.hid hi0; have hZ0 := Lib.hid hz0; have hZ1 := Lib.hid hz1; have hZ2 := Lib.hid hz2
  obtain ⟨W, hW⟩ : ∃ W, w.alloc (.cells t.cells.toArray 24) = W := ⟨_, rfl⟩
  have hb : Below w.heap.size w W := by rw [← hW]; exact (Below.refl _ _).alloc (Nat.le_refl _) _
  have hx : TplAt W w.heap.size t := by rw [← hW]; exact heap_new w _
  have hzW : W.heap.size = w.heap.size + 1 := by rw [← hW]; simp
  have kc := Lib.hid (checkT_any t W (h.below hb))
  have HW := Lib.hid hW; have HB := Lib.hid hb
  have HTX : Hid (∀ w1, Below W.heap.size W w1 → TplAt w1 w.heap.size t) := fun w1 hb1 => hx.below hb1
  obtain ⟨⟨x0, x1, x2, x3, x4, x5⟩, x6, x7, x8, x9, x10, x11⟩ := tpl_cells hx
  clear hi0 hz0 hz1 hz2 hW hb hx h
  cases hc : chkT t
  · have hp : perT t = [] := by unfold perT; rw [hc]; rfl
    rw [hp]
    rw [chkTE_no hc] at kc
    clear hp hc
    unfold Tpl.cells at *
    go_enter Tryz.func14, Tryz.ntmps14
    go_wp2_with fail
    rw [HW.out]
    refine kc.out.mono ?_
    rintro e w1 ⟨rfl, hb1⟩
    have HB1 := Lib.hid (HB.out.trans (hb1.mono HB.out.size))
    clear hb1
    go_wp2_with fail
    go_ret
    exact ⟨none, 0, rfl, World.ownsRow_nil _ _ _ _, HB1.out⟩
  · have hp : perT t = perL t.frm t.ev (perN t.frm t.til t.ev) := by unfold perT; rw [if_pos hc]
    rw [hp, perL_len]
    rw [chkTE_yes hc] at kc
    obtain ⟨h1, h2, h3, h4, _⟩ := front_of hc
    have hn := perN_le hc
    have HLT := Lib.hid (per_lt h4.1 h3)
    clear hp hc
    generalize perN t.frm t.til t.ev = n at *
    unfold Tpl.cells at *
    go_enter Tryz.func14, Tryz.ntmps14
    go_wp2_with fail
    rw [HW.out]
    refine kc.out.mono ?_
    rintro e w1 ⟨rfl, hb1⟩
    have HB1 := Lib.hid hb1
    have hzr1 := hb1.size
    clear x0 x1 x2 x3 x4 x5 x6 x7 x8 x9 x10 x11
    obtain ⟨⟨x0, x1, x2, x3, x4, x5⟩, x6, x7, x8, x9, x10, x11⟩ := tpl_cells (HTX.out w1 hb1)
    clear hb1
    go_wp2_with fail
    go_loopw [3, 4] (fun lv pv wr => ∃ (k : Nat) (A : Option Addr) (c : Nat), k ≤ n ∧ pv = .int .i64 (t.frm + (k : Int) * t.ev) ∧ lv = .slice A k c ∧ wr.ownsRow w1.heap.size 3 1 (.slice A k c) k (ints .i64 (perL t.frm t.ev k)) ∧ Below w1.heap.size w1 wr) (fun _ pv _ => (t.til + 61 - intOf pv).toNat)
    case atStart => exact ⟨0, none, 0, Nat.zero_le _, by simp, rfl, World.ownsRow_nil _ _ _ _, Below.refl _ _⟩
    case round =>
      obtain ⟨k, A, c, hk, rfl, rfl, hown, hbel⟩ := hrel
      have hsz := hbel.size
      clear x0 x1 x2 x3 x4 x5 x6 x7 x8 x9 x10 x11
      obtain ⟨⟨x0, x1, x2, x3, x4, x5⟩, x6, x7, x8, x9, x10, x11⟩ := tpl_cells (HTX.out wr (HB1.out.trans (hbel.mono HB1.out.size)))
      by_cases hlt : k < n
      · have hle := (HLT.out k).1 hlt
        have hge : 0 ≤ (k : Int) * t.ev := Int.mul_nonneg (by omega) (by omega)
        have HADD : Hid (t.frm + (k : Int) * t.ev + t.ev = t.frm + ((k + 1 : Nat) : Int) * t.ev) := by
          unfold Hid
          rw [show ((k + 1 : Nat) : Int) = (k : Int) + 1 by omega, Int.add_mul, Int.one_mul]
          omega
        have hwr : wrap64 (t.frm + (k : Int) * t.ev + t.ev) = t.frm + (k : Int) * t.ev + t.ev := by unfold wrap64; omega
        have HOw := Lib.hid hown
        clear hown x0 x1 x2 x6 x7 x8 x9 x10 x11
        have HPK : Hid (perL t.frm t.ev (k + 1) = perL t.frm t.ev k ++ [t.frm + (k : Int) * t.ev]) := perL_succ _ _ _
        generalize t.frm + (k : Int) * t.ev = p at *
        go_wp2_with (at_builtin; refine wpList_append_lies _ rfl _ _ 22 rfl w1.heap.size 3 i0 (.int .i64 0) 1 8 Tryz.underlying22 hI.out hZ0.out hZ1.out hZ2.out rfl (by decide) _ k _ rfl (own_kept HOw.out fun q hq _ => Below.heap_alloc _ _ _ hq) ⟨wr.heap.size, 0, none⟩ 1 1 [.int .i64 p] rfl rfl (cell_one_new _ _ _) (by simp [Value.oneCell']) (by omega) (by unfold maxLen; omega) (by omega) (by simp; omega) _ rfl ?_)
        intro g cap w2 hown2 hg2 hat2 hlt2
        have hb2 : Below w1.heap.size w1 w2 := (hbel.alloc hsz _).grown hg2 (by simp; omega) (own_ge HOw.out)
        have HO2 := Lib.hid hown2
        have HB2 := Lib.hid hb2
        clear x3 x4 x5
        obtain ⟨⟨x0, x1, x2, x3, x4, x5⟩, x6, x7, x8, x9, x10, x11⟩ := tpl_cells (HTX.out w2 (HB1.out.trans (hb2.mono HB1.out.size)))
        clear hown2 hg2 hbel hb2 HOw x0 x1 x2 x3 x4 x6 x7 x8 x9 x10 x11
        go_wp2_with fail
        refine ⟨⟨k + 1, some ⟨g, 0, none⟩, cap, by omega, by rw [hwr, HADD.out], rfl, ?_, HB2.out⟩, by simp [intOf, hwr]; omega⟩
        have := HO2.out
        rw [HPK.out]
        simpa [ints] using this
      · have hle : ¬ (t.frm + (k : Int) * t.ev ≤ t.til) := fun h => hlt ((HLT.out k).2 h)
        obtain rfl : k = n := by omega
        have HOw := Lib.hid (own_base hown (show w.heap.size ≤ w1.heap.size by omega))
        have HBF := Lib.hid (HB.out.trans ((HB1.out.trans (hbel.mono HB1.out.size)).mono HB.out.size))
        clear hown hbel
        generalize t.frm + (k : Int) * t.ev = p at *
        go_wp2_with fail
        go_ret
        exact ⟨A, c, rfl, HOw.out, HBF.out⟩
end Go.Proofs.YtjlokkjbdgcooaaGreat

/-
  What came in, read as lists: slices of integers, of strings, of structs whose fields are plain. No code.
-/
namespace Go.Proofs.YtjlokkjbdgcooaaGreat
open Go.RowKit

/-- A slice that came in: it reads as the cells of l, 'size' an element. -/
structure ArgRd {α : Type} (cells : α → List Value) (size : Nat) (WF : α → Prop) (w : World) (A : Option Addr) (n c : Nat) (l : List α) : Prop where
  rd : Rd w w.heap.size size A n (l.flatMap cells)
  len : n ≤ maxLen
  cap : n ≤ c
  wf : ∀ a ∈ l, WF a
  nil : A = none → c = 0

theorem cells_flat {α : Type} {cells : α → List Value} {size : Nat} (hlen : ∀ a, (cells a).length = size) {w : World} {ad : Addr} : ∀ (l : List α) (o : Nat),
    (∀ (i : Nat) (a : α), l[i]? = some a → ∀ r, r < size → w.cell? (ad.add (o + i * size + r)) = (cells a)[r]?) → ∀ (j : Nat) (u : Value), (l.flatMap cells)[j]? = some u → w.cell? (ad.add (o + j)) = some u
  | [], o, _, j, u, h => by simp at h
  | b :: l, o, hc, j, u, h => by
    rw [List.flatMap_cons] at h
    by_cases hj : j < size
    · rw [List.getElem?_append_left (by rw [hlen]; exact hj)] at h
      have := hc 0 b (by simp) j hj
      rw [Nat.zero_mul, Nat.add_zero] at this
      rw [this, h]
    · rw [List.getElem?_append_right (by rw [hlen]; omega), hlen] at h
      have := cells_flat hlen l (o + size) (fun i a ha r hr => by
        have := hc (i + 1) a (by simpa using ha) r hr
        rw [show o + size + i * size + r = o + (i + 1) * size + r by rw [Nat.add_mul]; omega]; exact this) (j - size) u h
      rwa [show o + size + (j - size) = o + j by omega] at this

theorem flat_len {α : Type} {cells : α → List Value} {size : Nat} (hlen : ∀ a, (cells a).length = size) : ∀ l : List α, (l.flatMap cells).length = l.length * size
  | [] => by simp
  | a :: l => by rw [List.flatMap_cons, List.length_append, hlen, flat_len hlen l, List.length_cons, Nat.add_mul]; omega

theorem argRd_of_trod {H : Type} {enc : TypeId × Value → H} {P : Program} {w : World} {base : Nat} {spare : Nat → Bool} {held : Bool} {t e : TypeId} {fuel : Nat} {A : Option Addr} {n c : Nat} {x : DataW H × List MemPlace}
    {α : Type} [Inhabited α] (cells : α → List Value) (size : Nat) (WF : α → Prop) (ht : P.underlying t = some (.slice e)) (hc : P.cellsOf e = size) (hs : 0 < size) (hlen : ∀ a, (cells a).length = size)
    (hel : ∀ (m : Nat) (cs : List Value) (y : DataW H × List MemPlace), DataW.trod enc P w base spare held m e cs = some y → ∃ a, cs = cells a ∧ WF a)
    (h : DataW.trod enc P w base spare held fuel t (Value.cells (.slice A n c)).toList = some x) : ∃ l : List α, ArgRd cells size WF w A n c l := by
  rcases Go.Deep.open_slice ht h with ⟨hcs, _⟩ | ⟨a, len, cap, m, q, D, Pl, hcs, _, hl, hm, hmm, _, hx⟩
  · simp [Value.cells] at hcs
    obtain ⟨rfl, rfl, rfl⟩ := hcs
    exact ⟨[], ⟨Rd.nil_, by unfold maxLen; omega, Nat.le_refl _, by simp, fun _ => rfl⟩⟩
  · simp [Value.cells] at hcs
    obtain ⟨rfl, rfl, rfl⟩ := hcs
    have hlm : n ≤ m := by rw [hmm]; split <;> omega
    have key : ∀ i, i < n → ∃ b : α, WF b ∧ ∀ r, r < size → w.cell? ((a.add (i * size)).add r) = (cells b)[r]? := by
      intro i hi
      obtain ⟨cs', h1, h2⟩ := hx i (by omega)
      obtain ⟨b, rfl, hb⟩ := hel q cs' _ h2
      rw [hc] at h1
      exact ⟨b, hb, (World.cells?_some h1).2.2⟩
    obtain ⟨f, hf⟩ := Go.Deep.choose_lt key
    refine ⟨(List.range n).map f, ⟨⟨by rw [flat_len hlen]; simp, fun hn => ⟨a, rfl, ?_, ?_⟩⟩, by omega, hl, ?_, fun h => by cases h⟩⟩
    · have h0 := (hf 0 hn).2 0 hs
      have hq : 0 < (cells (f 0)).length := by rw [hlen]; exact hs
      rw [List.getElem?_eq_getElem hq] at h0
      have := block_of_cell h0
      rwa [add_block, add_block] at this
    · intro j u hu
      have := cells_flat hlen (ad := a) (w := w) ((List.range n).map f) 0 (fun i b hb r hr => by
        rw [List.getElem?_map] at hb
        cases hq : (List.range n)[i]? with
        | none => rw [hq] at hb; cases hb
        | some i' =>
          rw [hq] at hb
          simp at hb
          obtain ⟨h3, h4⟩ := List.getElem?_eq_some_iff.1 hq
          simp at h3 h4
          subst h4
          have := (hf i h3).2 r hr
          rw [add_add] at this
          rw [Nat.zero_add, this, hb]) j u hu
      rwa [Nat.zero_add] at this
    · intro b hb
      obtain ⟨i, hi, rfl⟩ := List.mem_map.1 hb
      exact (hf i (List.mem_range.1 hi)).1

def i64ok (n : Int) : Prop := -9223372036854775808 ≤ n ∧ n ≤ 9223372036854775807
theorem ints_flat (l : List Int) : l.flatMap (fun n => [Value.int .i64 n]) = ints .i64 l := by
  induction l with
  | nil => rfl
  | cons a l ih => rw [List.flatMap_cons, ih]; rfl
theorem ArgRd.ints {w : World} {A : Option Addr} {n c : Nat} {l : List Int} (h : ArgRd (fun n => [Value.int .i64 n]) 1 i64ok w A n c l) : Rd w w.heap.size 1 A n (ints .i64 l) := by
  have := h.rd; rwa [ints_flat] at this
theorem argInts {H : Type} {enc : TypeId × Value → H} {w : World} {base : Nat} {spare : Nat → Bool} {held : Bool} {fuel : Nat} {A : Option Addr} {n c : Nat} {x : DataW H × List MemPlace}
    (h : DataW.trod enc Tryz.prog w base spare held fuel 22 (Value.cells (.slice A n c)).toList = some x) : ∃ l : List Int, ArgRd (fun n => [Value.int .i64 n]) 1 i64ok w A n c l :=
  argRd_of_trod _ 1 i64ok Tryz.underlying22 (by kernel_rfl) (by omega) (fun _ => rfl) (fun m cs y hy => by
    obtain ⟨n, rfl, _, hw⟩ := DataW.trod_int Tryz.underlying3 hy
    exact ⟨n, rfl, bounds_i64 hw⟩) h
/-- A part of a struct. -/
theorem part_at {H : Type} {enc : TypeId × Value → H} {P : Program} {w : World} {base : Nat} {spare : Nat → Bool} {held : Bool} {m i : Nat} {xs : List (DataW H × List MemPlace)} {f : TypeId} {k : Nat} {cs : List Value} (hk : P.cellsOf f = k)
    (h : DataW.trod enc P w base spare held m f (cs.take (P.cellsOf f)) = xs[i]?) (hi : i < xs.length) : ∃ y, DataW.trod enc P w base spare held m f (cs.take k) = some y := by
  rw [hk, List.getElem?_eq_getElem hi] at h
  exact ⟨_, h⟩
/-- An element of a slice of structs. -/
theorem Rd.flat {α : Type} {cells : α → List Value} {size : Nat} (hlen : ∀ a, (cells a).length = size) {w : World} {B n i : Nat} {A : Option Addr} {l : List α} (h : Rd w B size A n (l.flatMap cells)) (hs : 0 < size) (hi : i < n) :
    ∃ ad a, A = some ad ∧ ad.block < B ∧ l[i]? = some a ∧ ∀ r u, (cells a)[r]? = some u → w.cell? (ad.add (i * size + r)) = some u := by
  obtain ⟨ad, e, hb, hc⟩ := h.2 (by omega)
  have hl : l.length = n := by
    have := h.1
    rw [flat_len hlen] at this
    exact Nat.eq_of_mul_eq_mul_right hs this
  refine ⟨ad, l[i]'(by omega), e, hb, List.getElem?_eq_getElem (by omega), fun r u hu => hc _ u ?_⟩
  have hr : r < size := by rw [← hlen (l[i]'(by omega))]; exact (List.getElem?_eq_some_iff.1 hu).1
  clear hc hb e h
  induction l generalizing i n with
  | nil => simp at hl; omega
  | cons b l ih =>
    rw [List.flatMap_cons]
    cases i with
    | zero =>
      rw [Nat.zero_mul, Nat.zero_add, List.getElem?_append_left (by rw [hlen]; exact hr)]
      exact hu
    | succ i =>
      rw [List.getElem?_append_right (by rw [hlen, Nat.add_mul]; omega), hlen, show (i + 1) * size + r - size = i * size + r by rw [Nat.add_mul]; omega]
      exact ih (n := n - 1) (i := i) (by omega) (by simp at hl; omega) (by simpa using hu)
end Go.Proofs.YtjlokkjbdgcooaaGreat
