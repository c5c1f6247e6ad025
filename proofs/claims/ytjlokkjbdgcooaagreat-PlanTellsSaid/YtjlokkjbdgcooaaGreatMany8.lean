/-
  Several texts, one behind the other: what each holds stands ahead of it.
-/
import Derived.Test.YtjlokkjbdgcooaaGreatOwn
import Derived.Test.YtjlokkjbdgcooaaGreatMany7
import Derived.Test.YtjlokkjbdgcooaaGreatMany5

/-
  Lists of lines, and the statements' helper over them: SameLines.
-/
namespace Go.Proofs.YtjlokkjbdgcooaaGreat
open Go.RowKit

/-- An element. -/
structure Lin where
  acct : Int
  amt : Int
  part : Int
deriving DecidableEq
def Lin.cells (a : Lin) : List Value := [.int .i64 a.acct, .int .i64 a.amt, .int .i64 a.part]
def Lin.val (a : Lin) : Value := .agg #[.int .i64 a.acct, .int .i64 a.amt, .int .i64 a.part]
def lins (l : List Lin) : List Value := l.flatMap Lin.cells
theorem lins_len : ∀ l : List Lin, (lins l).length = l.length * 3
  | [] => rfl
  | a :: l => by have := lins_len l; unfold lins at this ⊢; simp [Lin.cells, this]; omega
theorem lins_append (l m : List Lin) : lins (l ++ m) = lins l ++ lins m := by simp [lins]
theorem lins_at : ∀ (l : List Lin) (k : Nat) (a : Lin), l[k]? = some a → (lins l)[k * 3]? = some (.int .i64 a.acct) ∧ (lins l)[k * 3 + 1]? = some (.int .i64 a.amt) ∧ (lins l)[k * 3 + 2]? = some (.int .i64 a.part)
  | [], k, a, h => by simp at h
  | b :: l, 0, a, h => by
    simp at h; subst h
    exact ⟨rfl, rfl, rfl⟩
  | b :: l, k + 1, a, h => by
    have := lins_at l k a (by simpa using h)
    unfold lins at this ⊢
    simp only [List.flatMap_cons, Lin.cells]
    rw [show (k + 1) * 3 = k * 3 + 3 by omega]
    simpa [List.getElem?_append_right] using this
theorem Rd.lins_len {w : World} {B n : Nat} {A : Option Addr} {l : List Lin} (h : Rd w B 3 A n (lins l)) : l.length = n := by
  have := h.1; rw [Go.Proofs.YtjlokkjbdgcooaaGreat.lins_len] at this; omega
theorem Rd.lin {w : World} {B n i : Nat} {A : Option Addr} {l : List Lin} (h : Rd w B 3 A n (lins l)) (hi : i < n) :
    ∃ ad a, A = some ad ∧ ad.block < B ∧ l[i]? = some a ∧ w.cell? (ad.add (i * 3)) = some (.int .i64 a.acct) ∧ w.cell? (ad.add (i * 3 + 1)) = some (.int .i64 a.amt) ∧ w.cell? (ad.add (i * 3 + 2)) = some (.int .i64 a.part) := by
  obtain ⟨ad, e, hb, hc⟩ := h.2 (by omega)
  have hl := h.lins_len
  have hg : l[i]? = some l[i] := List.getElem?_eq_getElem (by omega)
  obtain ⟨h1, h2, h3⟩ := lins_at l i _ hg
  exact ⟨ad, _, e, hb, hg, hc _ _ h1, hc _ _ h2, hc _ _ h3⟩

theorem infoLin : (Tryz.prog.info? 113).map (fun i => (i.zero, i.size, i.bytes)) = some (some (.agg #[.int .i64 0, .int .i64 0, .int .i64 0]), 3, 24) := by kernel_rfl
theorem lin_step {l m : List Lin} {k : Nat} (hk : k < l.length ∧ k < m.length) (h1 : l.take k = m.take k) (h2 : l[k]? = m[k]?) : l.take (k + 1) = m.take (k + 1) := by
  rw [List.take_succ_eq_append_getElem hk.1, List.take_succ_eq_append_getElem hk.2, h1]
  rw [List.getElem?_eq_getElem hk.1, List.getElem?_eq_getElem hk.2] at h2
  injection h2 with h2
  rw [h2]

set_option maxRecDepth 100000 in
set_option maxHeartbeats 400000 in
theorem sameLines_any (l m : List Lin) (A1 A2 : Option Addr) (n1 n2 c1 c2 B1 B2 : Nat) (w : World) (h1 : Rd w B1 3 A1 n1 (lins l)) (h2 : Rd w B2 3 A2 n2 (lins m)) (hn1 : n1 ≤ 1000000) (hn2 : n2 ≤ 1000000) :
    Calls Tryz.prog 143 #[.slice A1 n1 c1, .slice A2 n2 c2] w fun e w' => e = .returned (.bool (l == m)) ∧ Drew w w' := by
  have L1 := Lib.hid h1.lins_len
  have L2 := Lib.hid h2.lins_len
  by_cases hne : n1 = n2
  · subst hne
    have t1 : ((n1 : Int) != (n1 : Int)) = false := by simp
    go_enter Tryz.func143, Tryz.ntmps143
    go_wp2_with fail
    go_loopw [5] (fun i wr => ∃ k : Nat, k ≤ n1 ∧ i = .int .i64 k ∧ Hid (l.take k = m.take k) ∧ Drew w wr) (fun i _ => n1 - (intOf i).toNat)
    case atStart => exact ⟨0, Nat.zero_le _, rfl, by simp [Hid], Drew.refl _⟩
    case round =>
      obtain ⟨k, hk, rfl, hs, q, rfl⟩ := hrel
      by_cases hlt : k < n1
      · obtain ⟨a1, x, rfl, hb1, hx, p1, p2, p3⟩ := h1.lin hlt
        obtain ⟨a2, y, rfl, hb2, hy, r1, r2, r3⟩ := h2.lin hlt
        have hkn : (k : Int) < (n1 : Int) := by omega
        have p2' := cell_behind p2 (by omega)
        have p3' := cell_behind p3 (by omega)
        have r2' := cell_behind r2 (by omega)
        have r3' := cell_behind r3 (by omega)
        have HX : Hid (x = y → l.take (k + 1) = m.take (k + 1)) := fun h => lin_step (by have := L1.out; have := L2.out; omega) hs.out (by rw [hx, hy, h])
        have HY : Hid (x ≠ y → (l == m) = false) := by
          intro h
          rw [beq_eq_false_iff_ne]
          intro e
          rw [e, hy] at hx
          exact h (by injection hx with hx; exact hx.symm)
        clear hx hy p2 p3 r2 r3
        obtain ⟨x1, x2, x3⟩ := x
        obtain ⟨y1, y2, y3⟩ := y
        by_cases e1 : x1 = y1
        · subst e1
          by_cases e2 : x2 = y2
          · subst e2
            by_cases e3 : x3 = y3
            · subst e3
              go_wp2_with fail
              go_big_quiet (fail)
              go_wp2
              exact ⟨⟨k + 1, by omega, by go_num, HX.out (by first | rfl | trivial), Drew.add _ _⟩, by simp [intOf]; omega⟩
            · skip
              go_wp2_with fail
              go_big_quiet (fail)
              go_wp2
              go_ret
              exact ⟨ret_bool (HY.out (by simp [e3])).symm, ⟨_, World.drewN_drewN _ _ _⟩⟩
          · skip
            go_wp2_with fail
            go_big_quiet (fail)
            go_wp2
            go_ret
            exact ⟨ret_bool (HY.out (by simp [e2])).symm, ⟨_, World.drewN_drewN _ _ _⟩⟩
        · skip
          go_wp2_with fail
          go_big_quiet (fail)
          go_wp2
          go_ret
          exact ⟨ret_bool (HY.out (by simp [e1])).symm, ⟨_, World.drewN_drewN _ _ _⟩⟩
      · go_wp2
        go_ret
        refine ⟨ret_bool ?_, _, rfl⟩
        have := hs.out
        rw [List.take_of_length_le (by have := L1.out; omega), List.take_of_length_le (by have := L2.out; omega)] at this
        rw [this]; simp
  · have t1 : ((n1 : Int) != (n2 : Int)) = true := by rw [bne_iff_ne]; omega
    have HN := Lib.hid hne
    clear hne
    go_enter Tryz.func143, Tryz.ntmps143
    go_wp2
    go_ret
    refine ⟨ret_bool ?_, Drew.refl _⟩
    symm
    rw [beq_eq_false_iff_ne]
    intro e
    have := L1.out; have := L2.out
    rw [e] at *
    have := HN.out; omega
end Go.Proofs.YtjlokkjbdgcooaaGreat

/-
  Journals: whether they may be. No code.
-/
namespace Go.Proofs.YtjlokkjbdgcooaaGreat
open Go.RowKit

structure Jrn where
  id : Int
  ent : Int
  per : Int
  ref : ByteArray
  lines : List Lin
  void : Bool
/-- A journal as a value; its lines lie at A. -/
def Jrn.val (j : Jrn) (A : Option Addr) (n c : Nat) : Value := .agg #[.int .i64 j.id, .int .i64 j.ent, .int .i64 j.per, .string j.ref, .slice A n c, .bool j.void]
def inB (n a b : Int) : Bool := decide (a ≤ n) && decide (n ≤ b)
def refB (c : UInt8) : Bool := decide (65 ≤ c.toNat ∧ c.toNat ≤ 90) || decide (48 ≤ c.toNat ∧ c.toNat ≤ 57)
def refAll (l : List UInt8) : Bool := l.all refB
def refOk (l : List UInt8) : Bool := decide (l.length ≤ 8) && refAll l
def lineOk (ent : Int) (l : Lin) : Bool := inB l.acct 1 9999 && !(l.amt == 0) && inB l.part 0 9 && !(l.part == ent)
def frontOk (j : Jrn) : Bool := inB j.id 1 999999 && inB j.ent 1 9 && okP j.per && refOk j.ref.data.toList
def linesAll (ent : Int) (l : List Lin) : Bool := l.all (lineOk ent)
def linesOk (j : Jrn) : Bool := inB j.lines.length 2 8 && linesAll j.ent j.lines
def fitsL (l : List Lin) : Bool := l.all fun x => fits1 x.amt
def sumA (l : List Lin) : Int := l.foldl (fun n x => n + x.amt) 0
def checkE (j : Jrn) : Int := if (frontOk j && linesOk j) = true then if fitsL j.lines = true then if sumA j.lines = 0 then 0 else 3 else 2 else 1

theorem inB_iff {n a b : Int} : inB n a b = true ↔ a ≤ n ∧ n ≤ b := by unfold inB; simp
theorem all_step {α : Type} {f : α → Bool} {l : List α} {k : Nat} {x : α} (h : (l.take k).all f = true) (hx : l[k]? = some x) (h1 : f x = true) : (l.take (k + 1)).all f = true := by
  obtain ⟨hk, rfl⟩ := List.getElem?_eq_some_iff.1 hx
  rw [List.take_succ_eq_append_getElem hk, List.all_append, h]
  simp [h1]
theorem all_no {α : Type} {f : α → Bool} {l : List α} {k : Nat} {x : α} (hx : l[k]? = some x) (h1 : f x = false) : l.all f = false := by
  obtain ⟨hk, rfl⟩ := List.getElem?_eq_some_iff.1 hx
  exact List.all_eq_false.2 ⟨_, List.getElem_mem hk, by simp [h1]⟩
theorem all_end {α : Type} {f : α → Bool} {l : List α} {k : Nat} (h : (l.take k).all f = true) (hk : l.length ≤ k) : l.all f = true := by rwa [List.take_of_length_le hk] at h
theorem sumA_step {l : List Lin} {k : Nat} {x : Lin} (hx : l[k]? = some x) : sumA (l.take (k + 1)) = sumA (l.take k) + x.amt := by
  obtain ⟨hk, rfl⟩ := List.getElem?_eq_some_iff.1 hx
  unfold sumA
  rw [List.take_succ_eq_append_getElem hk, List.foldl_append]; rfl
theorem fits1_iff {a : Int} : fits1 a = true ↔ -1000000000000000 ≤ a ∧ a ≤ 1000000000000000 := by unfold fits1; simp
theorem sumA_bound {l : List Lin} : ∀ (k : Nat), k ≤ l.length → (l.take k).all (fun x => fits1 x.amt) = true → -(1000000000000000 * (k : Int)) ≤ sumA (l.take k) ∧ sumA (l.take k) ≤ 1000000000000000 * (k : Int)
  | 0, _, _ => by simp [sumA]
  | k + 1, hk, h => by
    rw [List.take_succ_eq_append_getElem (by omega), List.all_append, Bool.and_eq_true] at h
    have ih := sumA_bound k (by omega) h.1
    have h2 := fits1_iff.1 (show fits1 (l[k]'(by omega)).amt = true by simpa using h.2)
    rw [sumA_step (List.getElem?_eq_getElem (by omega))]
    omega
theorem refAll_step {l : List UInt8} {k : Nat} {x : UInt8} (h : refAll (l.take k) = true) (hx : l[k]? = some x) (h1 : refB x = true) : refAll (l.take (k + 1)) = true := all_step h hx h1
theorem refAll_no {l : List UInt8} {k : Nat} {x : UInt8} (hx : l[k]? = some x) (h1 : refB x = false) : refAll l = false := all_no hx h1
theorem refAll_end {l : List UInt8} {k : Nat} (h : refAll (l.take k) = true) (hk : l.length ≤ k) : refAll l = true := all_end h hk
theorem linesAll_step {e : Int} {l : List Lin} {k : Nat} {x : Lin} (h : linesAll e (l.take k) = true) (hx : l[k]? = some x) (h1 : lineOk e x = true) : linesAll e (l.take (k + 1)) = true := all_step h hx h1
theorem linesAll_no {e : Int} {l : List Lin} {k : Nat} {x : Lin} (hx : l[k]? = some x) (h1 : lineOk e x = false) : linesAll e l = false := all_no hx h1
theorem linesAll_end {e : Int} {l : List Lin} {k : Nat} (h : linesAll e (l.take k) = true) (hk : l.length ≤ k) : linesAll e l = true := all_end h hk
theorem fitsL_step {l : List Lin} {k : Nat} {x : Lin} (h : fitsL (l.take k) = true) (hx : l[k]? = some x) (h1 : fits1 x.amt = true) : fitsL (l.take (k + 1)) = true := all_step h hx h1
theorem fitsL_no {l : List Lin} {k : Nat} {x : Lin} (hx : l[k]? = some x) (h1 : fits1 x.amt = false) : fitsL l = false := all_no (f := fun y : Lin => fits1 y.amt) hx h1
theorem fitsL_end {l : List Lin} {k : Nat} (h : fitsL (l.take k) = true) (hk : l.length ≤ k) : fitsL l = true := all_end h hk
/-- A journal in a block of its own. -/
def Jrn.cells (j : Jrn) (A : Option Addr) (n c : Nat) : Array Value := #[.int .i64 j.id, .int .i64 j.ent, .int .i64 j.per, .string j.ref, .slice A n c, .bool j.void]
theorem box_cell {w : World} {cs : Array Value} {T : TypeId} (i : Nat) : (w.alloc (.cells cs T)).cell? ⟨w.heap.size, i, none⟩ = cs[i]? := cell_of (heap_new w _) i
def Lin.ok64 (l : Lin) : Prop := (-9223372036854775808 ≤ l.acct ∧ l.acct ≤ 9223372036854775807) ∧ (-9223372036854775808 ≤ l.amt ∧ l.amt ≤ 9223372036854775807) ∧ (-9223372036854775808 ≤ l.part ∧ l.part ≤ 9223372036854775807)
def Jrn.ok64 (j : Jrn) : Prop := (-9223372036854775808 ≤ j.id ∧ j.id ≤ 9223372036854775807) ∧ (-9223372036854775808 ≤ j.ent ∧ j.ent ≤ 9223372036854775807) ∧ (-9223372036854775808 ≤ j.per ∧ j.per ≤ 9223372036854775807) ∧ ∀ l ∈ j.lines, l.ok64
def zeroJ : Jrn := ⟨0, 0, 0, ⟨#[]⟩, [], false⟩
/-- A journal in its block. -/
def JAt (w : World) (q : Nat) (j : Jrn) (A : Option Addr) (n c : Nat) : Prop := w.heap[q]? = some (.cells #[.int .i64 j.id, .int .i64 j.ent, .int .i64 j.per, .string j.ref, .slice A n c, .bool j.void] 111 (0, 0))
theorem six_cells {w : World} {b : Nat} {a0 a1 a2 a3 a4 a5 : Value} {T : TypeId} (h : w.heap[b]? = some (.cells #[a0, a1, a2, a3, a4, a5] T (0, 0))) :
    w.cell? ⟨b, 0, none⟩ = some a0 ∧ w.cell? ⟨b, 1, none⟩ = some a1 ∧ w.cell? ⟨b, 2, none⟩ = some a2 ∧ w.cell? ⟨b, 3, none⟩ = some a3 ∧ w.cell? ⟨b, 4, none⟩ = some a4 ∧ w.cell? ⟨b, 5, none⟩ = some a5 :=
  ⟨cell_of h 0, cell_of h 1, cell_of h 2, cell_of h 3, cell_of h 4, cell_of h 5⟩
theorem below_six {B b : Nat} {w w' : World} (h : Below B w w') (hb : B ≤ b) (v0 v1 v2 v3 v4 v5 : Value) : Below B w ((((((w'.setCell ⟨b, 0, none⟩ v0).setCell ⟨b, 1, none⟩ v1).setCell ⟨b, 2, none⟩ v2).setCell ⟨b, 3, none⟩ v3).setCell ⟨b, 4, none⟩ v4).setCell ⟨b, 5, none⟩ v5) :=
  (((((h.setCell hb v0).setCell hb v1).setCell hb v2).setCell hb v3).setCell hb v4).setCell hb v5

theorem own_six {w : World} {B n c b : Nat} {A : Option Addr} {xs : List Value} {T : TypeId} {size : Nat} (h : w.ownsRow B T size (.slice A n c) n xs) (hb : b < B) (v0 v1 v2 v3 v4 v5 : Value) : ((((((w.setCell ⟨b, 0, none⟩ v0).setCell ⟨b, 1, none⟩ v1).setCell ⟨b, 2, none⟩ v2).setCell ⟨b, 3, none⟩ v3).setCell ⟨b, 4, none⟩ v4).setCell ⟨b, 5, none⟩ v5).ownsRow B T size (.slice A n c) n xs := by
  refine own_kept h fun k hk ho => ?_
  have hge := own_ge h k ho
  have e : ∀ (w : World) (i : Nat) (v : Value), (w.setCell ⟨b, i, none⟩ v).heap[k]? = w.heap[k]? := fun w i v => Below.heap_setCell _ _ _ _ (by show k ≠ b; omega)
  rw [e, e, e, e, e, e]
end Go.Proofs.YtjlokkjbdgcooaaGreat

/-
  Templates: what may be. No code.
-/
namespace Go.Proofs.YtjlokkjbdgcooaaGreat
open Mo
open Go.RowKit

/-- A template, with the rows of its targets and weights. -/
structure Tpl where
  kind : Int
  id : Int
  ent : Int
  frm : Int
  til : Int
  ev : Int
  amt : Int
  deb : Int
  cre : Int
  tg : List Int
  wt : List Int
  At : Option Addr
  ct : Nat
  Aw : Option Addr
  cw : Nat
  rk : Int
def Tpl.cells (t : Tpl) : List Value := [.int .i64 t.kind, .int .i64 t.id, .int .i64 t.ent, .int .i64 t.frm, .int .i64 t.til, .int .i64 t.ev, .int .i64 t.amt, .int .i64 t.deb, .int .i64 t.cre, .slice t.At t.tg.length t.ct, .slice t.Aw t.wt.length t.cw, .int .i64 t.rk]
def isAcc (c : Int) : Bool := inB c 1 9999
/-- Targets that rise, none of them Credit. -/
def tgOk (cre : Int) : Int → List Int → Bool
  | _, [] => true
  | b, x :: r => isAcc x && decide (b < x) && !(x == cre) && tgOk cre x r
def frontT (t : Tpl) : Bool := inB t.id 1 999999 && inB t.ent 1 9 && (okP t.frm && okP t.til) && decide (t.frm ≤ t.til) && inB t.ev 1 60 && inB t.amt 1 1000000000000000 && isAcc t.cre
def accrT (t : Tpl) : Bool := isAcc t.deb && !(t.deb == t.cre) && decide (t.tg.length = 0) && decide (t.wt.length = 0)
def allocT (t : Tpl) : Bool := inB t.tg.length 1 7 && decide (t.wt.length = t.tg.length) && tgOk t.cre 0 t.tg && splitOk t.amt t.wt
def chkT (t : Tpl) : Bool := frontT t && ((decide (t.kind = 1) && accrT t) || (decide (t.kind = 2) && allocT t))
def chkTE (t : Tpl) : Int := if chkT t = true then 0 else 1
theorem tgOk_step {cre b x : Int} {l : List Int} {k : Nat} (hx : l[k]? = some x) : tgOk cre b (l.drop k) = (isAcc x && decide (b < x) && !(x == cre) && tgOk cre x (l.drop (k + 1))) := by
  obtain ⟨hk, rfl⟩ := List.getElem?_eq_some_iff.1 hx
  rw [List.drop_eq_getElem_cons hk]
  rfl
/-- What can be read of a template. -/
structure TplIn (w : World) (t : Tpl) : Prop where
  tg : Rd w w.heap.size 1 t.At t.tg.length (ints .i64 t.tg)
  wt : Rd w w.heap.size 1 t.Aw t.wt.length (ints .i64 t.wt)
  lt : t.tg.length ≤ maxLen
  lw : t.wt.length ≤ maxLen
theorem TplIn.below {w w' : World} {t : Tpl} (h : TplIn w t) (hb : Below w.heap.size w w') : TplIn w' t := ⟨(h.tg.below hb).wide hb.size, (h.wt.below hb).wide hb.size, h.lt, h.lw⟩
def TplAt (w : World) (b : Nat) (t : Tpl) : Prop := w.heap[b]? = some (.cells #[.int .i64 t.kind, .int .i64 t.id, .int .i64 t.ent, .int .i64 t.frm, .int .i64 t.til, .int .i64 t.ev, .int .i64 t.amt, .int .i64 t.deb, .int .i64 t.cre, .slice t.At t.tg.length t.ct, .slice t.Aw t.wt.length t.cw, .int .i64 t.rk] 24 (0, 0))
theorem tpl_cells {w : World} {b : Nat} {t : Tpl} (h : TplAt w b t) :
    (w.cell? ⟨b, 0, none⟩ = some (.int .i64 t.kind) ∧ w.cell? ⟨b, 1, none⟩ = some (.int .i64 t.id) ∧ w.cell? ⟨b, 2, none⟩ = some (.int .i64 t.ent) ∧ w.cell? ⟨b, 3, none⟩ = some (.int .i64 t.frm) ∧ w.cell? ⟨b, 4, none⟩ = some (.int .i64 t.til) ∧ w.cell? ⟨b, 5, none⟩ = some (.int .i64 t.ev)) ∧
    (w.cell? ⟨b, 6, none⟩ = some (.int .i64 t.amt) ∧ w.cell? ⟨b, 7, none⟩ = some (.int .i64 t.deb) ∧ w.cell? ⟨b, 8, none⟩ = some (.int .i64 t.cre) ∧ w.cell? ⟨b, 9, none⟩ = some (.slice t.At t.tg.length t.ct) ∧ w.cell? ⟨b, 10, none⟩ = some (.slice t.Aw t.wt.length t.cw) ∧ w.cell? ⟨b, 11, none⟩ = some (.int .i64 t.rk)) :=
  ⟨⟨cell_of h 0, cell_of h 1, cell_of h 2, cell_of h 3, cell_of h 4, cell_of h 5⟩, cell_of h 6, cell_of h 7, cell_of h 8, cell_of h 9, cell_of h 10, cell_of h 11⟩
theorem TplAt.below {w w' : World} {b : Nat} {t : Tpl} (h : TplAt w b t) (hb : Below w.heap.size w w') : TplAt w' b t := (hb.block _ (lt_of_blk h)).trans h
end Go.Proofs.YtjlokkjbdgcooaaGreat
