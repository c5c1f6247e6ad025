/-
  A journal with some of its parts put anew. No code.
-/
import Derived.Test.YtakjiehncoankaaDoorReverseMath
import Derived.Test.YtakjiehncoankaaDoorRefCheck2
namespace Go.Proofs.YtakjiehncoankaaDoor
open Go.RowKit

def headL (l : List Lin) (a p : Int) : List Lin := match l with | [] => [] | x :: r => ⟨a, x.amt, p⟩ :: r
def partJ (j : Jrn) (id ent per : Int) (ref : ByteArray) (a p : Int) : Jrn := ⟨id, ent, per, ref, headL j.lines a p, j.void⟩
def okF (id ent per : Int) (rs : Nat) (a p : Int) : Bool := decide (1 ≤ id) && decide (id ≤ 999999) && decide (1 ≤ ent) && decide (ent ≤ 9) && decide (0 ≤ per) && decide (per ≤ 1199) && decide (rs ≤ 8) && decide (1 ≤ a) && decide (a ≤ 9999) && decide (0 ≤ p) && decide (p ≤ 9) && !(p == ent)
def awayL (e : Int) (l : List Lin) : Bool := l.all fun x => !(x.part == e)
theorem headL_len (l : List Lin) (a p : Int) : (headL l a p).length = l.length := by cases l <;> rfl
theorem headL_drop (l : List Lin) (a p : Int) : (headL l a p).drop 1 = l.drop 1 := by cases l <;> rfl
theorem awayL_step {e : Int} {l : List Lin} {k : Nat} {x : Lin} (hk : 1 ≤ k) (hx : l[k]? = some x) : awayL e ((l.take (k + 1)).drop 1) = (awayL e ((l.take k).drop 1) && !(x.part == e)) := by
  obtain ⟨hlt, rfl⟩ := List.getElem?_eq_some_iff.1 hx
  rw [List.take_succ_eq_append_getElem hlt, List.drop_append_of_le_length (by rw [List.length_take]; omega)]
  unfold awayL
  rw [List.all_append]
  simp
theorem refAll_next {l : List UInt8} {k : Nat} {x : UInt8} (hx : l[k]? = some x) : refAll (l.take (k + 1)) = (refAll (l.take k) && refB x) := by
  obtain ⟨hlt, rfl⟩ := List.getElem?_eq_some_iff.1 hx
  rw [List.take_succ_eq_append_getElem hlt]
  unfold refAll
  rw [List.all_append]
  simp
theorem check_part {j : Jrn} (h : checkE j = 0) (id ent per : Int) (ref : ByteArray) (a p : Int) :
    checkE (partJ j id ent per ref a p) = if (okF id ent per ref.size a p && refAll ref.data.toList && awayL ent (j.lines.drop 1)) = true then 0 else 1 := by
  obtain ⟨_, h2, h3, h4⟩ := checkE_ok h
  have hlen := linesOk_len h2
  obtain ⟨i0, e0, p0, r0, L, v0⟩ := j
  dsimp only at *
  cases L with
  | nil => simp at hlen
  | cons x r =>
    unfold linesOk at h2
    rw [Bool.and_eq_true] at h2
    obtain ⟨hin, hall⟩ := h2
    dsimp only at hin hall
    unfold linesAll at hall
    rw [List.all_cons, Bool.and_eq_true] at hall
    obtain ⟨hx, hr⟩ := hall
    have hfit : fitsL (headL (x :: r) a p) = true := by
      unfold fitsL headL at *
      rw [List.all_cons] at h3 ⊢
      exact h3
    have hsum : sumA (headL (x :: r) a p) = 0 := by
      rw [sumA_cons] at h4
      show sumA (⟨a, x.amt, p⟩ :: r) = 0
      rw [sumA_cons]
      exact h4
    have hamt : (x.amt == 0) = false := by
      unfold lineOk at hx
      cases hq : (x.amt == 0)
      · rfl
      · rw [hq] at hx; simp at hx
    have hre : linesAll ent r = awayL ent r := by
      rw [Bool.eq_iff_iff]
      unfold linesAll awayL
      rw [List.all_eq_true, List.all_eq_true]
      constructor
      · intro hh y hy
        have := hh y hy
        unfold lineOk at this
        rw [Bool.and_eq_true] at this
        exact this.2
      · intro hh y hy
        have h5 := (List.all_eq_true.1 hr) y hy
        unfold lineOk at h5 ⊢
        rw [Bool.and_eq_true] at h5 ⊢
        exact ⟨h5.1, hh y hy⟩
    have hl : linesAll ent (headL (x :: r) a p) = (inB a 1 9999 && inB p 0 9 && !(p == ent) && awayL ent r) := by
      rw [← hre]
      show (lineOk ent ⟨a, x.amt, p⟩ && linesAll ent r) = _
      unfold lineOk
      rw [hamt]
      simp
    have hinn : inB ((headL (x :: r) a p).length : Int) 2 8 = true := by rw [headL_len]; exact hin
    have hrs : decide (ref.data.toList.length ≤ 8) = decide (ref.size ≤ 8) := by rw [Array.length_toList]; rfl
    have key : (frontOk (partJ ⟨i0, e0, p0, r0, x :: r, v0⟩ id ent per ref a p) && linesOk (partJ ⟨i0, e0, p0, r0, x :: r, v0⟩ id ent per ref a p)) = (okF id ent per ref.size a p && refAll ref.data.toList && awayL ent r) := by
      unfold frontOk linesOk partJ refOk
      dsimp only
      rw [hl, hinn, hrs]
      unfold inB okP okF
      generalize refAll ref.data.toList = b1
      generalize awayL ent r = b2
      cases b1 <;> cases b2 <;> cases (p == ent) <;> simp
      rw [Bool.eq_iff_iff]
      simp
      omega
    show (if (frontOk (partJ ⟨i0, e0, p0, r0, x :: r, v0⟩ id ent per ref a p) && linesOk (partJ ⟨i0, e0, p0, r0, x :: r, v0⟩ id ent per ref a p)) = true then if fitsL (headL (x :: r) a p) = true then if sumA (headL (x :: r) a p) = 0 then 0 else 3 else 2 else 1 : Int) = _
    rw [key, if_pos hfit, if_pos hsum]
    rfl
end Go.Proofs.YtakjiehncoankaaDoor
