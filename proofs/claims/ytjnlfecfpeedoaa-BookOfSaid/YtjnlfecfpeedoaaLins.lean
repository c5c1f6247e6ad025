/-
  Lists of lines, and the statements' helper over them: SameLines.
-/
import Derived.Test.YtjnlfecfpeedoaaOwn
namespace Go.Proofs.Ytjnlfecfpeedoaa
open Go.RowKit

/-- An element. -/
structure Lin where
  acct : Int
  amt : Int
  part : Int
deriving DecidableEq
def Lin.cells (a : Lin) : List Value := [.int .i64 a.acct, .int .i64 a.amt, .int .i64 a.part]
def Lin.val (a : Lin) : Value := .agg #[.int .i64 a.acct, .int .i64 a.amt, .int .i64 a.part]
def lins (l : List Lin) : List Value := l.flatMap Lin.cells
theorem lins_len : ∀ l : List Lin, (lins l).length = l.length * 3
  | [] => rfl
  | a :: l => by have := lins_len l; unfold lins at this ⊢; simp [Lin.cells, this]; omega
theorem lins_append (l m : List Lin) : lins (l ++ m) = lins l ++ lins m := by simp [lins]
theorem lins_at : ∀ (l : List Lin) (k : Nat) (a : Lin), l[k]? = some a → (lins l)[k * 3]? = some (.int .i64 a.acct) ∧ (lins l)[k * 3 + 1]? = some (.int .i64 a.amt) ∧ (lins l)[k * 3 + 2]? = some (.int .i64 a.part)
  | [], k, a, h => by simp at h
  | b :: l, 0, a, h => by
    simp at h; subst h
    exact ⟨rfl, rfl, rfl⟩
  | b :: l, k + 1, a, h => by
    have := lins_at l k a (by simpa using h)
    unfold lins at this ⊢
    simp only [List.flatMap_cons, Lin.cells]
    rw [show (k + 1) * 3 = k * 3 + 3 by omega]
    simpa [List.getElem?_append_right] using this
theorem Rd.lins_len {w : World} {B n : Nat} {A : Option Addr} {l : List Lin} (h : Rd w B 3 A n (lins l)) : l.length = n := by
  have := h.1; rw [Go.Proofs.Ytjnlfecfpeedoaa.lins_len] at this; omega
theorem Rd.lin {w : World} {B n i : Nat} {A : Option Addr} {l : List Lin} (h : Rd w B 3 A n (lins l)) (hi : i < n) :
    ∃ ad a, A = some ad ∧ ad.block < B ∧ l[i]? = some a ∧ w.cell? (ad.add (i * 3)) = some (.int .i64 a.acct) ∧ w.cell? (ad.add (i * 3 + 1)) = some (.int .i64 a.amt) ∧ w.cell? (ad.add (i * 3 + 2)) = some (.int .i64 a.part) := by
  obtain ⟨ad, e, hb, hc⟩ := h.2 (by omega)
  have hl := h.lins_len
  have hg : l[i]? = some l[i] := List.getElem?_eq_getElem (by omega)
  obtain ⟨h1, h2, h3⟩ := lins_at l i _ hg
  exact ⟨ad, _, e, hb, hg, hc _ _ h1, hc _ _ h2, hc _ _ h3⟩

theorem infoLin : (Try.prog.info? 52).map (fun i => (i.zero, i.size, i.bytes)) = some (some (.agg #[.int .i64 0, .int .i64 0, .int .i64 0]), 3, 24) := by kernel_rfl
theorem lin_step {l m : List Lin} {k : Nat} (hk : k < l.length ∧ k < m.length) (h1 : l.take k = m.take k) (h2 : l[k]? = m[k]?) : l.take (k + 1) = m.take (k + 1) := by
  rw [List.take_succ_eq_append_getElem hk.1, List.take_succ_eq_append_getElem hk.2, h1]
  rw [List.getElem?_eq_getElem hk.1, List.getElem?_eq_getElem hk.2] at h2
  injection h2 with h2
  rw [h2]

end Go.Proofs.Ytjnlfecfpeedoaa
