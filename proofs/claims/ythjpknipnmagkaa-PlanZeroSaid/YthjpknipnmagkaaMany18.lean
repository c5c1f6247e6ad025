/-
  Several texts, one behind the other: what each holds stands ahead of it.
-/
import Derived.Test.YthjpknipnmagkaaArgRd
import Derived.Test.YthjpknipnmagkaaMany7
import Derived.Lib.SmallJoins
import Derived.Test.YthjpknipnmagkaaMany6
import Derived.Test.YthjpknipnmagkaaPlanMake

/-
  A template that came in.
-/
namespace Go.Proofs.Ythjpknipnmagkaa
open Mo
open Go.RowKit

theorem agg_of_12 {v : Value} (h : v.cells.toList.length = 12) : ∃ cs, v = .agg cs ∧ v.cells = cs := by
  cases v <;> first | exact ⟨_, rfl, rfl⟩ | (simp [Value.cells] at h)
def Tpl.ok64 (t : Tpl) : Prop := i64ok t.kind ∧ i64ok t.id ∧ i64ok t.ent ∧ i64ok t.frm ∧ i64ok t.til ∧ i64ok t.ev ∧ i64ok t.amt ∧ i64ok t.deb ∧ i64ok t.cre ∧ i64ok t.rk
set_option maxRecDepth 100000 in
set_option maxHeartbeats 2000000 in
theorem argTpl {H : Type} {enc : TypeId × Value → H} {w : World} {base : Nat} {spare : Nat → Bool} {held : Bool} {fuel : Nat} {v : Value} {x : DataW H × List MemPlace}
    (h : DataW.trod enc Try.prog w base spare held fuel 24 v.cells.toList = some x) : ∃ t : Tpl, v = .agg t.cells.toArray ∧ TplIn w t ∧ t.ok64 := by
  obtain ⟨xs, q, _, _, hl, hx, hf⟩ := DataW.trod_struct Try.underlying24 h
  have hl : v.cells.toList.length = 12 := hl.trans (by kernel_rfl)
  have hx : xs.length = 12 := hx
  obtain ⟨cs, rfl, hcs⟩ := agg_of_12 hl
  rw [hcs] at hl hf
  obtain ⟨l⟩ := cs
  match l, hl with
  | [c0, c1, c2, c3, c4, c5, c6, c7, c8, c9, c10, c11], _ =>
    obtain ⟨y0, h0⟩ := part_at (k := 1) (by kernel_rfl) (hf 0 _ rfl) (by omega)
    obtain ⟨y1, h1⟩ := part_at (k := 1) (by kernel_rfl) (hf 1 _ rfl) (by omega)
    obtain ⟨y2, h2⟩ := part_at (k := 1) (by kernel_rfl) (hf 2 _ rfl) (by omega)
    obtain ⟨y3, h3⟩ := part_at (k := 1) (by kernel_rfl) (hf 3 _ rfl) (by omega)
    obtain ⟨y4, h4⟩ := part_at (k := 1) (by kernel_rfl) (hf 4 _ rfl) (by omega)
    obtain ⟨y5, h5⟩ := part_at (k := 1) (by kernel_rfl) (hf 5 _ rfl) (by omega)
    obtain ⟨y6, h6⟩ := part_at (k := 1) (by kernel_rfl) (hf 6 _ rfl) (by omega)
    obtain ⟨y7, h7⟩ := part_at (k := 1) (by kernel_rfl) (hf 7 _ rfl) (by omega)
    obtain ⟨y8, h8⟩ := part_at (k := 1) (by kernel_rfl) (hf 8 _ rfl) (by omega)
    obtain ⟨y9, h9⟩ := part_at (k := 1) (by kernel_rfl) (hf 9 _ rfl) (by omega)
    obtain ⟨y10, h10⟩ := part_at (k := 1) (by kernel_rfl) (hf 10 _ rfl) (by omega)
    obtain ⟨y11, h11⟩ := part_at (k := 1) (by kernel_rfl) (hf 11 _ rfl) (by omega)
    obtain ⟨n0, e0, _, w0⟩ := DataW.trod_int Try.underlying3 h0
    obtain ⟨n1, e1, _, w1⟩ := DataW.trod_int Try.underlying3 h1
    obtain ⟨n2, e2, _, w2⟩ := DataW.trod_int Try.underlying3 h2
    obtain ⟨n3, e3, _, w3⟩ := DataW.trod_int Try.underlying3 h3
    obtain ⟨n4, e4, _, w4⟩ := DataW.trod_int Try.underlying3 h4
    obtain ⟨n5, e5, _, w5⟩ := DataW.trod_int Try.underlying3 h5
    obtain ⟨n6, e6, _, w6⟩ := DataW.trod_int Try.underlying3 h6
    obtain ⟨n7, e7, _, w7⟩ := DataW.trod_int Try.underlying3 h7
    obtain ⟨n8, e8, _, w8⟩ := DataW.trod_int Try.underlying3 h8
    obtain ⟨n11, e11, _, w11⟩ := DataW.trod_int Try.underlying3 h11
    obtain ⟨A9, n9, c9', e9⟩ := Joins.slice_form Try.underlying22 h9
    obtain ⟨A10, n10, c10', e10⟩ := Joins.slice_form Try.underlying22 h10
    simp at e0 e1 e2 e3 e4 e5 e6 e7 e8 e9 e10 e11
    subst e0 e1 e2 e3 e4 e5 e6 e7 e8 e9 e10 e11
    obtain ⟨L9, hL9⟩ := argInts (A := A9) (n := n9) (c := c9') (fuel := q) (x := y9) h9
    obtain ⟨L10, hL10⟩ := argInts (A := A10) (n := n10) (c := c10') (fuel := q) (x := y10) h10
    have r9 := hL9.ints; have r10 := hL10.ints
    obtain rfl := r9.ints_len
    obtain rfl := r10.ints_len
    exact ⟨⟨n0, n1, n2, n3, n4, n5, n6, n7, n8, L9, L10, A9, c9', A10, c10', n11⟩, rfl, ⟨r9, r10, hL9.len, hL10.len⟩, bounds_i64 w0, bounds_i64 w1, bounds_i64 w2, bounds_i64 w3, bounds_i64 w4, bounds_i64 w5, bounds_i64 w6, bounds_i64 w7, bounds_i64 w8, bounds_i64 w11⟩
end Go.Proofs.Ythjpknipnmagkaa

/-
  The sum of an account over lines. No code.
-/
namespace Go.Proofs.Ythjpknipnmagkaa
open Go.RowKit

def linSum (a : Int) : List Lin → Int
  | [] => 0
  | x :: r => (if x.acct = a then x.amt else 0) + linSum a r
theorem linSum_append (a : Int) : ∀ l m : List Lin, linSum a (l ++ m) = linSum a l + linSum a m
  | [], m => by simp [linSum]
  | x :: r, m => by simp only [List.cons_append, linSum, linSum_append a r m]; omega
theorem linSum_step {a : Int} {l : List Lin} {k : Nat} {x : Lin} (h : l[k]? = some x) : linSum a (l.take (k + 1)) = linSum a (l.take k) + if x.acct = a then x.amt else 0 := by
  obtain ⟨hk, rfl⟩ := List.getElem?_eq_some_iff.1 h
  rw [List.take_succ_eq_append_getElem hk, linSum_append]
  simp [linSum]
theorem linSum_bound {a : Int} : ∀ {l : List Lin}, (∀ x ∈ l, -1000000000000000 ≤ x.amt ∧ x.amt ≤ 1000000000000000) → -(1000000000000000 * (l.length : Int)) ≤ linSum a l ∧ linSum a l ≤ 1000000000000000 * (l.length : Int)
  | [], _ => by simp [linSum]
  | x :: r, h => by
    have h1 := linSum_bound (a := a) fun y hy => h y (List.mem_cons_of_mem _ hy)
    have h2 := h x (List.mem_cons_self ..)
    rw [linSum, List.length_cons]
    split <;> omega
theorem linSum_out {a : Int} : ∀ {l : List Lin}, (∀ x ∈ l, x.acct ≠ a) → linSum a l = 0
  | [], _ => rfl
  | x :: r, h => by
    rw [linSum, if_neg (h x (List.mem_cons_self ..)), linSum_out fun y hy => h y (List.mem_cons_of_mem _ hy)]
    rfl
/-- The sum of several accounts, one behind the other. -/
def accSum (L : List Lin) : List Int → Int
  | [] => 0
  | a :: r => linSum a L + accSum L r
theorem accSum_append (L : List Lin) : ∀ p q : List Int, accSum L (p ++ q) = accSum L p + accSum L q
  | [], q => by simp [accSum]
  | a :: r, q => by simp only [List.cons_append, accSum, accSum_append L r q]; omega
theorem accSum_step {L : List Lin} {p : List Int} {k : Nat} {a : Int} (h : p[k]? = some a) : accSum L (p.take (k + 1)) = accSum L (p.take k) + linSum a L := by
  obtain ⟨hk, rfl⟩ := List.getElem?_eq_some_iff.1 h
  rw [List.take_succ_eq_append_getElem hk, accSum_append]
  simp [accSum]
theorem accSum_nil : ∀ p : List Int, accSum [] p = 0
  | [] => rfl
  | a :: r => by rw [accSum, accSum_nil r]; rfl
theorem accSum_cons (x : Lin) (L : List Lin) : ∀ p : List Int, accSum (x :: L) p = accSum [x] p + accSum L p
  | [] => rfl
  | a :: r => by
    have := accSum_cons x L r
    simp only [accSum, linSum] at this ⊢
    omega
theorem accSum_one (x : Lin) : ∀ p : List Int, p.Nodup → accSum [x] p = if x.acct ∈ p then x.amt else 0
  | [], _ => rfl
  | a :: r, h => by
    have h2 := List.nodup_cons.1 h
    have ih := accSum_one x r h2.2
    rw [accSum, ih]
    by_cases e : x.acct = a
    · subst e
      rw [if_neg h2.1, if_pos (List.mem_cons_self ..)]
      simp [linSum]
    · have : (x.acct ∈ a :: r) ↔ x.acct ∈ r := by simp [e]
      simp [linSum, e]
/-- Whose accounts are all among some: their sums come to the whole. -/
theorem accSum_all : ∀ (L : List Lin) {p : List Int}, p.Nodup → (∀ x ∈ L, x.acct ∈ p) → accSum L p = sumA L
  | [], p, _, _ => accSum_nil p
  | x :: r, p, hp, h => by
    rw [accSum_cons, accSum_one x p hp, if_pos (h x (List.mem_cons_self ..)), accSum_all r hp fun y hy => h y (List.mem_cons_of_mem _ hy)]
    unfold sumA
    rw [List.foldl_cons]
    have : ∀ (l : List Lin) (n : Int), l.foldl (fun n x => n + x.amt) n = n + l.foldl (fun n x => n + x.amt) 0 := by
      intro l
      induction l with
      | nil => intro n; simp
      | cons y r ih => intro n; rw [List.foldl_cons, List.foldl_cons, ih (n + y.amt), ih (0 + y.amt)]; omega
    rw [this r (0 + x.amt)]
    omega
end Go.Proofs.Ythjpknipnmagkaa

/-
  A template's journals come to nothing. No code.
-/
namespace Go.Proofs.Ythjpknipnmagkaa
open Mo
open Go.RowKit

def linesOf (l : List Jrn) : List Lin := l.flatMap fun j => j.lines
theorem linSum_turn (a : Int) : ∀ l : List Lin, linSum a (turnL l) = -linSum a l
  | [] => rfl
  | x :: r => by
    show linSum a (negL x :: turnL r) = _
    rw [linSum, linSum, linSum_turn a r]
    unfold negL
    dsimp only
    split <;> omega
theorem tgOk_all {cre : Int} : ∀ {l : List Int} {b : Int}, tgOk cre b l = true → (∀ x ∈ l, b < x ∧ x ≠ cre ∧ 1 ≤ x ∧ x ≤ 9999) ∧ l.Nodup
  | [], _, _ => ⟨fun _ h => (by cases h), List.nodup_nil⟩
  | x :: r, b, h => by
    unfold tgOk at h
    simp only [Bool.and_eq_true, decide_eq_true_eq, Bool.not_eq_true', beq_eq_false_iff_ne] at h
    obtain ⟨⟨⟨h1, h2⟩, h3⟩, h4⟩ := h
    obtain ⟨k1, k2⟩ := tgOk_all h4
    have h5 := inB_iff.1 h1
    refine ⟨fun y hy => ?_, List.nodup_cons.2 ⟨fun hm => ?_, k2⟩⟩
    · rcases List.mem_cons.1 hy with rfl | hy
      · exact ⟨h2, h3, h5⟩
      · have := k1 y hy
        exact ⟨by omega, this.2⟩
    · have := (k1 x hm).1
      omega
theorem lnsOf_acct : ∀ {tg ps : List Int} {x : Lin}, x ∈ lnsOf tg ps → x.acct ∈ tg
  | [], _, x, h => by unfold lnsOf at h; cases h
  | _ :: _, [], x, h => by unfold lnsOf at h; cases h
  | y :: r, q :: s, x, h => by
    unfold lnsOf at h
    split at h
    · exact List.mem_cons_of_mem _ (lnsOf_acct h)
    · rcases List.mem_cons.1 h with rfl | h
      · exact List.mem_cons_self ..
      · exact List.mem_cons_of_mem _ (lnsOf_acct h)
theorem sumA_append (l m : List Lin) : sumA (l ++ m) = sumA l + sumA m := by
  unfold sumA
  rw [List.foldl_append]
  have : ∀ (l : List Lin) (n : Int), l.foldl (fun n x => n + x.amt) n = n + l.foldl (fun n x => n + x.amt) 0 := by
    intro l
    induction l with
    | nil => intro n; simp
    | cons y r ih => intro n; rw [List.foldl_cons, List.foldl_cons, ih (n + y.amt), ih (0 + y.amt)]; omega
  exact this m _
theorem checkE_sum {j : Jrn} (h : checkE j = 0) : sumA j.lines = 0 := by
  unfold checkE at h
  split at h
  · split at h
    · split at h
      · assumption
      · cases h
    · cases h
  · cases h
/-- What an allocation posts, by its targets, and by Credit. -/
theorem zero_all {t : Tpl} {per id : Int} (hc : allocT t = true) (hj : checkE (allJ t per id) = 0) : accSum (linesOf [allJ t per id]) t.tg = t.amt ∧ linSum t.cre (linesOf [allJ t per id]) = -t.amt := by
  unfold allocT at hc
  simp only [Bool.and_eq_true] at hc
  obtain ⟨h1, h2⟩ := tgOk_all hc.1.2
  have hs := checkE_sum hj
  have hL : linesOf [allJ t per id] = lnsOf t.tg (partsT t.amt t.wt) ++ [⟨t.cre, -t.amt, 0⟩] := by simp [linesOf, allJ]
  have hs2 : sumA (lnsOf t.tg (partsT t.amt t.wt)) = t.amt := by
    have : sumA (lnsOf t.tg (partsT t.amt t.wt) ++ [⟨t.cre, -t.amt, 0⟩]) = 0 := hs
    rw [sumA_append] at this
    simp [sumA] at this ⊢
    omega
  have hcre : t.cre ∉ t.tg := fun hm => (h1 _ hm).2.1 rfl
  rw [hL]
  constructor
  · have e1 := accSum_all (lnsOf t.tg (partsT t.amt t.wt)) h2 fun x hx => lnsOf_acct hx
    have e2 : ∀ (L M : List Lin) (p : List Int), accSum (L ++ M) p = accSum L p + accSum M p := by
      intro L M p
      induction p with
      | nil => rfl
      | cons a r ih => simp only [accSum, linSum_append, ih]; omega
    rw [e2, e1, hs2, accSum_one _ _ h2, if_neg hcre]
    omega
  · rw [linSum_append, linSum_out fun x hx e => hcre (by rw [← show x.acct = t.cre from e]; exact lnsOf_acct hx)]
    simp [linSum]
/-- What an accrual and its turning post. -/
theorem zero_accr (t : Tpl) (per id a : Int) (h : per < 1199) : linSum a (linesOf (accL t per id)) = 0 := by
  unfold accL
  rw [if_pos h]
  show linSum a (linesOf [accJ t per id, revJ (accJ t per id) (id + 1) (per + 1)]) = 0
  have : linesOf [accJ t per id, revJ (accJ t per id) (id + 1) (per + 1)] = (accJ t per id).lines ++ turnL (accJ t per id).lines := by simp [linesOf, revJ]
  rw [this, linSum_append, linSum_turn]
  omega
/-- What holds of each journal that is made. -/
theorem mkL_plain (t : Tpl) (per id : Int) : ∀ j ∈ mkL t per id, j.ref = ⟨#[]⟩ ∧ j.void = false := by
  intro j hj
  unfold mkL accL at hj
  split at hj
  · rcases List.mem_cons.1 hj with rfl | hj
    · exact ⟨rfl, rfl⟩
    · split at hj
      · rw [List.mem_singleton] at hj; subst hj; exact ⟨rfl, rfl⟩
      · cases hj
  · rw [List.mem_singleton] at hj; subst hj; exact ⟨rfl, rfl⟩
theorem mkB_check {t : Tpl} {per id : Int} (h : mkB t per id = true) : chkT t = true ∧ ∀ j ∈ mkL t per id, checkE j = 0 := by
  unfold mkB at h
  simp only [Bool.and_eq_true, Bool.not_eq_true', List.any_eq_false] at h
  exact ⟨h.1.1, fun j hj => by simpa using h.2 j hj⟩
theorem mkL_len2 (t : Tpl) (per id : Int) : (mkL t per id).length ≤ 2 := by
  unfold mkL accL
  split <;> simp <;> split <;> simp
theorem chk_kind {t : Tpl} (h : chkT t = true) : (t.kind = 1 ∧ accrT t = true) ∨ (t.kind = 2 ∧ allocT t = true) := by
  unfold chkT at h
  simp only [Bool.and_eq_true, Bool.or_eq_true, decide_eq_true_eq] at h
  exact h.2
theorem linesOf_step {l : List Jrn} {k : Nat} {j : Jrn} (h : l[k]? = some j) : linesOf (l.take (k + 1)) = linesOf (l.take k) ++ j.lines := by
  obtain ⟨hk, rfl⟩ := List.getElem?_eq_some_iff.1 h
  unfold linesOf
  rw [List.take_succ_eq_append_getElem hk, List.flatMap_append]
  simp
end Go.Proofs.Ythjpknipnmagkaa
