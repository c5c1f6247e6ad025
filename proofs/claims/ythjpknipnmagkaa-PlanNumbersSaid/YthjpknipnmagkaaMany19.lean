/-
  Several texts, one behind the other: what each holds stands ahead of it.
-/
import Derived.Test.YthjpknipnmagkaaPlanRun
import Derived.Test.YthjpknipnmagkaaEntryCheck2

/-
  Journals that run up: their numbers, their order. No code.
-/
namespace Go.Proofs.Ythjpknipnmagkaa
open Mo
open Go.RowKit Go.Sort

/-- Is b what undoes a, one period on? -/
def turnedJ (a b : Jrn) : Bool := decide (b.lines.length = 2) && decide (b.per = a.per + 1) && decide (b.lines.head?.map Lin.amt = a.lines.head?.map fun x => -x.amt) && decide (b.lines.head?.map Lin.acct = a.lines.head?.map Lin.acct)
def turnedO : Option Jrn → Jrn → Bool
  | none, _ => false
  | some a, b => turnedJ a b
/-- The statement's loop. -/
def loopN : Option Jrn → Int → List Jrn → Bool
  | _, _, [] => true
  | pr, last, j :: r => (turnedO pr j || decide (last ≤ j.per)) && loopN (some j) (if turnedO pr j = true then last else j.per) r
/-- Journals of items in their order, none of a period ahead of p. -/
inductive Groups : Int → List Jrn → Prop
  | nil (p : Int) : Groups p []
  | one {p : Int} {j : Jrn} {r : List Jrn} : p ≤ j.per → Groups j.per r → Groups p (j :: r)
  | two {p : Int} {j k : Jrn} {r : List Jrn} : p ≤ j.per → turnedJ j k = true → Groups j.per r → Groups p (j :: k :: r)
theorem Groups.loop {p : Int} {js : List Jrn} (h : Groups p js) : ∀ (pr : Option Jrn) (last : Int), last ≤ p → loopN pr last js = true := by
  induction h with
  | nil => intro _ _ _; rfl
  | @one p j r h1 _ ih =>
    intro pr last hl
    unfold loopN
    rw [decide_eq_true (show last ≤ j.per by omega), Bool.or_true, Bool.true_and]
    refine ih _ _ ?_
    split <;> omega
  | @two p j k r h1 h2 _ ih =>
    intro pr last hl
    unfold loopN
    rw [decide_eq_true (show last ≤ j.per by omega), Bool.or_true, Bool.true_and]
    unfold loopN
    rw [show turnedO (some j) k = true from h2, Bool.true_or, Bool.true_and, if_pos rfl]
    refine ih _ _ ?_
    split <;> omega
theorem turned_rev (t : Tpl) (per id : Int) : turnedJ (accJ t per id) (revJ (accJ t per id) (id + 1) (per + 1)) = true := by
  unfold turnedJ
  simp [accJ, revJ, turnL, negL]
/-- Items whose periods rise, from p on. -/
def FromP (p : Int) : List Itm → Prop
  | [] => True
  | x :: r => p ≤ x.per ∧ FromP x.per r
theorem fromP_of_rises : ∀ {L : List Itm} {p : Int}, Rises L → (∀ x ∈ L, p ≤ x.per) → FromP p L
  | [], _, _, _ => trivial
  | x :: r, p, h, hp => by
    have h2 := List.pairwise_cons.1 h
    refine ⟨hp x (List.mem_cons_self ..), fromP_of_rises h2.2 fun y hy => ?_⟩
    have := h2.1 y hy
    unfold itmLt at this
    simp at this
    omega
theorem groups_mk {t : Tpl} {per id p : Int} {r : List Jrn} (hp : p ≤ per) (h : Groups per r) : Groups p (mkL t per id ++ r) := by
  unfold mkL
  split
  · unfold accL
    split
    · exact Groups.two (j := accJ t per id) hp (turned_rev t per id) h
    · exact Groups.one (j := accJ t per id) hp h
  · exact Groups.one (j := allJ t per id) hp h
/-- What runs up, beside what stood. -/
theorem runT_groups {l : List Tpl} {first : Int} : ∀ {L : List Itm} {acc js : List Jrn} {p : Int}, FromP p L → runT l first L acc = some js → ∃ tail, js = acc ++ tail ∧ Groups p tail
  | [], acc, js, p, _, h => by
    have : some acc = some js := h
    injection this with this
    exact ⟨[], by rw [this, List.append_nil], Groups.nil p⟩
  | x :: r, acc, js, p, hf, h => by
    unfold runT at h
    split at h
    · rename_i t _
      split at h
      · obtain ⟨tail, e, hg⟩ := runT_groups hf.2 h
        exact ⟨mkL t x.per (first + acc.length) ++ tail, by rw [e, List.append_assoc], groups_mk hf.1 hg⟩
      · cases h
    · cases h
def Numbered (first : Int) (js : List Jrn) : Prop := ∀ (i : Nat) (j : Jrn), js[i]? = some j → j.id = first + i
theorem mkL_ids (t : Tpl) (per id : Int) : Numbered id (mkL t per id) := by
  intro i j h
  unfold mkL at h
  split at h
  · unfold accL at h
    split at h
    · match i, h with
      | 0, h => simp at h; subst h; simp [accJ]
      | 1, h => simp at h; subst h; simp [revJ]
      | i + 2, h => simp at h
    · match i, h with
      | 0, h => simp at h; subst h; simp [accJ]
      | i + 1, h => simp at h
  · match i, h with
    | 0, h => simp at h; subst h; simp [allJ]
    | i + 1, h => simp at h
theorem Numbered.append {first : Int} {a b : List Jrn} (ha : Numbered first a) (hb : Numbered (first + a.length) b) : Numbered first (a ++ b) := by
  intro i j h
  rcases Nat.lt_or_ge i a.length with hi | hi
  · rw [List.getElem?_append_left hi] at h
    exact ha i j h
  · rw [List.getElem?_append_right hi] at h
    have := hb _ j h
    omega
theorem runT_numbers {l : List Tpl} {first : Int} : ∀ {L : List Itm} {acc js : List Jrn}, Numbered first acc → (∀ j ∈ acc, checkE j = 0) → runT l first L acc = some js → Numbered first js ∧ ∀ j ∈ js, checkE j = 0
  | [], acc, js, hn, hc, h => by
    have : some acc = some js := h
    injection this with this
    subst this
    exact ⟨hn, hc⟩
  | x :: r, acc, js, hn, hc, h => by
    unfold runT at h
    split at h
    · rename_i t _
      split at h
      · rename_i hm
        refine runT_numbers (hn.append (mkL_ids _ _ _)) (fun j hj => ?_) h
        rcases List.mem_append.1 hj with hj | hj
        · exact hc j hj
        · unfold mkB at hm
          simp only [Bool.and_eq_true, Bool.not_eq_true', List.any_eq_false] at hm
          simpa using hm.2 j hj
      · cases h
    · cases h
end Go.Proofs.Ythjpknipnmagkaa

/-
  Contracts of the reference's refByte, Fits, Check.
-/
namespace Go.Proofs.Ythjpknipnmagkaa
open Go.RowKit

def refBI (x : Int) : Bool := decide (65 ≤ x ∧ x ≤ 90) || decide (48 ≤ x ∧ x ≤ 57)
set_option maxHeartbeats 400000 in
theorem refByte_any (x : Int) (w : World) :
    Calls Try.prog 37 #[.int .u8 x] w fun e w' => e = .returned (.bool (refBI x)) ∧ w = w' := by
  go_enter Try.func37, Try.ntmps37
  go_wp2
  all_goals
    go_ret
    exact ⟨ret_bool (by unfold refBI; rw [Bool.eq_iff_iff]; simp; try omega), rfl⟩
set_option maxHeartbeats 400000 in
theorem refFits_any (x : Int) (w : World) :
    Calls Try.prog 27 #[.int .i64 x] w fun e w' => e = .returned (.bool (fits1 x)) ∧ w = w' := by
  go_enter Try.func27, Try.ntmps27
  go_wp2
  all_goals
    go_ret
    exact ⟨ret_bool (by unfold fits1; rw [Bool.eq_iff_iff]; simp; try omega), rfl⟩

theorem front_no_id {j : Jrn} (h : j.id < 1 ∨ 999999 < j.id) : checkE j = 1 := checkE_front (by unfold frontOk inB; simp; omega)
theorem front_no_ent {j : Jrn} (h : j.ent < 1 ∨ 9 < j.ent) : checkE j = 1 := checkE_front (by unfold frontOk inB; simp; omega)
theorem front_no_per {j : Jrn} (h : okP j.per = false) : checkE j = 1 := checkE_front (by unfold frontOk; simp [h])
theorem front_no_len {j : Jrn} (h : 8 < j.ref.size) : checkE j = 1 := checkE_front (by
  have : decide (j.ref.data.toList.length ≤ 8) = false := by rw [Array.length_toList]; simp; exact h
  unfold frontOk refOk; rw [this]; simp)
theorem front_no_ref {j : Jrn} (h : refAll j.ref.data.toList = false) : checkE j = 1 := checkE_front (by unfold frontOk refOk; rw [h]; simp)
theorem lines_no_len {j : Jrn} (h : j.lines.length < 2 ∨ 8 < j.lines.length) : checkE j = 1 := checkE_lines (by
  unfold linesOk
  have : inB (j.lines.length : Int) 2 8 = false := by unfold inB; simp; omega
  rw [this]; rfl)
theorem lines_no {j : Jrn} (h : linesAll j.ent j.lines = false) : checkE j = 1 := checkE_lines (by unfold linesOk; rw [h, Bool.and_false])
theorem front_yes {j : Jrn} (h1 : 1 ≤ j.id ∧ j.id ≤ 999999) (h2 : 1 ≤ j.ent ∧ j.ent ≤ 9) (h3 : okP j.per = true) (h4 : j.ref.size ≤ 8) (h5 : refAll j.ref.data.toList = true) : frontOk j = true := by
  have : decide (j.ref.data.toList.length ≤ 8) = true := by rw [Array.length_toList]; simp; exact h4
  unfold frontOk refOk inB; rw [this, h3, h5]; simp; omega
theorem lines_yes {j : Jrn} (h1 : 2 ≤ j.lines.length ∧ j.lines.length ≤ 8) (h2 : linesAll j.ent j.lines = true) : linesOk j = true := by
  unfold linesOk
  have : inB (j.lines.length : Int) 2 8 = true := by unfold inB; simp; omega
  rw [this, h2]; rfl

set_option maxRecDepth 100000 in
set_option maxHeartbeats 2000000 in
theorem refCheck_bad (j : Jrn) (A : Option Addr) (n c : Nat) (w : World) (HL : Hid (j.lines.length = n))
    (h : (j.id < 1 ∨ 999999 < j.id) ∨ (j.ent < 1 ∨ 9 < j.ent) ∨ okP j.per = false ∨ 8 < j.ref.size ∨ n < 2 ∨ 8 < n) :
    Calls Try.prog 13 #[j.val A n c] w fun e w' => e = .returned (.int .i64 (checkE j)) ∧ Below w.heap.size w w' := by
  have hE : checkE j = 1 := by
    rcases h with h | h | h | h | h
    · exact front_no_id h
    · exact front_no_ent h
    · exact front_no_per h
    · exact front_no_len h
    · exact lines_no_len (by rw [HL.out]; exact h)
  rw [hE]
  clear hE
  have kv := fun (p : Int) (w : World) => refValid_any p w
  unfold Jrn.val
  obtain ⟨id, ent, per, ref, L, void⟩ := j
  dsimp only at *
  have HB : Hid (∀ o, Below w.heap.size w (w.alloc o)) := fun o => (Below.refl _ _).alloc (Nat.le_refl _) o
  by_cases a1 : id < 1
  · clear h
    go_enter Try.func13, Try.ntmps13
    go_wp2_with fail
    go_ret
    exact ⟨rfl, HB.out _⟩
  by_cases a2 : 999999 < id
  · clear h
    go_enter Try.func13, Try.ntmps13
    go_wp2_with fail
    go_ret
    exact ⟨rfl, HB.out _⟩
  by_cases a3 : ent < 1
  · clear h
    go_enter Try.func13, Try.ntmps13
    go_wp2_with fail
    go_ret
    exact ⟨rfl, HB.out _⟩
  by_cases a4 : 9 < ent
  · clear h
    go_enter Try.func13, Try.ntmps13
    go_wp2_with fail
    go_ret
    exact ⟨rfl, HB.out _⟩
  cases a5 : okP per
  · clear h
    go_enter Try.func13, Try.ntmps13
    go_wp2_with (go_at_call 28; refine (refValid_any _ _).mono ?_; rintro e w' ⟨rfl, rfl⟩)
    go_ret
    exact ⟨rfl, HB.out _⟩
  by_cases a6 : 8 < ref.size
  · clear h
    go_enter Try.func13, Try.ntmps13
    go_wp2_with (go_at_call 28; refine (refValid_any _ _).mono ?_; rintro e w' ⟨rfl, rfl⟩)
    go_ret
    exact ⟨rfl, HB.out _⟩
  by_cases a7 : n < 2
  · clear h
    go_enter Try.func13, Try.ntmps13
    go_wp2_with (go_at_call 28; refine (refValid_any _ _).mono ?_; rintro e w' ⟨rfl, rfl⟩)
    go_ret
    exact ⟨rfl, HB.out _⟩
  by_cases a8 : 8 < n
  · clear h
    go_enter Try.func13, Try.ntmps13
    go_wp2_with (go_at_call 28; refine (refValid_any _ _).mono ?_; rintro e w' ⟨rfl, rfl⟩)
    go_ret
    exact ⟨rfl, HB.out _⟩
  · exfalso
    rw [a5] at h
    simp at h
    omega
end Go.Proofs.Ythjpknipnmagkaa
