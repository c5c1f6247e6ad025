/-
  Several texts, one behind the other: what each holds stands ahead of it.
-/
import Derived.Test.YtmgncoialppmpaaGreatMany3
import Derived.Test.YtmgncoialppmpaaGreatMany2

/-
  Journals: whether they may be. No code.
-/
namespace Go.Proofs.YtmgncoialppmpaaGreat
open Go.RowKit

structure Jrn where
  id : Int
  ent : Int
  per : Int
  ref : ByteArray
  lines : List Lin
  void : Bool
/-- A journal as a value; its lines lie at A. -/
def Jrn.val (j : Jrn) (A : Option Addr) (n c : Nat) : Value := .agg #[.int .i64 j.id, .int .i64 j.ent, .int .i64 j.per, .string j.ref, .slice A n c, .bool j.void]
def inB (n a b : Int) : Bool := decide (a ≤ n) && decide (n ≤ b)
def refB (c : UInt8) : Bool := decide (65 ≤ c.toNat ∧ c.toNat ≤ 90) || decide (48 ≤ c.toNat ∧ c.toNat ≤ 57)
def refAll (l : List UInt8) : Bool := l.all refB
def refOk (l : List UInt8) : Bool := decide (l.length ≤ 8) && refAll l
def lineOk (ent : Int) (l : Lin) : Bool := inB l.acct 1 9999 && !(l.amt == 0) && inB l.part 0 9 && !(l.part == ent)
def frontOk (j : Jrn) : Bool := inB j.id 1 999999 && inB j.ent 1 9 && okP j.per && refOk j.ref.data.toList
def linesAll (ent : Int) (l : List Lin) : Bool := l.all (lineOk ent)
def linesOk (j : Jrn) : Bool := inB j.lines.length 2 8 && linesAll j.ent j.lines
def fitsL (l : List Lin) : Bool := l.all fun x => fits1 x.amt
def sumA (l : List Lin) : Int := l.foldl (fun n x => n + x.amt) 0
def checkE (j : Jrn) : Int := if (frontOk j && linesOk j) = true then if fitsL j.lines = true then if sumA j.lines = 0 then 0 else 3 else 2 else 1

theorem inB_iff {n a b : Int} : inB n a b = true ↔ a ≤ n ∧ n ≤ b := by unfold inB; simp
theorem all_step {α : Type} {f : α → Bool} {l : List α} {k : Nat} {x : α} (h : (l.take k).all f = true) (hx : l[k]? = some x) (h1 : f x = true) : (l.take (k + 1)).all f = true := by
  obtain ⟨hk, rfl⟩ := List.getElem?_eq_some_iff.1 hx
  rw [List.take_succ_eq_append_getElem hk, List.all_append, h]
  simp [h1]
theorem all_no {α : Type} {f : α → Bool} {l : List α} {k : Nat} {x : α} (hx : l[k]? = some x) (h1 : f x = false) : l.all f = false := by
  obtain ⟨hk, rfl⟩ := List.getElem?_eq_some_iff.1 hx
  exact List.all_eq_false.2 ⟨_, List.getElem_mem hk, by simp [h1]⟩
theorem all_end {α : Type} {f : α → Bool} {l : List α} {k : Nat} (h : (l.take k).all f = true) (hk : l.length ≤ k) : l.all f = true := by rwa [List.take_of_length_le hk] at h
theorem sumA_step {l : List Lin} {k : Nat} {x : Lin} (hx : l[k]? = some x) : sumA (l.take (k + 1)) = sumA (l.take k) + x.amt := by
  obtain ⟨hk, rfl⟩ := List.getElem?_eq_some_iff.1 hx
  unfold sumA
  rw [List.take_succ_eq_append_getElem hk, List.foldl_append]; rfl
theorem fits1_iff {a : Int} : fits1 a = true ↔ -1000000000000000 ≤ a ∧ a ≤ 1000000000000000 := by unfold fits1; simp
theorem sumA_bound {l : List Lin} : ∀ (k : Nat), k ≤ l.length → (l.take k).all (fun x => fits1 x.amt) = true → -(1000000000000000 * (k : Int)) ≤ sumA (l.take k) ∧ sumA (l.take k) ≤ 1000000000000000 * (k : Int)
  | 0, _, _ => by simp [sumA]
  | k + 1, hk, h => by
    rw [List.take_succ_eq_append_getElem (by omega), List.all_append, Bool.and_eq_true] at h
    have ih := sumA_bound k (by omega) h.1
    have h2 := fits1_iff.1 (show fits1 (l[k]'(by omega)).amt = true by simpa using h.2)
    rw [sumA_step (List.getElem?_eq_getElem (by omega))]
    omega
theorem refAll_step {l : List UInt8} {k : Nat} {x : UInt8} (h : refAll (l.take k) = true) (hx : l[k]? = some x) (h1 : refB x = true) : refAll (l.take (k + 1)) = true := all_step h hx h1
theorem refAll_no {l : List UInt8} {k : Nat} {x : UInt8} (hx : l[k]? = some x) (h1 : refB x = false) : refAll l = false := all_no hx h1
theorem refAll_end {l : List UInt8} {k : Nat} (h : refAll (l.take k) = true) (hk : l.length ≤ k) : refAll l = true := all_end h hk
theorem linesAll_step {e : Int} {l : List Lin} {k : Nat} {x : Lin} (h : linesAll e (l.take k) = true) (hx : l[k]? = some x) (h1 : lineOk e x = true) : linesAll e (l.take (k + 1)) = true := all_step h hx h1
theorem linesAll_no {e : Int} {l : List Lin} {k : Nat} {x : Lin} (hx : l[k]? = some x) (h1 : lineOk e x = false) : linesAll e l = false := all_no hx h1
theorem linesAll_end {e : Int} {l : List Lin} {k : Nat} (h : linesAll e (l.take k) = true) (hk : l.length ≤ k) : linesAll e l = true := all_end h hk
theorem fitsL_step {l : List Lin} {k : Nat} {x : Lin} (h : fitsL (l.take k) = true) (hx : l[k]? = some x) (h1 : fits1 x.amt = true) : fitsL (l.take (k + 1)) = true := all_step h hx h1
theorem fitsL_no {l : List Lin} {k : Nat} {x : Lin} (hx : l[k]? = some x) (h1 : fits1 x.amt = false) : fitsL l = false := all_no (f := fun y : Lin => fits1 y.amt) hx h1
theorem fitsL_end {l : List Lin} {k : Nat} (h : fitsL (l.take k) = true) (hk : l.length ≤ k) : fitsL l = true := all_end h hk
/-- A journal in a block of its own. -/
def Jrn.cells (j : Jrn) (A : Option Addr) (n c : Nat) : Array Value := #[.int .i64 j.id, .int .i64 j.ent, .int .i64 j.per, .string j.ref, .slice A n c, .bool j.void]
theorem box_cell {w : World} {cs : Array Value} {T : TypeId} (i : Nat) : (w.alloc (.cells cs T)).cell? ⟨w.heap.size, i, none⟩ = cs[i]? := cell_of (heap_new w _) i
def Lin.ok64 (l : Lin) : Prop := (-9223372036854775808 ≤ l.acct ∧ l.acct ≤ 9223372036854775807) ∧ (-9223372036854775808 ≤ l.amt ∧ l.amt ≤ 9223372036854775807) ∧ (-9223372036854775808 ≤ l.part ∧ l.part ≤ 9223372036854775807)
def Jrn.ok64 (j : Jrn) : Prop := (-9223372036854775808 ≤ j.id ∧ j.id ≤ 9223372036854775807) ∧ (-9223372036854775808 ≤ j.ent ∧ j.ent ≤ 9223372036854775807) ∧ (-9223372036854775808 ≤ j.per ∧ j.per ≤ 9223372036854775807) ∧ ∀ l ∈ j.lines, l.ok64
def zeroJ : Jrn := ⟨0, 0, 0, ⟨#[]⟩, [], false⟩
/-- A journal in its block. -/
def JAt (w : World) (q : Nat) (j : Jrn) (A : Option Addr) (n c : Nat) : Prop := w.heap[q]? = some (.cells #[.int .i64 j.id, .int .i64 j.ent, .int .i64 j.per, .string j.ref, .slice A n c, .bool j.void] 29 (0, 0))
theorem six_cells {w : World} {b : Nat} {a0 a1 a2 a3 a4 a5 : Value} {T : TypeId} (h : w.heap[b]? = some (.cells #[a0, a1, a2, a3, a4, a5] T (0, 0))) :
    w.cell? ⟨b, 0, none⟩ = some a0 ∧ w.cell? ⟨b, 1, none⟩ = some a1 ∧ w.cell? ⟨b, 2, none⟩ = some a2 ∧ w.cell? ⟨b, 3, none⟩ = some a3 ∧ w.cell? ⟨b, 4, none⟩ = some a4 ∧ w.cell? ⟨b, 5, none⟩ = some a5 :=
  ⟨cell_of h 0, cell_of h 1, cell_of h 2, cell_of h 3, cell_of h 4, cell_of h 5⟩
theorem below_six {B b : Nat} {w w' : World} (h : Below B w w') (hb : B ≤ b) (v0 v1 v2 v3 v4 v5 : Value) : Below B w ((((((w'.setCell ⟨b, 0, none⟩ v0).setCell ⟨b, 1, none⟩ v1).setCell ⟨b, 2, none⟩ v2).setCell ⟨b, 3, none⟩ v3).setCell ⟨b, 4, none⟩ v4).setCell ⟨b, 5, none⟩ v5) :=
  (((((h.setCell hb v0).setCell hb v1).setCell hb v2).setCell hb v3).setCell hb v4).setCell hb v5

theorem own_six {w : World} {B n c b : Nat} {A : Option Addr} {xs : List Value} {T : TypeId} {size : Nat} (h : w.ownsRow B T size (.slice A n c) n xs) (hb : b < B) (v0 v1 v2 v3 v4 v5 : Value) : ((((((w.setCell ⟨b, 0, none⟩ v0).setCell ⟨b, 1, none⟩ v1).setCell ⟨b, 2, none⟩ v2).setCell ⟨b, 3, none⟩ v3).setCell ⟨b, 4, none⟩ v4).setCell ⟨b, 5, none⟩ v5).ownsRow B T size (.slice A n c) n xs := by
  refine own_kept h fun k hk ho => ?_
  have hge := own_ge h k ho
  have e : ∀ (w : World) (i : Nat) (v : Value), (w.setCell ⟨b, i, none⟩ v).heap[k]? = w.heap[k]? := fun w i v => Below.heap_setCell _ _ _ _ (by show k ≠ b; omega)
  rw [e, e, e, e, e, e]
end Go.Proofs.YtmgncoialppmpaaGreat

/-
  A text's bytes as a list. No code.
-/
namespace Go.Proofs.YtmgncoialppmpaaGreat
open Go.RowKit

theorem at_list (s : ByteArray) (k : Nat) (hk : k < s.size) : ∃ h : k < s.data.toList.length, s[k] = s.data.toList[k] := ⟨by rw [Array.length_toList]; exact hk, rfl⟩
end Go.Proofs.YtmgncoialppmpaaGreat

/-
  Contracts of entry.within, refMayBe, frontMayBe, linesMayBe, Check.
-/
namespace Go.Proofs.YtmgncoialppmpaaGreat
open Go.RowKit

set_option maxHeartbeats 400000 in
theorem within_any (n a b : Int) (w : World) :
    Calls Tryz.prog 221 #[.int .i64 n, .int .i64 a, .int .i64 b] w fun e w' => e = .returned (.bool (inB n a b)) ∧ w = w' := by
  go_enter Tryz.func221, Tryz.ntmps221
  go_wp2
  all_goals
    go_ret
    exact ⟨ret_bool (by unfold inB; rw [Bool.eq_iff_iff]; simp; try omega), rfl⟩

theorem fits_one (p : Int) (w : World) {T : TypeId} : Calls Tryz.prog 166 #[.slice (some ⟨w.heap.size, 0, none⟩) 1 1] (w.alloc (.cells #[.int .i64 p] T)) fun e w' => e = .returned (.bool (fits1 p)) ∧ w.alloc (.cells #[.int .i64 p] T) = w' := by
  have := fits_any [p] _ 1 1 _ _ (rd_oneI w p (T := T)) (by unfold maxLen; omega)
  rwa [show fitsAll [p] = fits1 p by simp [fitsAll]] at this

set_option maxRecDepth 100000 in
set_option maxHeartbeats 1000000 in
theorem refMayBe_any (s : ByteArray) (w : World) (hs : s.size ≤ maxLen) :
    Calls Tryz.prog 222 #[.string s] w fun e w' => e = .returned (.bool (refOk s.data.toList)) ∧ w = w' := by
  unfold maxLen at hs
  by_cases h8 : 8 < s.size
  · go_enter Tryz.func222, Tryz.ntmps222
    go_wp2
    go_ret
    refine ⟨ret_bool ?_, rfl⟩
    symm
    unfold refOk
    rw [show decide (s.data.toList.length ≤ 8) = false by rw [Array.length_toList]; simp; exact h8]; rfl
  · have HR : Hid (refOk s.data.toList = refAll s.data.toList) := by
      unfold Hid refOk
      rw [show decide (s.data.toList.length ≤ 8) = true by rw [Array.length_toList]; simp; omega]; rfl
    rw [HR.out]
    go_enter Tryz.func222, Tryz.ntmps222
    go_wp2
    go_loop [10, 3, 4] (fun iv _ _ => ∃ k : Nat, k ≤ s.size ∧ iv = .int .i64 k ∧ Hid (refAll (s.data.toList.take k) = true)) (fun iv _ _ => s.size - (intOf iv).toNat)
    case atStart => exact ⟨0, Nat.zero_le _, rfl, rfl⟩
    case round =>
      obtain ⟨k, hk, rfl, hf⟩ := hrel
      by_cases hlt : k < s.size
      · obtain ⟨hl, hg⟩ := at_list s k hlt
        obtain ⟨x, hx⟩ : ∃ x : Int, x = ((s[k]'hlt).toNat : Int) := ⟨_, rfl⟩
        have hi1 : ∀ w, (Instr.index 9 (.string s) (.int .i64 (k : Int))).run Tryz.prog w = .ok (.int .u8 x) w := fun w => by
          rw [run_index_string w _ _ _ _ Tryz.underlying9, dif_pos (by omega), hx]
          rfl
        obtain ⟨b, HK⟩ : ∃ b, Hid (s.data.toList[k]? = some b ∧ refB b = (decide (65 ≤ x ∧ x ≤ 90) || decide (48 ≤ x ∧ x ≤ 57))) := by
          refine ⟨s[k], by rw [hg]; exact List.getElem?_eq_getElem hl, ?_⟩
          rw [hx]
          unfold refB
          generalize s[k].toNat = m
          rw [Bool.eq_iff_iff]; simp; omega
        clear hx hg hl
        have key : (65 ≤ x ∧ x ≤ 90) ∨ (48 ≤ x ∧ x ≤ 57) ∨ (x < 48 ∨ 57 < x ∧ x < 65 ∨ 90 < x) := by omega
        rcases key with h1 | h1 | h1
        · have c1 : ¬ x < 65 := by omega
          have c2 : ¬ 90 < x := by omega
          go_wp2
          exact ⟨⟨k + 1, by omega, by go_num, refAll_step hf.out HK.out.1 (by rw [HK.out.2]; simp; omega)⟩, by simp [intOf]; omega⟩
        · have c1 : x < 65 := by omega
          have c3 : ¬ x < 48 := by omega
          have c4 : ¬ 57 < x := by omega
          go_wp2
          exact ⟨⟨k + 1, by omega, by go_num, refAll_step hf.out HK.out.1 (by rw [HK.out.2]; simp; omega)⟩, by simp [intOf]; omega⟩
        · have HN : Hid (refAll s.data.toList = false) := refAll_no HK.out.1 (by rw [HK.out.2]; simp; omega)
          by_cases c1 : x < 65
          · by_cases c3 : x < 48
            · go_wp2
              go_ret
              exact ⟨ret_bool HN.out.symm, rfl⟩
            · have c4 : 57 < x := by omega
              go_wp2
              go_ret
              exact ⟨ret_bool HN.out.symm, rfl⟩
          · have c2 : 90 < x := by omega
            have c3 : ¬ x < 48 := by omega
            have c4 : 57 < x := by omega
            go_wp2
            go_ret
            exact ⟨ret_bool HN.out.symm, rfl⟩
      · go_wp2
        go_ret
        exact ⟨ret_bool (refAll_end hf.out (by rw [Array.length_toList]; exact Nat.le_of_not_lt hlt)).symm, rfl⟩

set_option maxRecDepth 100000 in
set_option maxHeartbeats 1000000 in
theorem frontMayBe_any (j : Jrn) (A : Option Addr) (n c : Nat) (w : World) (hs : j.ref.size ≤ maxLen) :
    Calls Tryz.prog 171 #[j.val A n c] w fun e w' => e = .returned (.bool (frontOk j)) ∧ Below w.heap.size w w' := by
  obtain ⟨id, ent, per, ref, L, void⟩ := j
  unfold Jrn.val frontOk
  dsimp only at hs ⊢
  have HS := Lib.hid hs
  clear hs
  cases h1 : inB id 1 999999
  · go_enter Tryz.func171, Tryz.ntmps171
    go_wp2_with (go_at_call 221; refine (within_any _ _ _ _).mono ?_; rintro e w' ⟨rfl, rfl⟩)
    go_ret
    exact ⟨rfl, (Below.refl _ _).alloc (Nat.le_refl _) _⟩
  cases h2 : inB ent 1 9
  · go_enter Tryz.func171, Tryz.ntmps171
    go_wp2_with (go_at_call 221; refine (within_any _ _ _ _).mono ?_; rintro e w' ⟨rfl, rfl⟩)
    go_ret
    exact ⟨rfl, (Below.refl _ _).alloc (Nat.le_refl _) _⟩
  have kv : ∀ (o : Obj) (T : TypeId), Calls Tryz.prog 180 #[.slice (some ⟨w.heap.size + 1, 0, none⟩) 1 1] ((w.alloc o).alloc (.cells #[.int .i64 per] T)) fun e w' => e = .returned (.bool (okP per)) ∧ (w.alloc o).alloc (.cells #[.int .i64 per] T) = w' := fun o T => by
    have := valid_one per (w.alloc o) (T := T)
    rw [show (w.alloc o).heap.size = w.heap.size + 1 by simp] at this
    exact this
  have hB1 : ∀ o1 o2, Below w.heap.size w ((w.alloc o1).alloc o2) := fun o1 o2 => ((Below.refl _ _).alloc (Nat.le_refl _) _).alloc (by simp) _
  cases h3 : okP per
  · go_enter Tryz.func171, Tryz.ntmps171
    go_wp2_with (first | (go_at_call 221; refine (within_any _ _ _ _).mono ?_; rintro e w' ⟨rfl, rfl⟩) | (go_at_call 180; refine (kv _ _).mono ?_; rintro e w' ⟨rfl, rfl⟩))
    go_ret
    exact ⟨rfl, hB1 _ _⟩
  · go_enter Tryz.func171, Tryz.ntmps171
    go_wp2_with (first | (go_at_call 221; refine (within_any _ _ _ _).mono ?_; rintro e w' ⟨rfl, rfl⟩) | (go_at_call 180; refine (kv _ _).mono ?_; rintro e w' ⟨rfl, rfl⟩) | (go_at_call 222; refine (refMayBe_any ref _ HS.out).mono ?_; rintro e w' ⟨rfl, rfl⟩))
    go_ret
    exact ⟨rfl, hB1 _ _⟩

set_option maxRecDepth 100000 in
set_option maxHeartbeats 1000000 in
theorem linesMayBe_any (j : Jrn) (A : Option Addr) (n c B : Nat) (w : World) (h : Rd w B 3 A n (lins j.lines)) (hB : B ≤ w.heap.size) (hn : n ≤ maxLen) :
    Calls Tryz.prog 172 #[j.val A n c] w fun e w' => e = .returned (.bool (linesOk j)) ∧ Below w.heap.size w w' := by
  obtain ⟨id, ent, per, ref, L, void⟩ := j
  unfold Jrn.val linesOk
  unfold maxLen at hn
  dsimp only at h ⊢
  have HL := Lib.hid h.lins_len
  rw [HL.out]
  cases h1 : inB n 2 8
  · go_enter Tryz.func172, Tryz.ntmps172
    go_wp2_with (go_at_call 221; refine (within_any _ _ _ _).mono ?_; rintro e w' ⟨rfl, rfl⟩)
    go_ret
    exact ⟨rfl, (Below.refl _ _).alloc (Nat.le_refl _) _⟩
  · rw [Bool.true_and]
    have hb1 : Below w.heap.size w (w.alloc (.cells #[.int .i64 id, .int .i64 ent, .int .i64 per, .string ref, .slice A n c, .bool void] 29)) := (Below.refl _ _).alloc (Nat.le_refl _) _
    have hr1 := h.far hb1 hB
    have hE : (w.alloc (.cells #[.int .i64 id, .int .i64 ent, .int .i64 per, .string ref, .slice A n c, .bool void] 29)).cell? ⟨w.heap.size, 1, none⟩ = some (.int .i64 ent) := box_cell 1
    have hz1 : w.heap.size < (w.alloc (.cells #[.int .i64 id, .int .i64 ent, .int .i64 per, .string ref, .slice A n c, .bool void] 29)).heap.size := by simp
    go_enter Tryz.func172, Tryz.ntmps172
    go_wp2_with (go_at_call 221; refine (within_any _ _ _ _).mono ?_; rintro e w' ⟨rfl, rfl⟩)
    have HB1 := Lib.hid hb1
    have HR1 := Lib.hid hr1
    have HE := Lib.hid hE
    have HZ := Lib.hid hz1
    clear hb1 hr1 hE hz1 h
    generalize w.alloc (.cells #[.int .i64 id, .int .i64 ent, .int .i64 per, .string ref, .slice A n c, .bool void] 29) = W1 at *
    go_loopw [13, 4] (fun iv _ wr => ∃ k : Nat, k ≤ n ∧ iv = .int .i64 k ∧ Hid (linesAll ent (L.take k) = true) ∧ Below W1.heap.size W1 wr) (fun iv _ _ => n - (intOf iv).toNat)
    case atStart => exact ⟨0, Nat.zero_le _, rfl, rfl, Below.refl _ _⟩
    case round =>
      obtain ⟨k, hk, rfl, hf, hbel⟩ := hrel
      have hzr := hbel.size
      by_cases hlt : k < n
      · obtain ⟨ad, x, rfl, hbk, hx, p1, p2, p3⟩ := (HR1.out.far hbel (by have := HZ.out; omega)).lin hlt
        have hkn : (k : Int) < (n : Int) := by omega
        have p2' := cell_behind p2 (by omega)
        have p3' := cell_behind p3 (by omega)
        have hE2 : wr.cell? ⟨w.heap.size, 1, none⟩ = some (.int .i64 ent) := (hbel.cell (by have := HZ.out; exact this)).trans HE.out
        have hzw : w.heap.size < wr.heap.size := by have := HZ.out; omega
        have HX := Lib.hid hx
        have HBL : Hid (∀ o, Below w.heap.size w (wr.alloc o)) := fun o => HB1.out.trans ((hbel.alloc hzr o).mono HB1.out.size)
        have HBR : Hid (∀ o, Below W1.heap.size W1 (wr.alloc o)) := fun o => hbel.alloc hzr o
        clear hx p2 p3 hbel
        obtain ⟨x1, x2, x3⟩ := x
        cases c1 : inB x1 1 9999
        · go_wp2_with (go_at_call 221; refine (within_any _ _ _ _).mono ?_; rintro e w' ⟨rfl, rfl⟩)
          go_ret
          exact ⟨ret_bool (linesAll_no HX.out (by simp [lineOk, c1])).symm, HBL.out _⟩
        cases c2 : (x2 == 0)
        rotate_left
        · go_wp2_with (go_at_call 221; refine (within_any _ _ _ _).mono ?_; rintro e w' ⟨rfl, rfl⟩)
          go_ret
          exact ⟨ret_bool (linesAll_no HX.out (by simp [lineOk, c2])).symm, HBL.out _⟩
        cases c3 : inB x3 0 9
        · go_wp2_with (go_at_call 221; refine (within_any _ _ _ _).mono ?_; rintro e w' ⟨rfl, rfl⟩)
          go_ret
          exact ⟨ret_bool (linesAll_no HX.out (by simp [lineOk, c3])).symm, HBL.out _⟩
        cases c4 : (x3 == ent)
        rotate_left
        · go_wp2_with (go_at_call 221; refine (within_any _ _ _ _).mono ?_; rintro e w' ⟨rfl, rfl⟩)
          go_ret
          exact ⟨ret_bool (linesAll_no HX.out (by simp [lineOk, c4])).symm, HBL.out _⟩
        · go_wp2_with (go_at_call 221; refine (within_any _ _ _ _).mono ?_; rintro e w' ⟨rfl, rfl⟩)
          exact ⟨⟨k + 1, by omega, by go_num, linesAll_step hf.out HX.out (by simp [lineOk, c1, c2, c3, c4]), HBR.out _⟩, by simp [intOf]; omega⟩
      · go_wp2
        go_ret
        exact ⟨ret_bool (linesAll_end hf.out (by have := HL.out; omega)).symm, HB1.out.trans (hbel.mono HB1.out.size)⟩
end Go.Proofs.YtmgncoialppmpaaGreat
