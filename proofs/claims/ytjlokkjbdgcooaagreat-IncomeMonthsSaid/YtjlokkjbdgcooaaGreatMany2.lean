/-
  Several texts, one behind the other: what each holds stands ahead of it.
-/
import Derived.Test.YtjlokkjbdgcooaaGreatOwn
import Derived.Test.YtjlokkjbdgcooaaGreatMany1
import Derived.WalkKit
import Derived.WalkSpells
import Derived.WalkLawsBesides

/-
  Lists of lines, and the statements' helper over them: SameLines.
-/
namespace Go.Proofs.YtjlokkjbdgcooaaGreat
open Go.RowKit

/-- An element. -/
structure Lin where
  acct : Int
  amt : Int
  part : Int
deriving DecidableEq
def Lin.cells (a : Lin) : List Value := [.int .i64 a.acct, .int .i64 a.amt, .int .i64 a.part]
def Lin.val (a : Lin) : Value := .agg #[.int .i64 a.acct, .int .i64 a.amt, .int .i64 a.part]
def lins (l : List Lin) : List Value := l.flatMap Lin.cells
theorem lins_len : ∀ l : List Lin, (lins l).length = l.length * 3
  | [] => rfl
  | a :: l => by have := lins_len l; unfold lins at this ⊢; simp [Lin.cells, this]; omega
theorem lins_append (l m : List Lin) : lins (l ++ m) = lins l ++ lins m := by simp [lins]
theorem lins_at : ∀ (l : List Lin) (k : Nat) (a : Lin), l[k]? = some a → (lins l)[k * 3]? = some (.int .i64 a.acct) ∧ (lins l)[k * 3 + 1]? = some (.int .i64 a.amt) ∧ (lins l)[k * 3 + 2]? = some (.int .i64 a.part)
  | [], k, a, h => by simp at h
  | b :: l, 0, a, h => by
    simp at h; subst h
    exact ⟨rfl, rfl, rfl⟩
  | b :: l, k + 1, a, h => by
    have := lins_at l k a (by simpa using h)
    unfold lins at this ⊢
    simp only [List.flatMap_cons, Lin.cells]
    rw [show (k + 1) * 3 = k * 3 + 3 by omega]
    simpa [List.getElem?_append_right] using this
theorem Rd.lins_len {w : World} {B n : Nat} {A : Option Addr} {l : List Lin} (h : Rd w B 3 A n (lins l)) : l.length = n := by
  have := h.1; rw [Go.Proofs.YtjlokkjbdgcooaaGreat.lins_len] at this; omega
theorem Rd.lin {w : World} {B n i : Nat} {A : Option Addr} {l : List Lin} (h : Rd w B 3 A n (lins l)) (hi : i < n) :
    ∃ ad a, A = some ad ∧ ad.block < B ∧ l[i]? = some a ∧ w.cell? (ad.add (i * 3)) = some (.int .i64 a.acct) ∧ w.cell? (ad.add (i * 3 + 1)) = some (.int .i64 a.amt) ∧ w.cell? (ad.add (i * 3 + 2)) = some (.int .i64 a.part) := by
  obtain ⟨ad, e, hb, hc⟩ := h.2 (by omega)
  have hl := h.lins_len
  have hg : l[i]? = some l[i] := List.getElem?_eq_getElem (by omega)
  obtain ⟨h1, h2, h3⟩ := lins_at l i _ hg
  exact ⟨ad, _, e, hb, hg, hc _ _ h1, hc _ _ h2, hc _ _ h3⟩

theorem infoLin : (Tryz.prog.info? 113).map (fun i => (i.zero, i.size, i.bytes)) = some (some (.agg #[.int .i64 0, .int .i64 0, .int .i64 0]), 3, 24) := by kernel_rfl
theorem lin_step {l m : List Lin} {k : Nat} (hk : k < l.length ∧ k < m.length) (h1 : l.take k = m.take k) (h2 : l[k]? = m[k]?) : l.take (k + 1) = m.take (k + 1) := by
  rw [List.take_succ_eq_append_getElem hk.1, List.take_succ_eq_append_getElem hk.2, h1]
  rw [List.getElem?_eq_getElem hk.1, List.getElem?_eq_getElem hk.2] at h2
  injection h2 with h2
  rw [h2]

set_option maxRecDepth 100000 in
set_option maxHeartbeats 400000 in
theorem sameLines_any (l m : List Lin) (A1 A2 : Option Addr) (n1 n2 c1 c2 B1 B2 : Nat) (w : World) (h1 : Rd w B1 3 A1 n1 (lins l)) (h2 : Rd w B2 3 A2 n2 (lins m)) (hn1 : n1 ≤ 1000000) (hn2 : n2 ≤ 1000000) :
    Calls Tryz.prog 143 #[.slice A1 n1 c1, .slice A2 n2 c2] w fun e w' => e = .returned (.bool (l == m)) ∧ Drew w w' := by
  have L1 := Lib.hid h1.lins_len
  have L2 := Lib.hid h2.lins_len
  by_cases hne : n1 = n2
  · subst hne
    have t1 : ((n1 : Int) != (n1 : Int)) = false := by simp
    go_enter Tryz.func143, Tryz.ntmps143
    go_wp2_with fail
    go_loopw [5] (fun i wr => ∃ k : Nat, k ≤ n1 ∧ i = .int .i64 k ∧ Hid (l.take k = m.take k) ∧ Drew w wr) (fun i _ => n1 - (intOf i).toNat)
    case atStart => exact ⟨0, Nat.zero_le _, rfl, by simp [Hid], Drew.refl _⟩
    case round =>
      obtain ⟨k, hk, rfl, hs, q, rfl⟩ := hrel
      by_cases hlt : k < n1
      · obtain ⟨a1, x, rfl, hb1, hx, p1, p2, p3⟩ := h1.lin hlt
        obtain ⟨a2, y, rfl, hb2, hy, r1, r2, r3⟩ := h2.lin hlt
        have hkn : (k : Int) < (n1 : Int) := by omega
        have p2' := cell_behind p2 (by omega)
        have p3' := cell_behind p3 (by omega)
        have r2' := cell_behind r2 (by omega)
        have r3' := cell_behind r3 (by omega)
        have HX : Hid (x = y → l.take (k + 1) = m.take (k + 1)) := fun h => lin_step (by have := L1.out; have := L2.out; omega) hs.out (by rw [hx, hy, h])
        have HY : Hid (x ≠ y → (l == m) = false) := by
          intro h
          rw [beq_eq_false_iff_ne]
          intro e
          rw [e, hy] at hx
          exact h (by injection hx with hx; exact hx.symm)
        clear hx hy p2 p3 r2 r3
        obtain ⟨x1, x2, x3⟩ := x
        obtain ⟨y1, y2, y3⟩ := y
        by_cases e1 : x1 = y1
        · subst e1
          by_cases e2 : x2 = y2
          · subst e2
            by_cases e3 : x3 = y3
            · subst e3
              go_wp2_with fail
              go_big_quiet (fail)
              go_wp2
              exact ⟨⟨k + 1, by omega, by go_num, HX.out (by first | rfl | trivial), Drew.add _ _⟩, by simp [intOf]; omega⟩
            · skip
              go_wp2_with fail
              go_big_quiet (fail)
              go_wp2
              go_ret
              exact ⟨ret_bool (HY.out (by simp [e3])).symm, ⟨_, World.drewN_drewN _ _ _⟩⟩
          · skip
            go_wp2_with fail
            go_big_quiet (fail)
            go_wp2
            go_ret
            exact ⟨ret_bool (HY.out (by simp [e2])).symm, ⟨_, World.drewN_drewN _ _ _⟩⟩
        · skip
          go_wp2_with fail
          go_big_quiet (fail)
          go_wp2
          go_ret
          exact ⟨ret_bool (HY.out (by simp [e1])).symm, ⟨_, World.drewN_drewN _ _ _⟩⟩
      · go_wp2
        go_ret
        refine ⟨ret_bool ?_, _, rfl⟩
        have := hs.out
        rw [List.take_of_length_le (by have := L1.out; omega), List.take_of_length_le (by have := L2.out; omega)] at this
        rw [this]; simp
  · have t1 : ((n1 : Int) != (n2 : Int)) = true := by rw [bne_iff_ne]; omega
    have HN := Lib.hid hne
    clear hne
    go_enter Tryz.func143, Tryz.ntmps143
    go_wp2
    go_ret
    refine ⟨ret_bool ?_, Drew.refl _⟩
    symm
    rw [beq_eq_false_iff_ne]
    intro e
    have := L1.out; have := L2.out
    rw [e] at *
    have := HN.out; omega
end Go.Proofs.YtjlokkjbdgcooaaGreat

/-
  Contracts of term.Valid, and of the reference's Valid.
-/
namespace Go.Proofs.YtjlokkjbdgcooaaGreat
open Go.RowKit

def okP (p : Int) : Bool := decide (0 ≤ p ∧ p ≤ 1199)
def okAll (l : List Int) : Bool := l.all okP

theorem okAll_step {l : List Int} {k : Nat} (hk : k < l.length) (h : okAll (l.take k) = true) (h1 : okP (l[k]?.getD 0) = true) : okAll (l.take (k + 1)) = true := by
  unfold okAll at h ⊢
  rw [List.take_succ_eq_append_getElem hk, List.all_append, h]
  simp [hk] at h1
  simp [h1]
theorem okAll_no {l : List Int} {k : Nat} (hk : k < l.length) (h1 : okP (l[k]?.getD 0) = false) : okAll l = false := by
  rw [okAll, List.all_eq_false]
  exact ⟨l[k], List.getElem_mem hk, by simpa [hk] using h1⟩

set_option maxHeartbeats 400000 in
theorem valid_any (l : List Int) (A : Option Addr) (n c B : Nat) (w : World) (h : Rd w B 1 A n (ints .i64 l)) (hn : n ≤ maxLen) :
    Calls Tryz.prog 134 #[.slice A n c] w fun e w' => e = .returned (.bool (okAll l)) ∧ w = w' := by
  unfold maxLen at hn
  have hl := Lib.hid h.ints_len
  go_enter Tryz.func134, Tryz.ntmps134
  go_wp2
  go_loop [7, 4] (fun i _ => ∃ k : Nat, k ≤ n ∧ i = .int .i64 k ∧ Hid (okAll (l.take k) = true)) (fun i _ => n - (intOf i).toNat)
  case atStart => exact ⟨0, Nat.zero_le _, rfl, rfl⟩
  case round =>
    obtain ⟨k, hk, rfl, hf⟩ := hrel
    by_cases hlt : k < n
    · obtain ⟨ad, rfl, hb, hc⟩ := h.int hlt
      by_cases h1 : l[k]?.getD 0 < 0
      · go_wp2
        go_ret
        exact ⟨ret_bool (okAll_no (k := k) (by have := hl.out; omega) (by unfold okP; simp; omega)).symm, rfl⟩
      by_cases h2 : 1199 < l[k]?.getD 0
      · go_wp2
        go_ret
        exact ⟨ret_bool (okAll_no (k := k) (by have := hl.out; omega) (by unfold okP; simp; omega)).symm, rfl⟩
      · go_wp2
        exact ⟨⟨k + 1, by omega, by go_num, okAll_step (by have := hl.out; omega) hf.out (by unfold okP; simp; omega)⟩, by simp [intOf]; omega⟩
    · go_wp2
      go_ret
      refine ⟨ret_bool ?_, rfl⟩
      have := hf.out
      rw [List.take_of_length_le (by have := hl.out; omega)] at this
      exact this.symm

theorem rd_oneI (w : World) (a : Int) {T : TypeId} : Rd (w.alloc (.cells #[.int .i64 a] T)) (w.heap.size + 1) 1 (some ⟨w.heap.size, 0, none⟩) 1 (ints .i64 [a]) := by
  refine ⟨rfl, fun _ => ⟨_, rfl, by simp, ?_⟩⟩
  intro j u hu
  match j, hu with
  | 0, hu => simp [ints] at hu; subst hu; simp [Addr.add, go_sem]
  | j + 1, hu => simp [ints] at hu
theorem okAll_one (p : Int) : okAll [p] = okP p := by simp [okAll]
theorem okAll_two (p q : Int) : okAll [p, q] = (okP p && okP q) := by simp [okAll]

/-- Valid of one month, in a block laid for the call. -/
theorem valid_one (p : Int) (w : World) {T : TypeId} : Calls Tryz.prog 134 #[.slice (some ⟨w.heap.size, 0, none⟩) 1 1] (w.alloc (.cells #[.int .i64 p] T)) fun e w' => e = .returned (.bool (okP p)) ∧ w.alloc (.cells #[.int .i64 p] T) = w' := by
  have := valid_any [p] _ 1 1 _ _ (rd_oneI w p (T := T)) (by unfold maxLen; omega)
  rwa [okAll_one] at this
theorem valid_two (p q : Int) (w : World) {T : TypeId} : Calls Tryz.prog 134 #[.slice (some ⟨w.heap.size, 0, none⟩) 2 2] (w.alloc (.cells #[.int .i64 p, .int .i64 q] T)) fun e w' => e = .returned (.bool (okP p && okP q)) ∧ w.alloc (.cells #[.int .i64 p, .int .i64 q] T) = w' := by
  have := valid_any [p, q] _ 2 2 _ _ (rd_two w p q (T := T)) (by unfold maxLen; omega)
  rwa [okAll_two] at this

theorem okP_t {p : Int} (h : okP p = true) : 0 ≤ p ∧ p ≤ 1199 := by unfold okP at h; simpa using h
theorem okP_f {p : Int} (h : okP p = false) : p < 0 ∨ 1199 < p := by unfold okP at h; simp at h; omega

theorem refValid_any (p : Int) (w : World) :
    Calls Tryz.prog 48 #[.int .i64 p] w fun e w' => e = .returned (.bool (okP p)) ∧ w = w' := by
  by_cases h1 : p < 0
  · have e : okP p = false := by unfold okP; simp; omega
    rw [e]
    go_enter Tryz.func48, Tryz.ntmps48
    go_wp2
    go_ret
    exact ⟨rfl, rfl⟩
  · have e : okP p = decide (p ≤ 1199) := by unfold okP; simp; omega
    rw [e]
    go_enter Tryz.func48, Tryz.ntmps48
    go_wp2
    go_ret
    exact ⟨rfl, rfl⟩
end Go.Proofs.YtjlokkjbdgcooaaGreat

/-
  Contracts of the small functions of package money: size, withSign, roundsUp, signWord.
-/
namespace Go.Proofs.YtjlokkjbdgcooaaGreat
open Go.RowKit

def absI (a : Int) : Int := if a < 0 then -a else a
def signed (u a : Int) : Int := if a < 0 then -u else u
def signW (x : Int) : Int := if x < 0 then 18446744073709551615 else 0
def rUp (q r d : Int) : Bool := decide (d < 2 * r ∨ 2 * r = d ∧ q % 2 = 1)

set_option maxHeartbeats 400000 in
theorem size_any (a : Int) (w : World) (h1 : -1000000000000000 ≤ a) (h2 : a ≤ 1000000000000000) :
    Calls Tryz.prog 212 #[.int .i64 a] w fun e w' => e = .returned (.int .u64 (absI a)) ∧ w = w' := by
  by_cases h : a < 0
  · go_enter Tryz.func212, Tryz.ntmps212
    go_wp2
    go_ret
    exact ⟨ret_int (by unfold absI; rw [if_pos h]), rfl⟩
  · go_enter Tryz.func212, Tryz.ntmps212
    go_wp2
    go_ret
    exact ⟨ret_int (by unfold absI; rw [if_neg (by omega)]), rfl⟩

set_option maxHeartbeats 400000 in
theorem withSign_any (u a : Int) (w : World) (h1 : 0 ≤ u) (h2 : u ≤ 1000000000000001) :
    Calls Tryz.prog 213 #[.int .u64 u, .int .i64 a] w fun e w' => e = .returned (.int .i64 (signed u a)) ∧ w = w' := by
  by_cases h : a < 0
  · go_enter Tryz.func213, Tryz.ntmps213
    go_wp2
    go_ret
    exact ⟨ret_int (by unfold signed; rw [if_pos h]), rfl⟩
  · go_enter Tryz.func213, Tryz.ntmps213
    go_wp2
    go_ret
    exact ⟨ret_int (by unfold signed; rw [if_neg (by omega)]), rfl⟩

theorem signW_eq (x : Int) (h1 : -9223372036854775808 ≤ x) (h2 : x ≤ 9223372036854775807) : IntKind.u64.wrap (x / 9223372036854775808) = signW x := by
  unfold signW; rw [IntKind.wrap_u64]; split <;> omega

set_option maxHeartbeats 400000 in
theorem signWord_any (x : Int) (w : World) (h1 : -9223372036854775808 ≤ x) (h2 : x ≤ 9223372036854775807) :
    Calls Tryz.prog 176 #[.int .i64 x] w fun e w' => e = .returned (.int .u64 (signW x)) ∧ w = w' := by
  have H := signW_eq x h1 h2
  go_enter Tryz.func176, Tryz.ntmps176
  go_wp2
  go_ret
  exact ⟨rfl, rfl⟩

end Go.Proofs.YtjlokkjbdgcooaaGreat

/-
  Contract of money.Fits.
-/
namespace Go.Proofs.YtjlokkjbdgcooaaGreat
open Go.RowKit

def fits1 (x : Int) : Bool := decide (-1000000000000000 ≤ x ∧ x ≤ 1000000000000000)
def fitsAll (l : List Int) : Bool := l.all fits1

theorem fitsAll_step {l : List Int} {k : Nat} (hk : k < l.length) (h : fitsAll (l.take k) = true) (h1 : fits1 (l[k]?.getD 0) = true) : fitsAll (l.take (k + 1)) = true := by
  unfold fitsAll at h ⊢
  rw [List.take_succ_eq_append_getElem hk, List.all_append, h]
  simp [hk] at h1
  simp [h1]
theorem fitsAll_no {l : List Int} {k : Nat} (hk : k < l.length) (h1 : fits1 (l[k]?.getD 0) = false) : fitsAll l = false := by
  rw [fitsAll, List.all_eq_false]
  exact ⟨l[k], List.getElem_mem hk, by simpa [hk] using h1⟩

set_option maxHeartbeats 400000 in
theorem fits_any (l : List Int) (A : Option Addr) (n c B : Nat) (w : World) (h : Rd w B 1 A n (ints .i64 l)) (hn : n ≤ maxLen) :
    Calls Tryz.prog 174 #[.slice A n c] w fun e w' => e = .returned (.bool (fitsAll l)) ∧ w = w' := by
  unfold maxLen at hn
  have hl := Lib.hid h.ints_len
  go_enter Tryz.func174, Tryz.ntmps174
  go_wp2
  go_loop [7, 4] (fun i _ => ∃ k : Nat, k ≤ n ∧ i = .int .i64 k ∧ Hid (fitsAll (l.take k) = true)) (fun i _ => n - (intOf i).toNat)
  case atStart => exact ⟨0, Nat.zero_le _, rfl, rfl⟩
  case round =>
    obtain ⟨k, hk, rfl, hf⟩ := hrel
    by_cases hlt : k < n
    · obtain ⟨ad, rfl, hb, hc⟩ := h.int hlt
      by_cases h1 : l[k]?.getD 0 < -1000000000000000
      · go_wp2
        go_ret
        exact ⟨ret_bool (fitsAll_no (k := k) (by have := hl.out; omega) (by unfold fits1; simp; omega)).symm, rfl⟩
      by_cases h2 : 1000000000000000 < l[k]?.getD 0
      · go_wp2
        go_ret
        exact ⟨ret_bool (fitsAll_no (k := k) (by have := hl.out; omega) (by unfold fits1; simp; omega)).symm, rfl⟩
      · go_wp2
        exact ⟨⟨k + 1, by omega, by go_num, fitsAll_step (by have := hl.out; omega) hf.out (by unfold fits1; simp; omega)⟩, by simp [intOf]; omega⟩
    · go_wp2
      go_ret
      refine ⟨ret_bool ?_, rfl⟩
      have := hf.out
      rw [List.take_of_length_le (by have := hl.out; omega)] at this
      exact this.symm
end Go.Proofs.YtjlokkjbdgcooaaGreat
