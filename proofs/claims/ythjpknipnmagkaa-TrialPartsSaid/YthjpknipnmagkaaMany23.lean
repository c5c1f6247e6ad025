/-
  Several texts, one behind the other: what each holds stands ahead of it.
-/
import Derived.Test.YthjpknipnmagkaaChartPut
import Derived.Test.YthjpknipnmagkaaChartMath

/-
  Contract of chart.New.
-/
namespace Go.Proofs.Ythjpknipnmagkaa
open Go.RowKit

/-- Accounts added one behind the other, till one has an error. -/
def newR (l : List Acc) : List Acc → List Acc × Int
  | [] => (l, 0)
  | a :: r => if addE l a = 0 then newR (insA l a) r else (l, addE l a)
def newE (xs0 : List Acc) : Int := (newR [] xs0).2
def newL (xs0 : List Acc) : List Acc := (newR [] xs0).1
theorem newR_append : ∀ (xs l ys : List Acc), newR l (xs ++ ys) = if (newR l xs).2 = 0 then newR (newR l xs).1 ys else newR l xs
  | [], l, ys => by simp [newR]
  | a :: xs, l, ys => by
    rw [List.cons_append, newR, newR]
    by_cases h : addE l a = 0
    · rw [if_pos h, if_pos h, newR_append xs]
    · rw [if_neg h, if_neg h, if_neg h]
theorem newR_good : ∀ (xs l : List Acc), GoodA l → GoodA (newR l xs).1
  | [], l, h => h
  | a :: xs, l, h => by
    rw [newR]
    by_cases h0 : addE l a = 0
    · rw [if_pos h0]
      obtain ⟨h1, h2⟩ := addE_ok h0
      exact newR_good xs _ (h.ins h1 h2)
    · rw [if_neg h0]; exact h
theorem newL_good (xs0 : List Acc) : GoodA (newL xs0) := newR_good xs0 [] GoodA.nil
theorem new_step {xs0 : List Acc} {j : Nat} {a : Acc} (ha : xs0[j]? = some a) (h0' : newE (xs0.take j) = 0) :
    (addE (newL (xs0.take j)) a = 0 → newE (xs0.take (j + 1)) = 0 ∧ newL (xs0.take (j + 1)) = addL (newL (xs0.take j)) a) ∧ (addE (newL (xs0.take j)) a ≠ 0 → newE xs0 = addE (newL (xs0.take j)) a) := by
  obtain ⟨hl, rfl⟩ := List.getElem?_eq_some_iff.1 ha
  have h0 : (newR [] (xs0.take j)).2 = 0 := h0'
  have h1 : newR [] (xs0.take (j + 1)) = newR (newL (xs0.take j)) [xs0[j]] := by
    rw [List.take_succ_eq_append_getElem hl, newR_append, if_pos h0]; rfl
  constructor
  · intro h
    unfold newE
    rw [show newL (xs0.take (j + 1)) = (newR [] (xs0.take (j + 1))).1 from rfl, h1]
    simp [newR, h, addL]
  · intro h
    have h2 : newR [] xs0 = newR (newL (xs0.take j)) (xs0[j] :: xs0.drop (j + 1)) := by
      conv => lhs; rw [← List.take_append_drop j xs0, newR_append, if_pos h0, List.drop_eq_getElem_cons hl]
      rfl
    unfold newE
    rw [h2, newR, if_neg h]

/-- What New answers. -/
def NewPost (w : World) (xs0 : List Acc) (e : Ending) (w' : World) : Prop :=
  Below w.heap.size w w' ∧ ((newE xs0 ≠ 0 ∧ e = .returned (.tuple #[.pointer none, .int .i64 (newE xs0)])) ∨
    (newE xs0 = 0 ∧ e = .returned (.tuple #[.pointer (some ⟨w.heap.size, 0, none⟩), .int .i64 0]) ∧ ∃ v, ChartAt w' w.heap.size w.heap.size v (newL xs0)))

/-- What stands at the loop's head. -/
def NewRel (w : World) (xs0 : List Acc) (j : Nat) (wr : World) : Prop :=
  newE (xs0.take j) = 0 ∧ Below w.heap.size w wr ∧ ∃ v, ChartAt wr w.heap.size w.heap.size v (newL (xs0.take j))

set_option maxRecDepth 100000 in
set_option maxHeartbeats 1000000 in
theorem new_any (xs0 : List Acc) (A : Option Addr) (n c B : Nat) (w : World) (h : Rd w B 3 A n (accs xs0)) (hB : B ≤ w.heap.size) (hn : n ≤ 1000000) :
    Calls Try.prog 70 #[.slice A n c] w (NewPost w xs0) := by
  have HL := Lib.hid h.accs_len
  have HR := Lib.hid h
  have HC0 : Hid (ChartAt (w.alloc (.cells #[.slice none 0 0] 156)) w.heap.size w.heap.size (.slice none 0 0) []) := ⟨heap_new _ _, Nat.le_refl _, World.ownsRow_nil _ _ _ _, GoodA.nil⟩
  clear h
  go_enter Try.func70, Try.ntmps70
  go_wp2_with fail
  go_loopw [11] (fun iv wr => ∃ j : Nat, j ≤ n ∧ iv = .int .i64 j ∧ NewRel w xs0 j wr) (fun iv _ => n - (intOf iv).toNat)
  case atStart => exact ⟨0, Nat.zero_le _, rfl, rfl, (Below.refl _ _).alloc (Nat.le_refl _) _, _, HC0.out⟩
  case round =>
    obtain ⟨j, hj, rfl, h0, hbel, v, hch⟩ := hrel
    have hzr := hbel.size
    have hclt := hch.lt
    have HCH := Lib.hid hch
    have H0 := Lib.hid h0
    have HBEL := Lib.hid hbel
    have HRr := Lib.hid (HR.out.below (hbel.mono hB))
    clear hch h0 hbel HC0
    by_cases hlt : j < n
    · obtain ⟨ad, a, rfl, hb1, hx, p1, p2, p3⟩ := HRr.out.acc hlt
      have p2' := cell_behind p2 (by omega)
      have p3' := cell_behind p3 (by omega)
      have HST := Lib.hid (new_step hx H0.out)
      have hjn : (j : Int) < (n : Int) := by omega
      obtain ⟨x1, x2, x3⟩ := a
      have kp := fun (w2 : World) (hb : Below wr.heap.size wr w2) => put_any w.heap.size w.heap.size v _ ⟨x1, x2, x3⟩ w2 (HCH.out.below hb)
      have KP := Lib.hid kp
      clear kp p2 p3 hx
      generalize hE : addE (newL (xs0.take j)) ⟨x1, x2, x3⟩ = E at *
      clear hE
      go_wp2_with fail
      refine (KP.out _ (by first | exact ((Below.refl _ _).alloc (Nat.le_refl _) _) | exact ((((Below.refl _ _).alloc (Nat.le_refl _) _).setCell (by simp) _).setCell (by simp) _).setCell (by simp) _)).mono ?_
      rintro e w2 ⟨rfl, v2, hch2, hbut, _⟩
      have HB2 : Hid (Below w.heap.size w w2) := (HBEL.out.trans (Below.mono (B := wr.heap.size) (by first | exact ((Below.refl _ _).alloc (Nat.le_refl _) _) | exact ((((Below.refl _ _).alloc (Nat.le_refl _) _).setCell (by simp) _).setCell (by simp) _).setCell (by simp) _) hzr)).trans (hbut.below (fun k _ hk => HCH.out.ge k hk) (by simp; omega))
      have HCH2 := Lib.hid hch2
      clear hch2 hbut
      by_cases h0 : E = 0
      · subst h0
        have HST2 := Lib.hid (HST.out.1 (by first | rfl | trivial))
        go_wp2
        exact ⟨⟨j + 1, by omega, by go_num, HST2.out.1, HB2.out, v2, by rw [HST2.out.2]; exact HCH2.out⟩, by simp [intOf]; omega⟩
      · have HST2 := Lib.hid (HST.out.2 h0)
        have h0' : (E == 0) = false := by simp [h0]
        have h0'' : (E != 0) = true := by simp [h0]
        go_wp2
        go_ret2
        exact ⟨HB2.out, .inl ⟨by rw [HST2.out]; exact h0, by rw [HST2.out]; rfl⟩⟩
    · obtain rfl : j = n := by omega
      have HE : Hid (newE xs0 = 0 ∧ newL xs0 = newL (xs0.take j)) := by
        have h1 : xs0.take j = xs0 := List.take_of_length_le (by have := HL.out; omega)
        have := H0.out
        rw [h1] at this ⊢
        exact ⟨this, rfl⟩
      go_wp2
      go_ret2
      exact ⟨HBEL.out, .inr ⟨HE.out.1, rfl, v, by rw [HE.out.2]; exact HCH.out⟩⟩
end Go.Proofs.Ythjpknipnmagkaa

/-
  Contract of the reference's Row.
-/
namespace Go.Proofs.Ythjpknipnmagkaa
open Go.RowKit

set_option maxRecDepth 100000 in
theorem refRow_any (x k : Int) (w : World) : Calls Try.prog 69 #[.int .i64 x, .int .i64 k] w fun e w' => e = .returned (.bool (okRow x k)) ∧ w = w' := by
  by_cases h1 : 1 ≤ x
  · by_cases h2 : x ≤ 9999
    · by_cases h3 : 1 ≤ k
      · by_cases h4 : k ≤ 5
        · have HO : Hid (okRow x k = true) := by simp [okRow, Hid, h1, h2, h3, h4]
          go_enter Try.func69, Try.ntmps69
          go_wp2
          go_ret
          exact ⟨ret_bool (by rw [HO.out]; try simp [h4]), rfl⟩
        · have HO : Hid (okRow x k = false) := by simp [okRow, Hid]; omega
          go_enter Try.func69, Try.ntmps69
          go_wp2
          go_ret
          exact ⟨ret_bool (by rw [HO.out]; try simp [h4]), rfl⟩
      · have HO : Hid (okRow x k = false) := by simp [okRow, Hid]; omega
        go_enter Try.func69, Try.ntmps69
        go_wp2
        go_ret
        exact ⟨ret_bool HO.out.symm, rfl⟩
    · have HO : Hid (okRow x k = false) := by simp [okRow, Hid]; omega
      go_enter Try.func69, Try.ntmps69
      go_wp2
      go_ret
      exact ⟨ret_bool HO.out.symm, rfl⟩
  · have HO : Hid (okRow x k = false) := by simp [okRow, Hid]; omega
    go_enter Try.func69, Try.ntmps69
    go_wp2
    go_ret
    exact ⟨ret_bool HO.out.symm, rfl⟩
end Go.Proofs.Ythjpknipnmagkaa

/-
  Contracts of (*Chart).Get, Retire, Live.
-/
namespace Go.Proofs.Ythjpknipnmagkaa
open Go.RowKit

def acc0 : Acc := ⟨0, 0, false⟩
/-- What Get answers. -/
def getV (l : List Acc) (x : Int) : Value := .tuple #[((findA l x).getD acc0).val, .bool (findA l x).isSome]

/-- A chart's account at a place, as a walk reads it. -/
theorem ChartAt.at {w : World} {B c p : Nat} {v : Value} {l : List Acc} {a : Acc} (h : ChartAt w B c v l) (hp : l[p]? = some a) : ∃ g cap, v = .slice (some ⟨g, 0, none⟩) l.length cap ∧ p < l.length ∧ g < w.heap.size ∧ B ≤ g ∧
    w.cell? ⟨g, p * 3, none⟩ = some (.int .i64 a.code) ∧ w.cell? ⟨g, p * 3 + 1, none⟩ = some (.int .i64 a.kind) ∧ w.cell? ⟨g, p * 3 + 2, none⟩ = some (.bool a.ret) ∧ ∀ j, w.frozen? ⟨g, j, none⟩ = false := by
  have hl := (List.getElem?_eq_some_iff.1 hp).1
  rcases h.own.2 with ⟨_, h1⟩ | ⟨g, cap, cur, rfl, hB, hh, _⟩
  · omega
  · obtain ⟨h1, h2, h3⟩ := accs_at l p a hp
    exact ⟨g, cap, rfl, hl, lt_of_blk hh, hB, own_cell h.own h1, own_cell h.own h2, own_cell h.own h3, fun j => warm_of hh j⟩

theorem accs_setRet : ∀ (l : List Acc) (p : Nat) (a : Acc), l[p]? = some a → (accs l).set (p * 3 + 2) (.bool true) = accs (l.set p { a with ret := true })
  | [], p, a, h => by simp at h
  | b :: l, 0, a, h => by
    simp at h; subst h
    simp [accs, Acc.cells]
  | b :: l, p + 1, a, h => by
    have := accs_setRet l p a (by simpa using h)
    unfold accs at this ⊢
    rw [List.set_cons_succ, List.flatMap_cons, List.flatMap_cons, ← this, show (p + 1) * 3 + 2 = (Acc.cells b).length + (p * 3 + 2) by simp [Acc.cells]; omega, List.set_append_right _ _ (by omega)]
    simp

theorem live_get (l : List Acc) (x : Int) : liveE1 l x = if (findA l x).isSome = true then (if ((findA l x).getD acc0).ret = true then 5 else 0) else 4 := by
  unfold liveE1
  cases findA l x <;> rfl
theorem live_step {l : List Acc} {xs : List Int} {j : Nat} {x : Int} (hx : xs[j]? = some x) (h0 : liveECh l (xs.take j) = 0) :
    (liveE1 l x = 0 → liveECh l (xs.take (j + 1)) = 0) ∧ (liveE1 l x ≠ 0 → liveECh l xs = liveE1 l x) := by
  induction xs generalizing j with
  | nil => simp at hx
  | cons y r ih =>
    cases j with
    | zero =>
      simp at hx; subst hx
      constructor
      · intro h; simp [liveECh, h]
      · intro h; simp [liveECh, h]
    | succ j =>
      rw [List.take_succ_cons, liveECh] at h0
      by_cases hy : liveE1 l y = 0
      · rw [if_pos hy] at h0
        obtain ⟨i1, i2⟩ := ih (j := j) (by simpa using hx) h0
        constructor
        · intro h; rw [List.take_succ_cons, liveECh, if_pos hy]; exact i1 h
        · intro h; rw [liveECh, if_pos hy]; exact i2 h
      · rw [if_neg hy] at h0; exact absurd h0 hy

end Go.Proofs.Ythjpknipnmagkaa

/-
  Contracts of the reference's Account, Live, AddAccount.
-/
namespace Go.Proofs.Ythjpknipnmagkaa
open Go.RowKit

theorem find_stepCh {l : List Acc} {j : Nat} {a : Acc} {x : Int} (ha : l[j]? = some a) (h0 : findA (l.take j) x = none) :
    (a.code = x → findA l x = some a) ∧ (a.code ≠ x → findA (l.take (j + 1)) x = none) := by
  obtain ⟨hl, rfl⟩ := List.getElem?_eq_some_iff.1 ha
  constructor
  · intro h
    unfold findA at *
    conv => lhs; rw [← List.take_append_drop j l, List.find?_append, h0, List.drop_eq_getElem_cons hl, List.find?_cons]
    simp [h]
  · intro h
    unfold findA at *
    rw [List.take_succ_eq_append_getElem hl, List.find?_append, h0]
    simp [h]

end Go.Proofs.Ythjpknipnmagkaa
