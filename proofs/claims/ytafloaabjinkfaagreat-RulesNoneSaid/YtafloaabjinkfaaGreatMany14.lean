/-
  Several texts, one behind the other: what each holds stands ahead of it.
-/
import Derived.Test.YtafloaabjinkfaaGreatMany13
import Derived.Test.YtafloaabjinkfaaGreatMany11

/-
  Contracts of (*Chart).put, (*Chart).Add.
-/
namespace Go.Proofs.YtafloaabjinkfaaGreat
open Go.RowKit

theorem own_sliceCh {w : World} {base : Nat} {e : TypeId} {size n : Nat} {v : Value} {xs : List Value} (h : w.ownsRow base e size v n xs) : ∃ A m c, v = .slice A m c := by
  obtain ⟨A, c, h⟩ := own_form h
  exact ⟨A, n, c, h⟩
/-- A chart that was v, and has become l. -/
def ChartTo (w : World) (B c : Nat) (v : Value) (l : List Acc) (w' : World) : Prop :=
  ∃ v', ChartAt w' B c v' l ∧ But (InChart c v) w w' ∧ ∀ k, v'.ownBlock = some k → v.ownBlock = some k ∨ w.heap.size ≤ k
theorem ChartTo.same {w w' : World} {B c : Nat} {v : Value} {l : List Acc} (h : ChartAt w B c v l) (hb : Below w.heap.size w w') : ChartTo w B c v l w' :=
  ⟨v, h.below hb, But.of_below hb, fun _ hk => .inl hk⟩
theorem okRow_no1 {x k : Int} (h : x < 1) : okRow x k = false := by simp [okRow]; omega
theorem okRow_no2 {x k : Int} (h : 9999 < x) : okRow x k = false := by simp [okRow]; omega
theorem okRow_k {x k : Int} (h1 : ¬ x < 1) (h2 : ¬ 9999 < x) : okRow x k = kOk k := by
  unfold okRow kOk
  rw [Bool.eq_iff_iff]
  simp
  omega
theorem addE_bad {l : List Acc} {a : Acc} (h : okRow a.code a.kind = false) : addE l a = 1 ∧ addL l a = l := by
  have : addE l a = 1 := by simp [addE, h]
  exact ⟨this, by simp [addL, this]⟩
theorem addE_dup {l : List Acc} {a : Acc} (h : okRow a.code a.kind = true) (hf : (findA l a.code).isSome = true) : addE l a = 7 ∧ addL l a = l := by
  have : addE l a = 7 := by simp [addE, h, hf]
  exact ⟨this, by simp [addL, this]⟩
theorem addE_new {l : List Acc} {a : Acc} (h : okRow a.code a.kind = true) (hf : (findA l a.code).isSome = false) : addE l a = 0 ∧ addL l a = insA l a := by
  have : addE l a = 0 := by simp [addE, h, hf]
  exact ⟨this, by simp [addL, this]⟩

set_option maxRecDepth 100000 in
set_option maxHeartbeats 1000000 in
theorem put_bad (B c : Nat) (v : Value) (l : List Acc) (x k : Int) (r : Bool) (w : World) (h : ChartAt w B c v l) (ho : okRow x k = false) :
    Calls Tryz.prog 106 #[.pointer (some ⟨c, 0, none⟩), .agg #[.int .i64 x, .int .i64 k, .bool r]] w fun e w' => e = .returned (.int .i64 1) ∧ ChartTo w B c v l w' := by
  have HC := Lib.hid h
  have hclt := h.lt
  clear h
  by_cases h1 : x < 1
  · clear ho
    go_enter Tryz.func106, Tryz.ntmps106
    go_wp2
    go_ret
    exact ⟨rfl, ChartTo.same HC.out ((Below.refl _ _).alloc (Nat.le_refl _) _)⟩
  by_cases h2 : 9999 < x
  · clear ho
    go_enter Tryz.func106, Tryz.ntmps106
    go_wp2
    go_ret
    exact ⟨rfl, ChartTo.same HC.out ((Below.refl _ _).alloc (Nat.le_refl _) _)⟩
  rw [okRow_k h1 h2] at ho
  have kk := fun w => known_any k w
  rw [ho] at kk
  clear ho
  go_enter Tryz.func106, Tryz.ntmps106
  go_wp2_with fail
  refine (kk _).mono ?_
  rintro e w' ⟨rfl, hb⟩
  have HB : Hid (Below w.heap.size w w') := ((Below.refl _ _).alloc (Nat.le_refl _) _).trans (hb.mono (by simp))
  clear hb
  go_wp2
  go_ret
  exact ⟨rfl, ChartTo.same HC.out HB.out⟩

set_option maxRecDepth 100000 in
set_option maxHeartbeats 1000000 in
theorem put_dup (B c : Nat) (v : Value) (l : List Acc) (x k : Int) (r : Bool) (w : World) (h : ChartAt w B c v l) (ho : okRow x k = true) (hf : (findA l x).isSome = true) :
    Calls Tryz.prog 106 #[.pointer (some ⟨c, 0, none⟩), .agg #[.int .i64 x, .int .i64 k, .bool r]] w fun e w' => e = .returned (.int .i64 7) ∧ ChartTo w B c v l w' := by
  have HC := Lib.hid h
  have hclt := h.lt
  obtain ⟨q1, q2, _, _⟩ := okRow_t ho
  rw [okRow_k (by omega) (by omega)] at ho
  have kk := fun w => known_any k w
  rw [ho] at kk
  have HF := Lib.hid hf
  clear ho h hf
  go_enter Tryz.func106, Tryz.ntmps106
  go_wp2_with fail
  refine (kk _).mono ?_
  rintro e w1 ⟨rfl, hb⟩
  have hx : w1.cell? ⟨w.heap.size, 0, none⟩ = some (.int .i64 x) := by
    rw [hb.cell (by simp)]; simp [go_sem]
  have HB : Hid (Below w.heap.size w w1) := ((Below.refl _ _).alloc (Nat.le_refl _) _).trans (hb.mono (by simp))
  clear hb
  go_wp2_with fail
  refine (place_anyCh B c v l x w1 (HC.out.below HB.out)).mono ?_
  rintro e w2 ⟨rfl, hb⟩
  rw [HF.out]
  have HB2 : Hid (Below w.heap.size w w2) := HB.out.trans (hb.mono HB.out.size)
  clear hb hx
  go_wp2
  go_ret
  exact ⟨rfl, ChartTo.same HC.out HB2.out⟩

set_option maxRecDepth 100000 in
set_option maxHeartbeats 1000000 in
theorem put_new (B c : Nat) (v : Value) (l : List Acc) (x k : Int) (r : Bool) (w : World) (h : ChartAt w B c v l) (ho : okRow x k = true) (hf : (findA l x).isSome = false) :
    Calls Tryz.prog 106 #[.pointer (some ⟨c, 0, none⟩), .agg #[.int .i64 x, .int .i64 k, .bool r]] w fun e w' => e = .returned (.int .i64 0) ∧ ChartTo w B c v (insA l ⟨x, k, r⟩) w' := by
  have HC := Lib.hid h
  have hclt := h.lt
  have HG : Hid (GoodA (insA l ⟨x, k, r⟩)) := h.good.ins (a := ⟨x, k, r⟩) ho (by simpa using hf)
  obtain ⟨q1, q2, _, _⟩ := okRow_t ho
  rw [okRow_k (by omega) (by omega)] at ho
  have kk := fun w => known_any k w
  rw [ho] at kk
  have HF := Lib.hid hf
  have hlen := h.good.len
  obtain ⟨A, cap, rfl⟩ := h.form
  clear ho h hf
  go_enter Tryz.func106, Tryz.ntmps106
  go_wp2_with fail
  refine (kk _).mono ?_
  rintro e w1 ⟨rfl, hb⟩
  have hx0 : w1.cell? ⟨w.heap.size, 0, none⟩ = some (.int .i64 x) := by rw [hb.cell (by simp)]; simp [go_sem]
  have hx1 : w1.cell? ⟨w.heap.size, 1, none⟩ = some (.int .i64 k) := by rw [hb.cell (by simp)]; simp [go_sem]
  have hx2 : w1.cell? ⟨w.heap.size, 2, none⟩ = some (.bool r) := by rw [hb.cell (by simp)]; simp [go_sem]
  have HB : Hid (Below w.heap.size w w1) := ((Below.refl _ _).alloc (Nat.le_refl _) _).trans (hb.mono (by simp))
  have hz1 : w.heap.size + 1 ≤ w1.heap.size := by have := hb.size; simpa using this
  clear hb
  go_wp2_with fail
  refine (place_anyCh B c _ l x w1 (HC.out.below HB.out)).mono ?_
  rintro e w2 ⟨rfl, hb⟩
  rw [HF.out]
  have HP := Lib.hid (posn_le l x)
  have HI : Hid (insA l ⟨x, k, r⟩ = l.take (posn l x) ++ ⟨x, k, r⟩ :: l.drop (posn l x)) := rfl
  generalize posn l x = p at *
  have hc0 := (hb.cell (p := ⟨w.heap.size, 0, none⟩) (by show w.heap.size < _; omega)).trans hx0
  have hc1 := (hb.cell (p := ⟨w.heap.size, 1, none⟩) (by show w.heap.size < _; omega)).trans hx1
  have hc2 := (hb.cell (p := ⟨w.heap.size, 2, none⟩) (by show w.heap.size < _; omega)).trans hx2
  have HB2 : Hid (Below w.heap.size w w2) := HB.out.trans (hb.mono HB.out.size)
  have hz2 : w.heap.size + 1 ≤ w2.heap.size := by have := hb.size; omega
  have hC2 := HC.out.below HB2.out
  have hcc := hC2.cell
  have hcw := hC2.warm
  have hclt2 := hC2.lt
  have HC2 := Lib.hid hC2
  clear hb hx0 hx1 hx2 hC2
  have HIN : Hid (Calls Tryz.prog 122 #[.slice A l.length cap, .int .i64 p, .slice (some ⟨w2.heap.size, 0, none⟩) 1 1] (w2.alloc (.cells #[.int .i64 x, .int .i64 k, .bool r] 74)).drew fun e w' => ∃ v', e = .returned v' ∧ InsertedCh (w2.alloc (.cells #[.int .i64 x, .int .i64 k, .bool r] 74)).drew B (.slice A l.length cap) (l.take p ++ ⟨x, k, r⟩ :: l.drop p) v' w') :=
    insert_anyCh l ⟨x, k, r⟩ B w2.heap.size p l.length cap A _ rfl (own_kept HC2.out.own fun q hq _ => Below.heap_alloc w2 _ _ hq) (heap_new w2 _) (fun e => by have := own_lt HC2.out.own _ e; omega) (by omega) (by have := HC2.out.low; simp; omega) HP.out
  have HNE : Hid ((Value.slice A l.length cap).ownBlock ≠ some c) := HC2.out.apart
  go_wp2_with fail
  go_region_law ((go_simp; go_at_call 122; refine HIN.out.mono ?_; rintro e w3 ⟨v3, rfl, hins⟩; obtain ⟨A3, n3, c3, rfl⟩ := own_sliceCh hins.1; have hb3 : w3.heap[c]? = w2.heap[c]? := (hins.2.1.block c (by simp; omega) HNE.out).trans (Below.heap_alloc w2 _ _ hclt2); have hc3 : w3.cell? ⟨c, 0, none⟩ = some (.slice A l.length cap) := by { rw [cell_of (hb3.trans HC2.out.blk)]; rfl }; have hf3 : w3.frozen? ⟨c, 0, none⟩ = false := warm_of (hb3.trans HC2.out.blk) 0; have HB3 := Lib.hid hb3; have HIN3 := Lib.hid hins; clear hb3 hins))
  all_goals
    go_wp2
    go_ret
    refine ⟨rfl, .slice A3 n3 c3, ?_, ?_, ?_⟩
    · refine ⟨?_, HC2.out.low, ?_, HG.out⟩
      · rw [set_here (HB3.out.trans HC2.out.blk)]; rfl
      · rw [HI.out]
        refine own_kept HIN3.out.1 fun q _ hq => Below.heap_setCell _ _ _ _ (fun e => ?_)
        have e' : q = c := e
        rcases HIN3.out.2.2 with h | h
        · exact HNE.out (by rw [← h, hq]; exact congrArg some e)
        · rw [h] at hq
          injection hq with hq
          simp at hq
          omega
    · have h1 : But (InChart c (.slice A l.length cap)) w w2 := But.of_below HB2.out
      have h2 : But (InChart c (.slice A l.length cap)) w2 (w2.alloc (.cells #[.int .i64 x, .int .i64 k, .bool r] 74)).drew := But.of_below ((Below.refl _ _).alloc (Nat.le_refl _) _).drew
      have h3 : But (InChart c (.slice A l.length cap)) (w2.alloc (.cells #[.int .i64 x, .int .i64 k, .bool r] 74)).drew w3 := HIN3.out.2.1.wide fun q _ hq => .inr hq
      have h4 : But (InChart c (.slice A l.length cap)) w3 (w3.setCell ⟨c, 0, none⟩ (.slice A3 n3 c3)) := ⟨rfl, rfl, rfl, by simp, fun q _ hq => Below.heap_setCell _ _ _ _ (fun e => hq (.inl e))⟩
      exact ((h1.trans h2).trans h3).trans h4
    · intro q hq
      rcases HIN3.out.2.2 with h | h
      · exact .inl (by rw [← h]; exact hq)
      · rw [h] at hq
        injection hq with hq
        simp at hq
        exact .inr (by omega)

theorem put_any (B c : Nat) (v : Value) (l : List Acc) (a : Acc) (w : World) (h : ChartAt w B c v l) :
    Calls Tryz.prog 106 #[.pointer (some ⟨c, 0, none⟩), .agg #[.int .i64 a.code, .int .i64 a.kind, .bool a.ret]] w fun e w' => e = .returned (.int .i64 (addE l a)) ∧ ChartTo w B c v (addL l a) w' := by
  cases ho : okRow a.code a.kind
  · rw [(addE_bad (l := l) ho).1, (addE_bad (l := l) ho).2]
    exact put_bad B c v l a.code a.kind a.ret w h ho
  cases hf : (findA l a.code).isSome
  · rw [(addE_new ho hf).1, (addE_new ho hf).2]
    exact put_new B c v l a.code a.kind a.ret w h ho hf
  · rw [(addE_dup ho hf).1, (addE_dup ho hf).2]
    exact put_dup B c v l a.code a.kind a.ret w h ho hf

end Go.Proofs.YtafloaabjinkfaaGreat

/-
  Contract of chart.New.
-/
namespace Go.Proofs.YtafloaabjinkfaaGreat
open Go.RowKit

/-- Accounts added one behind the other, till one has an error. -/
def newR (l : List Acc) : List Acc → List Acc × Int
  | [] => (l, 0)
  | a :: r => if addE l a = 0 then newR (insA l a) r else (l, addE l a)
def newE (xs0 : List Acc) : Int := (newR [] xs0).2
def newL (xs0 : List Acc) : List Acc := (newR [] xs0).1
theorem newR_append : ∀ (xs l ys : List Acc), newR l (xs ++ ys) = if (newR l xs).2 = 0 then newR (newR l xs).1 ys else newR l xs
  | [], l, ys => by simp [newR]
  | a :: xs, l, ys => by
    rw [List.cons_append, newR, newR]
    by_cases h : addE l a = 0
    · rw [if_pos h, if_pos h, newR_append xs]
    · rw [if_neg h, if_neg h, if_neg h]
theorem newR_good : ∀ (xs l : List Acc), GoodA l → GoodA (newR l xs).1
  | [], l, h => h
  | a :: xs, l, h => by
    rw [newR]
    by_cases h0 : addE l a = 0
    · rw [if_pos h0]
      obtain ⟨h1, h2⟩ := addE_ok h0
      exact newR_good xs _ (h.ins h1 h2)
    · rw [if_neg h0]; exact h
theorem newL_good (xs0 : List Acc) : GoodA (newL xs0) := newR_good xs0 [] GoodA.nil
theorem new_step {xs0 : List Acc} {j : Nat} {a : Acc} (ha : xs0[j]? = some a) (h0' : newE (xs0.take j) = 0) :
    (addE (newL (xs0.take j)) a = 0 → newE (xs0.take (j + 1)) = 0 ∧ newL (xs0.take (j + 1)) = addL (newL (xs0.take j)) a) ∧ (addE (newL (xs0.take j)) a ≠ 0 → newE xs0 = addE (newL (xs0.take j)) a) := by
  obtain ⟨hl, rfl⟩ := List.getElem?_eq_some_iff.1 ha
  have h0 : (newR [] (xs0.take j)).2 = 0 := h0'
  have h1 : newR [] (xs0.take (j + 1)) = newR (newL (xs0.take j)) [xs0[j]] := by
    rw [List.take_succ_eq_append_getElem hl, newR_append, if_pos h0]; rfl
  constructor
  · intro h
    unfold newE
    rw [show newL (xs0.take (j + 1)) = (newR [] (xs0.take (j + 1))).1 from rfl, h1]
    simp [newR, h, addL]
  · intro h
    have h2 : newR [] xs0 = newR (newL (xs0.take j)) (xs0[j] :: xs0.drop (j + 1)) := by
      conv => lhs; rw [← List.take_append_drop j xs0, newR_append, if_pos h0, List.drop_eq_getElem_cons hl]
      rfl
    unfold newE
    rw [h2, newR, if_neg h]

/-- What New answers. -/
def NewPost (w : World) (xs0 : List Acc) (e : Ending) (w' : World) : Prop :=
  Below w.heap.size w w' ∧ ((newE xs0 ≠ 0 ∧ e = .returned (.tuple #[.pointer none, .int .i64 (newE xs0)])) ∨
    (newE xs0 = 0 ∧ e = .returned (.tuple #[.pointer (some ⟨w.heap.size, 0, none⟩), .int .i64 0]) ∧ ∃ v, ChartAt w' w.heap.size w.heap.size v (newL xs0)))

/-- What stands at the loop's head. -/
def NewRel (w : World) (xs0 : List Acc) (j : Nat) (wr : World) : Prop :=
  newE (xs0.take j) = 0 ∧ Below w.heap.size w wr ∧ ∃ v, ChartAt wr w.heap.size w.heap.size v (newL (xs0.take j))

set_option maxRecDepth 100000 in
set_option maxHeartbeats 1000000 in
theorem new_any (xs0 : List Acc) (A : Option Addr) (n c B : Nat) (w : World) (h : Rd w B 3 A n (accs xs0)) (hB : B ≤ w.heap.size) (hn : n ≤ 1000000) :
    Calls Tryz.prog 76 #[.slice A n c] w (NewPost w xs0) := by
  have HL := Lib.hid h.accs_len
  have HR := Lib.hid h
  have HC0 : Hid (ChartAt (w.alloc (.cells #[.slice none 0 0] 120)) w.heap.size w.heap.size (.slice none 0 0) []) := ⟨heap_new _ _, Nat.le_refl _, World.ownsRow_nil _ _ _ _, GoodA.nil⟩
  clear h
  go_enter Tryz.func76, Tryz.ntmps76
  go_wp2_with fail
  go_loopw [11] (fun iv wr => ∃ j : Nat, j ≤ n ∧ iv = .int .i64 j ∧ NewRel w xs0 j wr) (fun iv _ => n - (intOf iv).toNat)
  case atStart => exact ⟨0, Nat.zero_le _, rfl, rfl, (Below.refl _ _).alloc (Nat.le_refl _) _, _, HC0.out⟩
  case round =>
    obtain ⟨j, hj, rfl, h0, hbel, v, hch⟩ := hrel
    have hzr := hbel.size
    have hclt := hch.lt
    have HCH := Lib.hid hch
    have H0 := Lib.hid h0
    have HBEL := Lib.hid hbel
    have HRr := Lib.hid (HR.out.below (hbel.mono hB))
    clear hch h0 hbel HC0
    by_cases hlt : j < n
    · obtain ⟨ad, a, rfl, hb1, hx, p1, p2, p3⟩ := HRr.out.acc hlt
      have p2' := cell_behind p2 (by omega)
      have p3' := cell_behind p3 (by omega)
      have HST := Lib.hid (new_step hx H0.out)
      have hjn : (j : Int) < (n : Int) := by omega
      obtain ⟨x1, x2, x3⟩ := a
      have kp := fun (w2 : World) (hb : Below wr.heap.size wr w2) => put_any w.heap.size w.heap.size v _ ⟨x1, x2, x3⟩ w2 (HCH.out.below hb)
      have KP := Lib.hid kp
      clear kp p2 p3 hx
      generalize hE : addE (newL (xs0.take j)) ⟨x1, x2, x3⟩ = E at *
      clear hE
      go_wp2_with fail
      refine (KP.out _ (by first | exact ((Below.refl _ _).alloc (Nat.le_refl _) _) | exact ((((Below.refl _ _).alloc (Nat.le_refl _) _).setCell (by simp) _).setCell (by simp) _).setCell (by simp) _)).mono ?_
      rintro e w2 ⟨rfl, v2, hch2, hbut, _⟩
      have HB2 : Hid (Below w.heap.size w w2) := (HBEL.out.trans (Below.mono (B := wr.heap.size) (by first | exact ((Below.refl _ _).alloc (Nat.le_refl _) _) | exact ((((Below.refl _ _).alloc (Nat.le_refl _) _).setCell (by simp) _).setCell (by simp) _).setCell (by simp) _) hzr)).trans (hbut.below (fun k _ hk => HCH.out.ge k hk) (by simp; omega))
      have HCH2 := Lib.hid hch2
      clear hch2 hbut
      by_cases h0 : E = 0
      · subst h0
        have HST2 := Lib.hid (HST.out.1 (by first | rfl | trivial))
        go_wp2
        exact ⟨⟨j + 1, by omega, by go_num, HST2.out.1, HB2.out, v2, by rw [HST2.out.2]; exact HCH2.out⟩, by simp [intOf]; omega⟩
      · have HST2 := Lib.hid (HST.out.2 h0)
        have h0' : (E == 0) = false := by simp [h0]
        have h0'' : (E != 0) = true := by simp [h0]
        go_wp2
        go_ret2
        exact ⟨HB2.out, .inl ⟨by rw [HST2.out]; exact h0, by rw [HST2.out]; rfl⟩⟩
    · obtain rfl : j = n := by omega
      have HE : Hid (newE xs0 = 0 ∧ newL xs0 = newL (xs0.take j)) := by
        have h1 : xs0.take j = xs0 := List.take_of_length_le (by have := HL.out; omega)
        have := H0.out
        rw [h1] at this ⊢
        exact ⟨this, rfl⟩
      go_wp2
      go_ret2
      exact ⟨HBEL.out, .inr ⟨HE.out.1, rfl, v, by rw [HE.out.2]; exact HCH.out⟩⟩
end Go.Proofs.YtafloaabjinkfaaGreat

/-
  Contract of the reference's Row.
-/
namespace Go.Proofs.YtafloaabjinkfaaGreat
open Go.RowKit

set_option maxRecDepth 100000 in
theorem refRow_any (x k : Int) (w : World) : Calls Tryz.prog 86 #[.int .i64 x, .int .i64 k] w fun e w' => e = .returned (.bool (okRow x k)) ∧ w = w' := by
  by_cases h1 : 1 ≤ x
  · by_cases h2 : x ≤ 9999
    · by_cases h3 : 1 ≤ k
      · by_cases h4 : k ≤ 5
        · have HO : Hid (okRow x k = true) := by simp [okRow, Hid, h1, h2, h3, h4]
          go_enter Tryz.func86, Tryz.ntmps86
          go_wp2
          go_ret
          exact ⟨ret_bool (by rw [HO.out]; try simp [h4]), rfl⟩
        · have HO : Hid (okRow x k = false) := by simp [okRow, Hid]; omega
          go_enter Tryz.func86, Tryz.ntmps86
          go_wp2
          go_ret
          exact ⟨ret_bool (by rw [HO.out]; try simp [h4]), rfl⟩
      · have HO : Hid (okRow x k = false) := by simp [okRow, Hid]; omega
        go_enter Tryz.func86, Tryz.ntmps86
        go_wp2
        go_ret
        exact ⟨ret_bool HO.out.symm, rfl⟩
    · have HO : Hid (okRow x k = false) := by simp [okRow, Hid]; omega
      go_enter Tryz.func86, Tryz.ntmps86
      go_wp2
      go_ret
      exact ⟨ret_bool HO.out.symm, rfl⟩
  · have HO : Hid (okRow x k = false) := by simp [okRow, Hid]; omega
    go_enter Tryz.func86, Tryz.ntmps86
    go_wp2
    go_ret
    exact ⟨ret_bool HO.out.symm, rfl⟩
end Go.Proofs.YtafloaabjinkfaaGreat
