/-
  Several texts, one behind the other: what each holds stands ahead of it.
-/
import Derived.Test.YtjlokkjbdgcooaaGreatIncMake
import Derived.Test.YtjlokkjbdgcooaaGreatMany24
import Derived.Test.YtjlokkjbdgcooaaGreatMany22
import Derived.Test.YtjlokkjbdgcooaaGreatMany25

/-
  Contract of income.Make; and of Make and Of without a chart.
-/
namespace Go.Proofs.YtjlokkjbdgcooaaGreat
open Go.RowKit
open Mo

/-- The error of a statement. -/
noncomputable def incE (C : List Acc) (o : OfT) (M : List Jrn) : Int := if balE o M = 0 then (if incFits C (balR o M) = true then 0 else 2) else balE o M
def MakeEnd (w : World) (C : List Acc) (o : OfT) (M : List Jrn) (e : Ending) (w' : World) : Prop :=
  Below w.heap.size w w' ∧ ((incE C o M ≠ 0 ∧ e = zeroS (incE C o M)) ∨ (incE C o M = 0 ∧ StmOk w C (balR o M) e w'))
theorem incE_cases (C : List Acc) (o : OfT) (M : List Jrn) : incE C o M = 0 ∨ incE C o M = 1 ∨ incE C o M = 2 := by
  unfold incE balE
  repeat' split
  all_goals first | exact .inl rfl | exact .inr (.inl rfl) | exact .inr (.inr rfl)
theorem StmOk.on {w w1 w' : World} {C : List Acc} {R : List Bal} {e : Ending} (h : StmOk w1 C R e w') (hb : w.heap.size ≤ w1.heap.size) : StmOk w C R e w' := by
  obtain ⟨A1, c1, A2, c2, h1, h2, h3, h4⟩ := h
  exact ⟨A1, c1, A2, c2, h1, own_base h2 hb, own_base h3 hb, h4⟩
set_option maxRecDepth 100000 in
set_option maxHeartbeats 4000000 in
theorem make_any (Bc cb Bb bb : Nat) (vc vb : Value) (C : List Acc) (lb : List JR) (M : List Jrn) (o : OfT) (w : World) (hC : ChartAt w Bc cb vc C) (hT : TomeAt w Bb bb vb lb) (hlb : lb.length ≤ 100) (hM : lb.map JR.j = M) (hgl : (balsOf (gathL (pkL o) M)).length ≤ 1000) (hg : GoodA C) (hl : C.length ≤ 10000) :
    Calls Tryz.prog 43 #[.pointer (some ⟨cb, 0, none⟩), .pointer (some ⟨bb, 0, none⟩), o.val] w (MakeEnd w C o M) := by
  obtain ⟨W1, hW1⟩ : ∃ W1, w.alloc (.cells #[.int .i64 o.ent, .int .i64 o.frm, .int .i64 o.til] 80) = W1 := ⟨_, rfl⟩
  have hb1 : Below w.heap.size w W1 := by rw [← hW1]; exact (Below.refl _ _).alloc (Nat.le_refl _) _
  have hz1 : W1.heap.size = w.heap.size + 1 := by rw [← hW1]; simp
  have hh1 : W1.heap[w.heap.size]? = some (.cells #[.int .i64 o.ent, .int .i64 o.frm, .int .i64 o.til] 80 (0, 0)) := by rw [← hW1]; exact heap_new w _
  obtain ⟨W2, hW2⟩ : ∃ W2, W1.alloc (.cells #[.slice none 0 0, .slice none 0 0, .int .i64 0, .int .i64 0, .int .i64 0] 97) = W2 := ⟨_, rfl⟩
  have hb2 : Below W1.heap.size W1 W2 := by rw [← hW2]; exact (Below.refl _ _).alloc (Nat.le_refl _) _
  have hz2 : W2.heap.size = w.heap.size + 2 := by rw [← hW2]; simp [hz1]
  have hh2 : W2.heap[w.heap.size + 1]? = some (.cells #[.slice none 0 0, .slice none 0 0, .int .i64 0, .int .i64 0, .int .i64 0] 97 (0, 0)) := by
    have := heap_new W1 (.cells #[.slice none 0 0, .slice none 0 0, .int .i64 0, .int .i64 0, .int .i64 0] 97)
    rw [hW2, hz1] at this
    exact this
  have hb12 : Below w.heap.size w W2 := hb1.trans (hb2.mono hb1.size)
  have hh12 : W2.heap[w.heap.size]? = some (.cells #[.int .i64 o.ent, .int .i64 o.frm, .int .i64 o.til] 80 (0, 0)) := (hb2.block _ (by omega)).trans hh1
  have kb := balances_any o _ _ vb lb W2 (hT.below hb12) hlb
  rw [hM] at kb
  have KB := Lib.hid kb
  have HC2 := Lib.hid (hC.below hb12)
  have HB2 := Lib.hid hb12
  have HH2 := Lib.hid hh2
  have HZ2 : Hid (W2.heap.size = w.heap.size + 2) := hz2
  have x0 := cell_of hh12 0
  have x1 := cell_of hh12 1
  have x2 := cell_of hh12 2
  dsimp at x0 x1 x2
  have HW : Hid ((w.alloc (.cells #[.int .i64 o.ent, .int .i64 o.frm, .int .i64 o.til] 80)).alloc (.cells #[.slice none 0 0, .slice none 0 0, .int .i64 0, .int .i64 0, .int .i64 0] 97) = W2) := by unfold Hid; rw [hW1, hW2]
  clear hW1 hW2 hb1 hb2 hz1 hz2 hh1 hh2 hb12 hh12 kb hC hT hM hlb
  have HME : Hid (∀ e w', (Below w.heap.size w w' ∧ ((incE C o M ≠ 0 ∧ e = zeroS (incE C o M)) ∨ (incE C o M = 0 ∧ StmOk w C (balR o M) e w'))) → MakeEnd w C o M e w') := fun _ _ h => h
  have HIE1 : Hid (∀ x, balE o M = x → x ≠ 0 → incE C o M = x) := fun x hx h0 => by unfold incE; rw [hx, if_neg h0]
  have HIE2 : Hid (balE o M = 0 → incFits C (balR o M) = true → incE C o M = 0) := fun h1 h2 => by unfold incE; rw [if_pos h1, if_pos h2]
  have HIE3 : Hid (balE o M = 0 → incFits C (balR o M) = false → incE C o M = 2) := fun h1 h2 => by unfold incE; rw [if_pos h1, h2]; rfl
  have HPZ := Lib.hid (fun h => (balE_zero (o := o) (M := M) h).2)
  unfold OfT.val at KB ⊢
  go_enter Tryz.func43, Tryz.ntmps43
  go_wp2_with fail
  rw [HW.out]
  refine KB.out.mono ?_
  rintro e w3 hbe
  obtain ⟨A3, c3, R, rfl, hR, hown, hb3⟩ := balEnd_is hbe
  have hRR := balIs_R hR
  have hz3 := hb3.size
  have hh3 : w3.heap[w.heap.size + 1]? = some (.cells #[.slice none 0 0, .slice none 0 0, .int .i64 0, .int .i64 0, .int .i64 0] 97 (0, 0)) := (hb3.block _ (by have := HZ2.out; omega)).trans HH2.out
  have y0 := cell_of hh3 0
  have y1 := cell_of hh3 1
  have y2 := cell_of hh3 2
  have y3 := cell_of hh3 3
  have y4 := cell_of hh3 4
  have yf := fun o => warm_of hh3 o
  dsimp at y0 y1 y2 y3 y4
  have HB3 := Lib.hid (HB2.out.trans (hb3.mono HB2.out.size))
  have HH3 := Lib.hid hh3
  have HC3 := Lib.hid (HC2.out.below hb3)
  have HI := Lib.hid hR
  have HRR := Lib.hid hRR
  have hrl := hR.len
  have HRD := Lib.hid (rd_of_own hown)
  have HZ3 : Hid (w.heap.size + 2 ≤ w3.heap.size) := by have := HZ2.out; unfold Hid; omega
  clear hbe hR hown hb3 hh3 hRR hz3 KB
  by_cases hE : balE o M = 0
  · have hfa : fitsAll (amts R) = true := (HI.out.1 hE).fits (HPZ.out hE)
    have ko := ofS_any Bc cb vc C R A3 R.length c3 w3.heap.size w3 HC3.out HRD.out (Nat.le_refl _) (by omega) hg hl hfa
    have KO := Lib.hid ko
    have HE := Lib.hid hE
    rw [hE]
    clear ko hfa hE
    go_wp2_with fail
    refine KO.out.mono ?_
    rintro e w4 ⟨hb4, ⟨hf, rfl⟩ | ⟨hf, hst⟩⟩
    · have hh4 := (hb4.block _ (by have := HZ3.out; omega)).trans HH3.out
      clear y0 y1 y2 y3 y4 yf
      have y0 := cell_of hh4 0
      have y1 := cell_of hh4 1
      have y2 := cell_of hh4 2
      have y3 := cell_of hh4 3
      have y4 := cell_of hh4 4
      have yf := fun o => warm_of hh4 o
      dsimp at y0 y1 y2 y3 y4
      have HB4 := Lib.hid (HB3.out.trans (hb4.mono HB3.out.size))
      have HF := Lib.hid hf
      clear hb4 hh4 hf KO
      unfold zeroS
      go_wp2_with fail
      refine bodyPost_ret (v := .tuple #[.agg #[.slice none 0 0, .slice none 0 0, .int .i64 0, .int .i64 0, .int .i64 0], .int .i64 2]) (by simp [results, Tryz.results43, go_sem, y0, y1, y2, y3, y4, yf]) rfl ?_
      refine HME.out _ _ ⟨below_five HB4.out (Nat.le_succ _) _ _ _ _ _, .inl ?_⟩
      rw [HIE3.out HE.out (by rw [← HRR.out]; exact HF.out)]
      exact ⟨by decide, rfl⟩
    · obtain ⟨A1, c1, A2, c2, rfl, hs1, hs2, hs3⟩ := hst
      have hh4 := (hb4.block _ (by have := HZ3.out; omega)).trans HH3.out
      clear y0 y1 y2 y3 y4 yf
      have y0 := cell_of hh4 0
      have y1 := cell_of hh4 1
      have y2 := cell_of hh4 2
      have y3 := cell_of hh4 3
      have y4 := cell_of hh4 4
      have yf := fun o => warm_of hh4 o
      dsimp at y0 y1 y2 y3 y4
      have HB4 := Lib.hid (HB3.out.trans (hb4.mono HB3.out.size))
      have HF := Lib.hid hf
      have HS1 := Lib.hid hs1; have HS2 := Lib.hid hs2; have HS3 := Lib.hid hs3
      have HST : Hid (∀ A1 c1 A2 c2 w4', w4'.ownsRow w.heap.size 161 2 (.slice A1 (inL C R).length c1) (inL C R).length (bals (inL C R)) → w4'.ownsRow w.heap.size 161 2 (.slice A2 (outL C R).length c2) (outL C R).length (bals (outL C R)) → Hid (∀ q, (Value.slice A1 (inL C R).length c1).ownBlock = some q → (Value.slice A2 (outL C R).length c2).ownBlock ≠ some q) →
          StmOk w C (balR o M) (.returned (.tuple #[.agg #[.slice A1 (inL C R).length c1, .slice A2 (outL C R).length c2, .int .i64 (earnB C R), .int .i64 (spentB C R), .int .i64 (netB C R)], .int .i64 0])) w4') := by
        intro A1 c1 A2 c2 w4' h1 h2 h3
        rw [← HRR.out]
        exact ⟨A1, c1, A2, c2, rfl, h1, h2, h3⟩
      clear hb4 hh4 hf KO hs1 hs2 hs3
      generalize inL C R = L1 at *
      generalize outL C R = L2 at *
      generalize earnB C R = ve at *
      generalize spentB C R = vs at *
      generalize netB C R = vn at *
      go_wp2_with fail
      refine bodyPost_ret (v := .tuple #[.agg #[.slice A1 L1.length c1, .slice A2 L2.length c2, .int .i64 ve, .int .i64 vs, .int .i64 vn], .int .i64 0]) (by simp [results, Tryz.results43, go_sem, y0, y1, y2, y3, y4, yf]) rfl ?_
      refine HME.out _ _ ⟨below_five HB4.out (Nat.le_succ _) _ _ _ _ _, .inr ⟨HIE2.out HE.out (by rw [← HRR.out]; exact HF.out), HST.out _ _ _ _ _ ?_ ?_ HS3.out⟩⟩
      · exact own_base (own_five HS1.out (by have := HZ3.out; omega) _ _ _ _ _) (by have := HZ3.out; omega)
      · exact own_base (own_five HS2.out (by have := HZ3.out; omega) _ _ _ _ _) (by have := HZ3.out; omega)
  · have HIE := Lib.hid (HIE1.out _ rfl hE)
    have HE := Lib.hid hE
    obtain ⟨E, hEE⟩ : ∃ E, balE o M = E := ⟨_, rfl⟩
    rw [hEE] at hE HIE HE ⊢
    have t1 : (E != 0) = true := by simpa using hE
    clear hE hEE
    go_wp2_with fail
    refine bodyPost_ret (v := .tuple #[.agg #[.slice none 0 0, .slice none 0 0, .int .i64 0, .int .i64 0, .int .i64 0], .int .i64 E]) (by simp [results, Tryz.results43, go_sem, y0, y1, y2, y3, y4, yf]) rfl ?_
    refine HME.out _ _ ⟨below_five HB3.out (Nat.le_succ _) _ _ _ _ _, .inl ?_⟩
    rw [HIE.out]
    exact ⟨HE.out, rfl⟩

set_option maxRecDepth 100000 in
set_option maxHeartbeats 1000000 in
theorem ofS_nil (A : Option Addr) (n c : Nat) (w : World) : Calls Tryz.prog 46 #[.pointer none, .slice A n c] w fun e w' => e = zeroS 1 ∧ Below w.heap.size w w' := by
  go_enter Tryz.func46, Tryz.ntmps46
  go_wp2_with fail
  refine bodyPost_ret (v := .tuple #[.agg #[.slice none 0 0, .slice none 0 0, .int .i64 0, .int .i64 0, .int .i64 0], .int .i64 1]) (by simp [results, Tryz.results46, go_sem]) rfl ⟨rfl, ?_⟩
  exact (Below.refl _ _).alloc (Nat.le_refl _) _
set_option maxRecDepth 100000 in
set_option maxHeartbeats 1000000 in
theorem make_nil (o : OfT) (bv : Value) (w : World) : Calls Tryz.prog 43 #[.pointer none, bv, o.val] w fun e w' => e = zeroS 1 ∧ Below w.heap.size w w' := by
  unfold OfT.val
  go_enter Tryz.func43, Tryz.ntmps43
  go_wp2_with fail
  refine bodyPost_ret (v := .tuple #[.agg #[.slice none 0 0, .slice none 0 0, .int .i64 0, .int .i64 0, .int .i64 0], .int .i64 1]) (by simp [results, Tryz.results43, go_sem]) rfl ⟨rfl, ?_⟩
  exact ((Below.refl _ _).alloc (Nat.le_refl _) _).alloc (by simp) _
end Go.Proofs.YtjlokkjbdgcooaaGreat

/-
  Contract of chart.New.
-/
namespace Go.Proofs.YtjlokkjbdgcooaaGreat
open Go.RowKit

/-- Accounts added one behind the other, till one has an error. -/
def newR (l : List Acc) : List Acc → List Acc × Int
  | [] => (l, 0)
  | a :: r => if addE l a = 0 then newR (insA l a) r else (l, addE l a)
def newE (xs0 : List Acc) : Int := (newR [] xs0).2
def newL (xs0 : List Acc) : List Acc := (newR [] xs0).1
theorem newR_append : ∀ (xs l ys : List Acc), newR l (xs ++ ys) = if (newR l xs).2 = 0 then newR (newR l xs).1 ys else newR l xs
  | [], l, ys => by simp [newR]
  | a :: xs, l, ys => by
    rw [List.cons_append, newR, newR]
    by_cases h : addE l a = 0
    · rw [if_pos h, if_pos h, newR_append xs]
    · rw [if_neg h, if_neg h, if_neg h]
theorem newR_good : ∀ (xs l : List Acc), GoodA l → GoodA (newR l xs).1
  | [], l, h => h
  | a :: xs, l, h => by
    rw [newR]
    by_cases h0 : addE l a = 0
    · rw [if_pos h0]
      obtain ⟨h1, h2⟩ := addE_ok h0
      exact newR_good xs _ (h.ins h1 h2)
    · rw [if_neg h0]; exact h
theorem newL_good (xs0 : List Acc) : GoodA (newL xs0) := newR_good xs0 [] GoodA.nil
theorem new_step {xs0 : List Acc} {j : Nat} {a : Acc} (ha : xs0[j]? = some a) (h0' : newE (xs0.take j) = 0) :
    (addE (newL (xs0.take j)) a = 0 → newE (xs0.take (j + 1)) = 0 ∧ newL (xs0.take (j + 1)) = addL (newL (xs0.take j)) a) ∧ (addE (newL (xs0.take j)) a ≠ 0 → newE xs0 = addE (newL (xs0.take j)) a) := by
  obtain ⟨hl, rfl⟩ := List.getElem?_eq_some_iff.1 ha
  have h0 : (newR [] (xs0.take j)).2 = 0 := h0'
  have h1 : newR [] (xs0.take (j + 1)) = newR (newL (xs0.take j)) [xs0[j]] := by
    rw [List.take_succ_eq_append_getElem hl, newR_append, if_pos h0]; rfl
  constructor
  · intro h
    unfold newE
    rw [show newL (xs0.take (j + 1)) = (newR [] (xs0.take (j + 1))).1 from rfl, h1]
    simp [newR, h, addL]
  · intro h
    have h2 : newR [] xs0 = newR (newL (xs0.take j)) (xs0[j] :: xs0.drop (j + 1)) := by
      conv => lhs; rw [← List.take_append_drop j xs0, newR_append, if_pos h0, List.drop_eq_getElem_cons hl]
      rfl
    unfold newE
    rw [h2, newR, if_neg h]

/-- What New answers. -/
def NewPost (w : World) (xs0 : List Acc) (e : Ending) (w' : World) : Prop :=
  Below w.heap.size w w' ∧ ((newE xs0 ≠ 0 ∧ e = .returned (.tuple #[.pointer none, .int .i64 (newE xs0)])) ∨
    (newE xs0 = 0 ∧ e = .returned (.tuple #[.pointer (some ⟨w.heap.size, 0, none⟩), .int .i64 0]) ∧ ∃ v, ChartAt w' w.heap.size w.heap.size v (newL xs0)))

/-- What stands at the loop's head. -/
def NewRel (w : World) (xs0 : List Acc) (j : Nat) (wr : World) : Prop :=
  newE (xs0.take j) = 0 ∧ Below w.heap.size w wr ∧ ∃ v, ChartAt wr w.heap.size w.heap.size v (newL (xs0.take j))

set_option maxRecDepth 100000 in
set_option maxHeartbeats 1000000 in
theorem new_any (xs0 : List Acc) (A : Option Addr) (n c B : Nat) (w : World) (h : Rd w B 3 A n (accs xs0)) (hB : B ≤ w.heap.size) (hn : n ≤ 1000000) :
    Calls Tryz.prog 167 #[.slice A n c] w (NewPost w xs0) := by
  have HL := Lib.hid h.accs_len
  have HR := Lib.hid h
  have HC0 : Hid (ChartAt (w.alloc (.cells #[.slice none 0 0] 275)) w.heap.size w.heap.size (.slice none 0 0) []) := ⟨heap_new _ _, Nat.le_refl _, World.ownsRow_nil _ _ _ _, GoodA.nil⟩
  clear h
  go_enter Tryz.func167, Tryz.ntmps167
  go_wp2_with fail
  go_loopw [11] (fun iv wr => ∃ j : Nat, j ≤ n ∧ iv = .int .i64 j ∧ NewRel w xs0 j wr) (fun iv _ => n - (intOf iv).toNat)
  case atStart => exact ⟨0, Nat.zero_le _, rfl, rfl, (Below.refl _ _).alloc (Nat.le_refl _) _, _, HC0.out⟩
  case round =>
    obtain ⟨j, hj, rfl, h0, hbel, v, hch⟩ := hrel
    have hzr := hbel.size
    have hclt := hch.lt
    have HCH := Lib.hid hch
    have H0 := Lib.hid h0
    have HBEL := Lib.hid hbel
    have HRr := Lib.hid (HR.out.below (hbel.mono hB))
    clear hch h0 hbel HC0
    by_cases hlt : j < n
    · obtain ⟨ad, a, rfl, hb1, hx, p1, p2, p3⟩ := HRr.out.acc hlt
      have p2' := cell_behind p2 (by omega)
      have p3' := cell_behind p3 (by omega)
      have HST := Lib.hid (new_step hx H0.out)
      have hjn : (j : Int) < (n : Int) := by omega
      obtain ⟨x1, x2, x3⟩ := a
      have kp := fun (w2 : World) (hb : Below wr.heap.size wr w2) => put_any w.heap.size w.heap.size v _ ⟨x1, x2, x3⟩ w2 (HCH.out.below hb)
      have KP := Lib.hid kp
      clear kp p2 p3 hx
      generalize hE : addE (newL (xs0.take j)) ⟨x1, x2, x3⟩ = E at *
      clear hE
      go_wp2_with fail
      refine (KP.out _ (by first | exact ((Below.refl _ _).alloc (Nat.le_refl _) _) | exact ((((Below.refl _ _).alloc (Nat.le_refl _) _).setCell (by simp) _).setCell (by simp) _).setCell (by simp) _)).mono ?_
      rintro e w2 ⟨rfl, v2, hch2, hbut, _⟩
      have HB2 : Hid (Below w.heap.size w w2) := (HBEL.out.trans (Below.mono (B := wr.heap.size) (by first | exact ((Below.refl _ _).alloc (Nat.le_refl _) _) | exact ((((Below.refl _ _).alloc (Nat.le_refl _) _).setCell (by simp) _).setCell (by simp) _).setCell (by simp) _) hzr)).trans (hbut.below (fun k _ hk => HCH.out.ge k hk) (by simp; omega))
      have HCH2 := Lib.hid hch2
      clear hch2 hbut
      by_cases h0 : E = 0
      · subst h0
        have HST2 := Lib.hid (HST.out.1 (by first | rfl | trivial))
        go_wp2
        exact ⟨⟨j + 1, by omega, by go_num, HST2.out.1, HB2.out, v2, by rw [HST2.out.2]; exact HCH2.out⟩, by simp [intOf]; omega⟩
      · have HST2 := Lib.hid (HST.out.2 h0)
        have h0' : (E == 0) = false := by simp [h0]
        have h0'' : (E != 0) = true := by simp [h0]
        go_wp2
        go_ret2
        exact ⟨HB2.out, .inl ⟨by rw [HST2.out]; exact h0, by rw [HST2.out]; rfl⟩⟩
    · obtain rfl : j = n := by omega
      have HE : Hid (newE xs0 = 0 ∧ newL xs0 = newL (xs0.take j)) := by
        have h1 : xs0.take j = xs0 := List.take_of_length_le (by have := HL.out; omega)
        have := H0.out
        rw [h1] at this ⊢
        exact ⟨this, rfl⟩
      go_wp2
      go_ret2
      exact ⟨HBEL.out, .inr ⟨HE.out.1, rfl, v, by rw [HE.out.2]; exact HCH.out⟩⟩
end Go.Proofs.YtjlokkjbdgcooaaGreat

/-
  Contract of the reference's Row.
-/
namespace Go.Proofs.YtjlokkjbdgcooaaGreat
open Go.RowKit

set_option maxRecDepth 100000 in
theorem refRow_any (x k : Int) (w : World) : Calls Tryz.prog 164 #[.int .i64 x, .int .i64 k] w fun e w' => e = .returned (.bool (okRow x k)) ∧ w = w' := by
  by_cases h1 : 1 ≤ x
  · by_cases h2 : x ≤ 9999
    · by_cases h3 : 1 ≤ k
      · by_cases h4 : k ≤ 5
        · have HO : Hid (okRow x k = true) := by simp [okRow, Hid, h1, h2, h3, h4]
          go_enter Tryz.func164, Tryz.ntmps164
          go_wp2
          go_ret
          exact ⟨ret_bool (by rw [HO.out]; try simp [h4]), rfl⟩
        · have HO : Hid (okRow x k = false) := by simp [okRow, Hid]; omega
          go_enter Tryz.func164, Tryz.ntmps164
          go_wp2
          go_ret
          exact ⟨ret_bool (by rw [HO.out]; try simp [h4]), rfl⟩
      · have HO : Hid (okRow x k = false) := by simp [okRow, Hid]; omega
        go_enter Tryz.func164, Tryz.ntmps164
        go_wp2
        go_ret
        exact ⟨ret_bool HO.out.symm, rfl⟩
    · have HO : Hid (okRow x k = false) := by simp [okRow, Hid]; omega
      go_enter Tryz.func164, Tryz.ntmps164
      go_wp2
      go_ret
      exact ⟨ret_bool HO.out.symm, rfl⟩
  · have HO : Hid (okRow x k = false) := by simp [okRow, Hid]; omega
    go_enter Tryz.func164, Tryz.ntmps164
    go_wp2
    go_ret
    exact ⟨ret_bool HO.out.symm, rfl⟩
end Go.Proofs.YtjlokkjbdgcooaaGreat

/-
  Contracts of the reference's Account, Live, AddAccount.
-/
namespace Go.Proofs.YtjlokkjbdgcooaaGreat
open Go.RowKit

theorem find_stepCh {l : List Acc} {j : Nat} {a : Acc} {x : Int} (ha : l[j]? = some a) (h0 : findA (l.take j) x = none) :
    (a.code = x → findA l x = some a) ∧ (a.code ≠ x → findA (l.take (j + 1)) x = none) := by
  obtain ⟨hl, rfl⟩ := List.getElem?_eq_some_iff.1 ha
  constructor
  · intro h
    unfold findA at *
    conv => lhs; rw [← List.take_append_drop j l, List.find?_append, h0, List.drop_eq_getElem_cons hl, List.find?_cons]
    simp [h]
  · intro h
    unfold findA at *
    rw [List.take_succ_eq_append_getElem hl, List.find?_append, h0]
    simp [h]

set_option maxRecDepth 100000 in
set_option maxHeartbeats 1000000 in
theorem refAccount_any (l : List Acc) (x : Int) (A : Option Addr) (n c B : Nat) (w : World) (h : Rd w B 3 A n (accs l)) (hB : B ≤ w.heap.size) (hn : n ≤ 1000000) :
    Calls Tryz.prog 177 #[.slice A n c, .int .i64 x] w fun e w' => e = .returned (getV l x) ∧ Below w.heap.size w w' := by
  have HL := Lib.hid h.accs_len
  have HR := Lib.hid (h.below (Below.mono (B := w.heap.size) ((Below.refl _ w).alloc (Nat.le_refl _) (.cells #[.int .i64 0, .int .i64 0, .bool false] 165)) hB))
  clear h
  go_enter Tryz.func177, Tryz.ntmps177
  go_wp2_with fail
  go_loopw [6] (fun iv wr => ∃ j : Nat, j ≤ n ∧ iv = .int .i64 j ∧ Hid (findA (l.take j) x = none) ∧ wr = w.alloc (.cells #[.int .i64 0, .int .i64 0, .bool false] 165)) (fun iv _ => n - (intOf iv).toNat)
  case atStart => exact ⟨0, Nat.zero_le _, rfl, rfl, rfl⟩
  case round =>
    obtain ⟨j, hj, rfl, h0, rfl⟩ := hrel
    by_cases hlt : j < n
    · obtain ⟨ad, a, rfl, hb1, hx, p1, p2, p3⟩ := HR.out.acc hlt
      have p2' := cell_behind p2 (by omega)
      have p3' := cell_behind p3 (by omega)
      have HST := Lib.hid (find_stepCh hx h0.out)
      have hjn : (j : Int) < (n : Int) := by omega
      clear hx p2 p3
      obtain ⟨x1, x2, x3⟩ := a
      by_cases he : x1 = x
      · subst he
        have HF := Lib.hid (HST.out.1 rfl)
        go_wp2
        refine bodyPost_ret (v := .tuple #[.agg #[.int .i64 x1, .int .i64 x2, .bool x3], .bool true]) (by simp [results, Tryz.results177, go_sem]) rfl ⟨?_, ?_⟩
        · unfold getV; rw [HF.out]; rfl
        · first | exact (Below.refl _ _).alloc (Nat.le_refl _) _ | exact ((((Below.refl _ _).alloc (Nat.le_refl _) _).setCell (by simp) _).setCell (by simp) _).setCell (by simp) _
      · have HF := Lib.hid (HST.out.2 he)
        have he' : (x1 == x) = false := by simp [he]
        go_wp2
        exact ⟨⟨j + 1, by omega, by go_num, HF.out, by first | rfl | trivial⟩, by simp [intOf]; omega⟩
    · obtain rfl : j = n := by omega
      have HF : Hid (findA l x = none) := by
        have := h0.out
        rwa [List.take_of_length_le (by have := HL.out; omega)] at this
      go_wp2
      refine bodyPost_ret (v := .tuple #[.agg #[.int .i64 0, .int .i64 0, .bool false], .bool false]) (by simp [results, Tryz.results177, go_sem]) rfl ⟨?_, ?_⟩
      · unfold getV; rw [HF.out]; rfl
      · first | exact (Below.refl _ _).alloc (Nat.le_refl _) _ | exact ((((Below.refl _ _).alloc (Nat.le_refl _) _).setCell (by simp) _).setCell (by simp) _).setCell (by simp) _

end Go.Proofs.YtjlokkjbdgcooaaGreat
