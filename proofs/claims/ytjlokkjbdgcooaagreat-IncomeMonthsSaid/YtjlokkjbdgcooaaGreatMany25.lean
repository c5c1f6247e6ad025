/-
  Several texts, one behind the other: what each holds stands ahead of it.
-/
import Derived.Test.YtjlokkjbdgcooaaGreatMany24
import Derived.Test.YtjlokkjbdgcooaaGreatMany23
import Derived.Lib.SliceRun

/-
  Contracts of (*Chart).Get, Retire, Live.
-/
namespace Go.Proofs.YtjlokkjbdgcooaaGreat
open Go.RowKit

def acc0 : Acc := ⟨0, 0, false⟩
/-- What Get answers. -/
def getV (l : List Acc) (x : Int) : Value := .tuple #[((findA l x).getD acc0).val, .bool (findA l x).isSome]

/-- A chart's account at a place, as a walk reads it. -/
theorem ChartAt.at {w : World} {B c p : Nat} {v : Value} {l : List Acc} {a : Acc} (h : ChartAt w B c v l) (hp : l[p]? = some a) : ∃ g cap, v = .slice (some ⟨g, 0, none⟩) l.length cap ∧ p < l.length ∧ g < w.heap.size ∧ B ≤ g ∧
    w.cell? ⟨g, p * 3, none⟩ = some (.int .i64 a.code) ∧ w.cell? ⟨g, p * 3 + 1, none⟩ = some (.int .i64 a.kind) ∧ w.cell? ⟨g, p * 3 + 2, none⟩ = some (.bool a.ret) ∧ ∀ j, w.frozen? ⟨g, j, none⟩ = false := by
  have hl := (List.getElem?_eq_some_iff.1 hp).1
  rcases h.own.2 with ⟨_, h1⟩ | ⟨g, cap, cur, rfl, hB, hh, _⟩
  · omega
  · obtain ⟨h1, h2, h3⟩ := accs_at l p a hp
    exact ⟨g, cap, rfl, hl, lt_of_blk hh, hB, own_cell h.own h1, own_cell h.own h2, own_cell h.own h3, fun j => warm_of hh j⟩

theorem accs_setRet : ∀ (l : List Acc) (p : Nat) (a : Acc), l[p]? = some a → (accs l).set (p * 3 + 2) (.bool true) = accs (l.set p { a with ret := true })
  | [], p, a, h => by simp at h
  | b :: l, 0, a, h => by
    simp at h; subst h
    simp [accs, Acc.cells]
  | b :: l, p + 1, a, h => by
    have := accs_setRet l p a (by simpa using h)
    unfold accs at this ⊢
    rw [List.set_cons_succ, List.flatMap_cons, List.flatMap_cons, ← this, show (p + 1) * 3 + 2 = (Acc.cells b).length + (p * 3 + 2) by simp [Acc.cells]; omega, List.set_append_right _ _ (by omega)]
    simp

theorem live_get (l : List Acc) (x : Int) : liveE1 l x = if (findA l x).isSome = true then (if ((findA l x).getD acc0).ret = true then 5 else 0) else 4 := by
  unfold liveE1
  cases findA l x <;> rfl
theorem live_step {l : List Acc} {xs : List Int} {j : Nat} {x : Int} (hx : xs[j]? = some x) (h0 : liveECh l (xs.take j) = 0) :
    (liveE1 l x = 0 → liveECh l (xs.take (j + 1)) = 0) ∧ (liveE1 l x ≠ 0 → liveECh l xs = liveE1 l x) := by
  induction xs generalizing j with
  | nil => simp at hx
  | cons y r ih =>
    cases j with
    | zero =>
      simp at hx; subst hx
      constructor
      · intro h; simp [liveECh, h]
      · intro h; simp [liveECh, h]
    | succ j =>
      rw [List.take_succ_cons, liveECh] at h0
      by_cases hy : liveE1 l y = 0
      · rw [if_pos hy] at h0
        obtain ⟨i1, i2⟩ := ih (j := j) (by simpa using hx) h0
        constructor
        · intro h; rw [List.take_succ_cons, liveECh, if_pos hy]; exact i1 h
        · intro h; rw [liveECh, if_pos hy]; exact i2 h
      · rw [if_neg hy] at h0; exact absurd h0 hy

end Go.Proofs.YtjlokkjbdgcooaaGreat

/-
  Contract of slices.Clone over accounts.
-/
namespace Go.Proofs.YtjlokkjbdgcooaaGreat
open Go.RowKit

theorem own_emptyCh (w : World) (T : TypeId) (size : Nat) : (w.alloc (.cells #[] T)).ownsRow w.heap.size T size (.slice (some ⟨w.heap.size, 0, none⟩) 0 0) 0 [] :=
  ⟨by simp, .inr ⟨w.heap.size, 0, #[], rfl, Nat.le_refl _, heap_new _ _, Nat.le_refl _, Nat.zero_le _, by simp, by simp⟩⟩

end Go.Proofs.YtjlokkjbdgcooaaGreat

/-
  Contract of chart.questionsOf.
-/
namespace Go.Proofs.YtjlokkjbdgcooaaGreat
open Go.RowKit

/-- The first j kinds that are among ks. -/
def askedTo (ks : List Int) (j : Nat) : List Nat := ((List.range j).map (· + 1)).filter fun q => ks.contains (q : Int)
theorem askedTo_yes (ks : List Int) (j : Nat) (h : ks.contains ((j + 1 : Nat) : Int) = true) : askedTo ks (j + 1) = askedTo ks j ++ [j + 1] := by
  unfold askedTo
  rw [List.range_succ, List.map_append, List.filter_append]
  simp only [List.map_cons, List.map_nil, List.filter_cons, List.filter_nil]
  rw [if_pos h]
theorem askedTo_no (ks : List Int) (j : Nat) (h : ks.contains ((j + 1 : Nat) : Int) = false) : askedTo ks (j + 1) = askedTo ks j := by
  unfold askedTo
  rw [List.range_succ, List.map_append, List.filter_append]
  simp only [List.map_cons, List.map_nil, List.filter_cons, List.filter_nil]
  rw [if_neg (by rw [h]; simp), List.append_nil]
theorem askedTo_len (ks : List Int) (j : Nat) : (askedTo ks j).length ≤ j := by
  unfold askedTo
  refine Nat.le_trans (List.length_filter_le _ _) ?_
  simp
theorem askedTo_in (ks : List Int) (j : Nat) (h : j ≤ 5) : ∀ q ∈ askedTo ks j, 1 ≤ q ∧ q ≤ 5 := by
  intro q hq
  unfold askedTo at hq
  rw [List.mem_filter] at hq
  obtain ⟨a, ha, rfl⟩ := List.mem_map.1 hq.1
  have := List.mem_range.1 ha
  omega
theorem asked_any (ks : List Int) (k : Int) (h1 : 1 ≤ k) (h5 : k ≤ 5) : ((askedTo ks 5).any fun q => k == (q : Int)) = ks.contains k := by
  rw [Bool.eq_iff_iff, List.any_eq_true]
  constructor
  · rintro ⟨q, hq, he⟩
    unfold askedTo at hq
    rw [List.mem_filter] at hq
    have : k = (q : Int) := by simpa using he
    rw [this]; exact hq.2
  · intro h
    refine ⟨k.toNat, ?_, by simp; omega⟩
    unfold askedTo
    rw [List.mem_filter]
    refine ⟨List.mem_map.2 ⟨k.toNat - 1, List.mem_range.2 (by omega), by omega⟩, ?_⟩
    rw [show ((k.toNat : Nat) : Int) = k by omega]
    exact h
theorem contains_at {ks : List Int} {i : Nat} {x : Int} (h : ks[i]? = some x) : ks.contains x = true := by
  rw [List.contains_iff_mem]
  exact List.mem_of_getElem? h
theorem contains_not {ks : List Int} {x : Int} (h : ∀ (i : Nat) (y : Int), ks[i]? = some y → (y == x) = false) : ks.contains x = false := by
  rw [Bool.eq_false_iff]
  intro hc
  rw [List.contains_iff_mem] at hc
  obtain ⟨i, hi⟩ := List.mem_iff_getElem?.1 hc
  have := h i x hi
  simp at this

theorem infoQ : (Tryz.prog.info? 333).map (fun i => (i.zero, i.size, i.bytes)) = some (some .nilFunc, 1, 8) := by kernel_rfl

/-- What stands at the head of the outer loop. -/
def AskRel (w : World) (ks : List Int) (j : Nat) (lv : Value) (wr : World) : Prop :=
  ∃ A c, lv = .slice A (askedTo ks j).length c ∧ wr.ownsRow (w.heap.size + 1) 333 1 (.slice A (askedTo ks j).length c) (askedTo ks j).length ((askedTo ks j).map qv) ∧ Below (w.heap.size + 1) (w.alloc (.cells ([1, 2, 3, 4, 5].map qv).toArray 333)) wr

set_option maxRecDepth 100000 in
set_option maxHeartbeats 4000000 in
theorem questionsOf_any (ks : List Int) (A : Option Addr) (n c B : Nat) (w : World) (h : Rd w B 1 A n (ints .i64 ks)) (hB : B ≤ w.heap.size) (hn : n ≤ 1000000) :
    Calls Tryz.prog 236 #[.slice A n c] w fun e w' => ∃ A' c', e = .returned (.slice A' (askedTo ks 5).length c') ∧ w'.ownsRow w.heap.size 333 1 (.slice A' (askedTo ks 5).length c') (askedTo ks 5).length ((askedTo ks 5).map qv) ∧ Below w.heap.size w w' := by
  obtain ⟨i0, hi0, hz0, hz1, hz2⟩ := info_parts infoQ
  have hI := Lib.hid hi0; have hZ0 := Lib.hid hz0; have hZ1 := Lib.hid hz1; have hZ2 := Lib.hid hz2
  clear hi0 hz0 hz1 hz2
  have HL := Lib.hid h.ints_len
  have HQ : Hid (Rd (w.alloc (.cells ([1, 2, 3, 4, 5].map qv).toArray 333)) (w.heap.size + 1) 1 (some ⟨w.heap.size, 0, none⟩) 5 ([1, 2, 3, 4, 5].map qv)) := rd_block w ([1, 2, 3, 4, 5].map qv) 333
  have HR : Hid (Rd (w.alloc (.cells ([1, 2, 3, 4, 5].map qv).toArray 333)) (w.heap.size + 1) 1 A n (ints .i64 ks)) := (h.below ((Below.refl _ _).alloc hB _)).wide (by omega)
  clear h
  go_enter Tryz.func236, Tryz.ntmps236
  go_wp2_with fail
  refine (questions_any w).mono ?_
  rintro e w' ⟨rfl, hw'⟩
  have HW := Lib.hid hw'
  clear hw'
  go_wp2_with fail
  go_loopw [3, 10] (fun lv iv wr => ∃ j : Nat, j ≤ 5 ∧ iv = .int .i64 j ∧ AskRel w ks j lv wr) (fun _ iv _ => 5 - (intOf iv).toNat)
  case atStart => exact ⟨0, Nat.zero_le _, rfl, none, 0, rfl, World.ownsRow_nil _ _ _ _, by rw [HW.out]; exact Below.refl _ _⟩
  case round =>
    obtain ⟨j, hj, rfl, A1, c1, rfl, hown, hbel⟩ := hrel
    have hsz := hbel.size
    simp at hsz
    have hlen := askedTo_len ks j
    have HO := Lib.hid hown
    have HB := Lib.hid hbel
    have HQr := Lib.hid (HQ.out.below hbel)
    have HRr := Lib.hid (HR.out.below hbel)
    have HYES := Lib.hid (askedTo_yes ks j)
    have HNO := Lib.hid (askedTo_no ks j)
    clear hown hbel
    generalize hM : (askedTo ks j).length = M at *
    have HM := Lib.hid hM
    clear hM
    by_cases hlt : j < 5
    · obtain ⟨ad, u, had, _, hu, hc⟩ := HQr.out.one hlt
      injection had with had
      subst had
      rw [Addr.add_lit, Nat.zero_add] at hc
      have hq1 : 1 ≤ j + 1 ∧ j + 1 ≤ 5 := by omega
      have hu2 : u = qv (j + 1) := by
        rcases (show j = 0 ∨ j = 1 ∨ j = 2 ∨ j = 3 ∨ j = 4 by omega) with rfl | rfl | rfl | rfl | rfl <;> (simp at hu; exact hu.symm)
      subst hu2
      have hen := qf_enter (j + 1) hq1.1 hq1.2
      have kk := fun (k : Int) w => ask_any (j + 1) k w hq1.1 hq1.2
      have HV : Hid (qv (j + 1) = .func (.func (qf (j + 1))) #[] #[]) := rfl
      unfold qv at hc
      clear hu hq1
      generalize qf (j + 1) = f at *
      have hj5 : (j : Int) < 5 := by omega
      go_wp2_with fail
      go_loop [3, 16] (fun lv iv => ∃ i : Nat, lv = .slice A1 M c1 ∧ i ≤ n ∧ iv = .int .i64 (i : Int) ∧ Hid (∀ (q : Nat) (y : Int), q < i → ks[q]? = some y → (y == ((j + 1 : Nat) : Int)) = false)) (fun _ iv => n - (intOf iv).toNat)
      case atStart => exact ⟨0, rfl, Nat.zero_le _, rfl, fun q y hq => by omega⟩
      case round =>
        obtain ⟨i, rfl, hi, rfl, hnone⟩ := hrel
        by_cases hin : i < n
        · obtain ⟨ad, rfl, _, hci⟩ := HRr.out.int hin
          have hil : i < ks.length := by have := HL.out; omega
          have hgi : ks[i]?.getD 0 = ks[i] := by simp [hil]
          rw [hgi] at hci
          have HN2 : Hid ((ks[i] == ((j + 1 : Nat) : Int)) = false → ∀ (q : Nat) (y : Int), q < i + 1 → ks[q]? = some y → (y == ((j + 1 : Nat) : Int)) = false) := by
            intro h0 q y hq hy
            by_cases e : q = i
            · subst e
              rw [List.getElem?_eq_getElem hil] at hy
              injection hy with hy
              rw [← hy]; exact h0
            · exact hnone.out q y (by omega) hy
          have HC : Hid ((ks[i] == ((j + 1 : Nat) : Int)) = true → ks.contains ((j + 1 : Nat) : Int) = true) := by
            intro h0
            have : ks[i] = ((j + 1 : Nat) : Int) := by simpa using h0
            rw [← this]
            exact contains_at (List.getElem?_eq_getElem hil)
          clear hgi hnone
          generalize ks[i] = x at *
          have hinI : (i : Int) < (n : Int) := by omega
          go_wp2_with fail
          refine (kk x wr).mono ?_
          rintro e w2 ⟨rfl, rfl⟩
          generalize hT : (x == ((j + 1 : Nat) : Int)) = t at *
          clear hT
          cases t
          · go_wp2
            exact ⟨⟨i + 1, rfl, by omega, by go_num, HN2.out (by first | rfl | trivial)⟩, by simp [intOf]; omega⟩
          · have hown := HO.out
            go_wp2_with (at_builtin; refine wpList_append_lies _ rfl _ _ 313 rfl (w.heap.size + 1) 333 i0 .nilFunc 1 8 Tryz.underlying313 hI.out hZ0.out hZ1.out hZ2.out rfl (by decide) _ M _ rfl (own_kept hown fun q hq _ => Below.heap_alloc _ _ _ hq) ⟨wr.heap.size, 0, none⟩ 1 1 [.func (.func f) #[] #[]] rfl rfl (cells_new _ _ _) (by simp [Value.oneCell']) (by omega) (by unfold maxLen; omega) (by omega) (by simp; omega) _ rfl ?_)
            intro g cap w2 hown2 hg2 hat2 hlt2
            have hB2 : Hid (Below (w.heap.size + 1) (w.alloc (.cells ([1, 2, 3, 4, 5].map qv).toArray 333)) w2) := (HB.out.alloc (by omega) _).grown hg2 (by simp; omega) (own_ge hown)
            have HO2 := Lib.hid hown2
            clear hown2 hg2 hown
            go_wp2
            refine ⟨⟨j + 1, by omega, by go_num, some ⟨g, 0, none⟩, cap, ?_, ?_, hB2.out⟩, by simp [intOf]; omega⟩
            · rw [HYES.out (HC.out (by first | rfl | trivial)), List.length_append, HM.out]; rfl
            · rw [HYES.out (HC.out (by first | rfl | trivial)), List.length_append, HM.out, List.map_append]
              have := HO2.out
              rw [← HV.out] at this
              exact this
        · obtain rfl : i = n := by omega
          go_wp2
          have hno : ks.contains ((j + 1 : Nat) : Int) = false := contains_not fun q y hy => hnone.out q y (by have := (List.getElem?_eq_some_iff.1 hy).1; have := HL.out; omega) hy
          refine ⟨⟨j + 1, by omega, by go_num, A1, c1, ?_, ?_, HB.out⟩, by simp [intOf]; omega⟩
          · rw [HNO.out hno, HM.out]
          · rw [HNO.out hno, HM.out]; exact HO.out
    · obtain rfl : j = 5 := by omega
      go_wp2
      go_ret
      refine ⟨A1, c1, ?_, ?_, ?_⟩
      · rw [HM.out]; rfl
      · rw [HM.out]; exact own_base HO.out (by omega)
      · exact ((Below.refl _ _).alloc (Nat.le_refl _) _).trans (HB.out.mono (by omega))
end Go.Proofs.YtjlokkjbdgcooaaGreat
