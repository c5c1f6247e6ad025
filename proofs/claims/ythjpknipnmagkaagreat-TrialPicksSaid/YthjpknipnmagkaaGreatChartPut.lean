/-
  Contracts of (*Chart).put, (*Chart).Add.
-/
import Derived.Test.YthjpknipnmagkaaGreatMany5
namespace Go.Proofs.YthjpknipnmagkaaGreat
open Go.RowKit

theorem own_sliceCh {w : World} {base : Nat} {e : TypeId} {size n : Nat} {v : Value} {xs : List Value} (h : w.ownsRow base e size v n xs) : ∃ A m c, v = .slice A m c := by
  obtain ⟨A, c, h⟩ := own_form h
  exact ⟨A, n, c, h⟩
/-- A chart that was v, and has become l. -/
def ChartTo (w : World) (B c : Nat) (v : Value) (l : List Acc) (w' : World) : Prop :=
  ∃ v', ChartAt w' B c v' l ∧ But (InChart c v) w w' ∧ ∀ k, v'.ownBlock = some k → v.ownBlock = some k ∨ w.heap.size ≤ k
theorem ChartTo.same {w w' : World} {B c : Nat} {v : Value} {l : List Acc} (h : ChartAt w B c v l) (hb : Below w.heap.size w w') : ChartTo w B c v l w' :=
  ⟨v, h.below hb, But.of_below hb, fun _ hk => .inl hk⟩
theorem okRow_no1 {x k : Int} (h : x < 1) : okRow x k = false := by simp [okRow]; omega
theorem okRow_no2 {x k : Int} (h : 9999 < x) : okRow x k = false := by simp [okRow]; omega
theorem okRow_k {x k : Int} (h1 : ¬ x < 1) (h2 : ¬ 9999 < x) : okRow x k = kOk k := by
  unfold okRow kOk
  rw [Bool.eq_iff_iff]
  simp
  omega
theorem addE_bad {l : List Acc} {a : Acc} (h : okRow a.code a.kind = false) : addE l a = 1 ∧ addL l a = l := by
  have : addE l a = 1 := by simp [addE, h]
  exact ⟨this, by simp [addL, this]⟩
theorem addE_dup {l : List Acc} {a : Acc} (h : okRow a.code a.kind = true) (hf : (findA l a.code).isSome = true) : addE l a = 7 ∧ addL l a = l := by
  have : addE l a = 7 := by simp [addE, h, hf]
  exact ⟨this, by simp [addL, this]⟩
theorem addE_new {l : List Acc} {a : Acc} (h : okRow a.code a.kind = true) (hf : (findA l a.code).isSome = false) : addE l a = 0 ∧ addL l a = insA l a := by
  have : addE l a = 0 := by simp [addE, h, hf]
  exact ⟨this, by simp [addL, this]⟩

set_option maxRecDepth 100000 in
set_option maxHeartbeats 1000000 in
theorem put_bad (B c : Nat) (v : Value) (l : List Acc) (x k : Int) (r : Bool) (w : World) (h : ChartAt w B c v l) (ho : okRow x k = false) :
    Calls Tryz.prog 200 #[.pointer (some ⟨c, 0, none⟩), .agg #[.int .i64 x, .int .i64 k, .bool r]] w fun e w' => e = .returned (.int .i64 1) ∧ ChartTo w B c v l w' := by
  have HC := Lib.hid h
  have hclt := h.lt
  clear h
  by_cases h1 : x < 1
  · clear ho
    go_enter Tryz.func200, Tryz.ntmps200
    go_wp2
    go_ret
    exact ⟨rfl, ChartTo.same HC.out ((Below.refl _ _).alloc (Nat.le_refl _) _)⟩
  by_cases h2 : 9999 < x
  · clear ho
    go_enter Tryz.func200, Tryz.ntmps200
    go_wp2
    go_ret
    exact ⟨rfl, ChartTo.same HC.out ((Below.refl _ _).alloc (Nat.le_refl _) _)⟩
  rw [okRow_k h1 h2] at ho
  have kk := fun w => known_any k w
  rw [ho] at kk
  clear ho
  go_enter Tryz.func200, Tryz.ntmps200
  go_wp2_with fail
  refine (kk _).mono ?_
  rintro e w' ⟨rfl, hb⟩
  have HB : Hid (Below w.heap.size w w') := ((Below.refl _ _).alloc (Nat.le_refl _) _).trans (hb.mono (by simp))
  clear hb
  go_wp2
  go_ret
  exact ⟨rfl, ChartTo.same HC.out HB.out⟩

set_option maxRecDepth 100000 in
set_option maxHeartbeats 1000000 in
theorem put_dup (B c : Nat) (v : Value) (l : List Acc) (x k : Int) (r : Bool) (w : World) (h : ChartAt w B c v l) (ho : okRow x k = true) (hf : (findA l x).isSome = true) :
    Calls Tryz.prog 200 #[.pointer (some ⟨c, 0, none⟩), .agg #[.int .i64 x, .int .i64 k, .bool r]] w fun e w' => e = .returned (.int .i64 7) ∧ ChartTo w B c v l w' := by
  have HC := Lib.hid h
  have hclt := h.lt
  obtain ⟨q1, q2, _, _⟩ := okRow_t ho
  rw [okRow_k (by omega) (by omega)] at ho
  have kk := fun w => known_any k w
  rw [ho] at kk
  have HF := Lib.hid hf
  clear ho h hf
  go_enter Tryz.func200, Tryz.ntmps200
  go_wp2_with fail
  refine (kk _).mono ?_
  rintro e w1 ⟨rfl, hb⟩
  have hx : w1.cell? ⟨w.heap.size, 0, none⟩ = some (.int .i64 x) := by
    rw [hb.cell (by simp)]; simp [go_sem]
  have HB : Hid (Below w.heap.size w w1) := ((Below.refl _ _).alloc (Nat.le_refl _) _).trans (hb.mono (by simp))
  clear hb
  go_wp2_with fail
  refine (place_anyCh B c v l x w1 (HC.out.below HB.out)).mono ?_
  rintro e w2 ⟨rfl, hb⟩
  rw [HF.out]
  have HB2 : Hid (Below w.heap.size w w2) := HB.out.trans (hb.mono HB.out.size)
  clear hb hx
  go_wp2
  go_ret
  exact ⟨rfl, ChartTo.same HC.out HB2.out⟩

set_option maxRecDepth 100000 in
set_option maxHeartbeats 1000000 in
theorem put_new (B c : Nat) (v : Value) (l : List Acc) (x k : Int) (r : Bool) (w : World) (h : ChartAt w B c v l) (ho : okRow x k = true) (hf : (findA l x).isSome = false) :
    Calls Tryz.prog 200 #[.pointer (some ⟨c, 0, none⟩), .agg #[.int .i64 x, .int .i64 k, .bool r]] w fun e w' => e = .returned (.int .i64 0) ∧ ChartTo w B c v (insA l ⟨x, k, r⟩) w' := by
  have HC := Lib.hid h
  have hclt := h.lt
  have HG : Hid (GoodA (insA l ⟨x, k, r⟩)) := h.good.ins (a := ⟨x, k, r⟩) ho (by simpa using hf)
  obtain ⟨q1, q2, _, _⟩ := okRow_t ho
  rw [okRow_k (by omega) (by omega)] at ho
  have kk := fun w => known_any k w
  rw [ho] at kk
  have HF := Lib.hid hf
  have hlen := h.good.len
  obtain ⟨A, cap, rfl⟩ := h.form
  clear ho h hf
  go_enter Tryz.func200, Tryz.ntmps200
  go_wp2_with fail
  refine (kk _).mono ?_
  rintro e w1 ⟨rfl, hb⟩
  have hx0 : w1.cell? ⟨w.heap.size, 0, none⟩ = some (.int .i64 x) := by rw [hb.cell (by simp)]; simp [go_sem]
  have hx1 : w1.cell? ⟨w.heap.size, 1, none⟩ = some (.int .i64 k) := by rw [hb.cell (by simp)]; simp [go_sem]
  have hx2 : w1.cell? ⟨w.heap.size, 2, none⟩ = some (.bool r) := by rw [hb.cell (by simp)]; simp [go_sem]
  have HB : Hid (Below w.heap.size w w1) := ((Below.refl _ _).alloc (Nat.le_refl _) _).trans (hb.mono (by simp))
  have hz1 : w.heap.size + 1 ≤ w1.heap.size := by have := hb.size; simpa using this
  clear hb
  go_wp2_with fail
  refine (place_anyCh B c _ l x w1 (HC.out.below HB.out)).mono ?_
  rintro e w2 ⟨rfl, hb⟩
  rw [HF.out]
  have HP := Lib.hid (posn_le l x)
  have HI : Hid (insA l ⟨x, k, r⟩ = l.take (posn l x) ++ ⟨x, k, r⟩ :: l.drop (posn l x)) := rfl
  generalize posn l x = p at *
  have hc0 := (hb.cell (p := ⟨w.heap.size, 0, none⟩) (by show w.heap.size < _; omega)).trans hx0
  have hc1 := (hb.cell (p := ⟨w.heap.size, 1, none⟩) (by show w.heap.size < _; omega)).trans hx1
  have hc2 := (hb.cell (p := ⟨w.heap.size, 2, none⟩) (by show w.heap.size < _; omega)).trans hx2
  have HB2 : Hid (Below w.heap.size w w2) := HB.out.trans (hb.mono HB.out.size)
  have hz2 : w.heap.size + 1 ≤ w2.heap.size := by have := hb.size; omega
  have hC2 := HC.out.below HB2.out
  have hcc := hC2.cell
  have hcw := hC2.warm
  have hclt2 := hC2.lt
  have HC2 := Lib.hid hC2
  clear hb hx0 hx1 hx2 hC2
  have HIN : Hid (Calls Tryz.prog 224 #[.slice A l.length cap, .int .i64 p, .slice (some ⟨w2.heap.size, 0, none⟩) 1 1] (w2.alloc (.cells #[.int .i64 x, .int .i64 k, .bool r] 158)).drew fun e w' => ∃ v', e = .returned v' ∧ InsertedCh (w2.alloc (.cells #[.int .i64 x, .int .i64 k, .bool r] 158)).drew B (.slice A l.length cap) (l.take p ++ ⟨x, k, r⟩ :: l.drop p) v' w') :=
    insert_anyCh l ⟨x, k, r⟩ B w2.heap.size p l.length cap A _ rfl (own_kept HC2.out.own fun q hq _ => Below.heap_alloc w2 _ _ hq) (heap_new w2 _) (fun e => by have := own_lt HC2.out.own _ e; omega) (by omega) (by have := HC2.out.low; simp; omega) HP.out
  have HNE : Hid ((Value.slice A l.length cap).ownBlock ≠ some c) := HC2.out.apart
  go_wp2_with fail
  go_region_law ((go_simp; go_at_call 224; refine HIN.out.mono ?_; rintro e w3 ⟨v3, rfl, hins⟩; obtain ⟨A3, n3, c3, rfl⟩ := own_sliceCh hins.1; have hb3 : w3.heap[c]? = w2.heap[c]? := (hins.2.1.block c (by simp; omega) HNE.out).trans (Below.heap_alloc w2 _ _ hclt2); have hc3 : w3.cell? ⟨c, 0, none⟩ = some (.slice A l.length cap) := by { rw [cell_of (hb3.trans HC2.out.blk)]; rfl }; have hf3 : w3.frozen? ⟨c, 0, none⟩ = false := warm_of (hb3.trans HC2.out.blk) 0; have HB3 := Lib.hid hb3; have HIN3 := Lib.hid hins; clear hb3 hins))
  all_goals
    go_wp2
    go_ret
    refine ⟨rfl, .slice A3 n3 c3, ?_, ?_, ?_⟩
    · refine ⟨?_, HC2.out.low, ?_, HG.out⟩
      · rw [set_here (HB3.out.trans HC2.out.blk)]; rfl
      · rw [HI.out]
        refine own_kept HIN3.out.1 fun q _ hq => Below.heap_setCell _ _ _ _ (fun e => ?_)
        have e' : q = c := e
        rcases HIN3.out.2.2 with h | h
        · exact HNE.out (by rw [← h, hq]; exact congrArg some e)
        · rw [h] at hq
          injection hq with hq
          simp at hq
          omega
    · have h1 : But (InChart c (.slice A l.length cap)) w w2 := But.of_below HB2.out
      have h2 : But (InChart c (.slice A l.length cap)) w2 (w2.alloc (.cells #[.int .i64 x, .int .i64 k, .bool r] 158)).drew := But.of_below ((Below.refl _ _).alloc (Nat.le_refl _) _).drew
      have h3 : But (InChart c (.slice A l.length cap)) (w2.alloc (.cells #[.int .i64 x, .int .i64 k, .bool r] 158)).drew w3 := HIN3.out.2.1.wide fun q _ hq => .inr hq
      have h4 : But (InChart c (.slice A l.length cap)) w3 (w3.setCell ⟨c, 0, none⟩ (.slice A3 n3 c3)) := ⟨rfl, rfl, rfl, by simp, fun q _ hq => Below.heap_setCell _ _ _ _ (fun e => hq (.inl e))⟩
      exact ((h1.trans h2).trans h3).trans h4
    · intro q hq
      rcases HIN3.out.2.2 with h | h
      · exact .inl (by rw [← h]; exact hq)
      · rw [h] at hq
        injection hq with hq
        simp at hq
        exact .inr (by omega)

theorem put_any (B c : Nat) (v : Value) (l : List Acc) (a : Acc) (w : World) (h : ChartAt w B c v l) :
    Calls Tryz.prog 200 #[.pointer (some ⟨c, 0, none⟩), .agg #[.int .i64 a.code, .int .i64 a.kind, .bool a.ret]] w fun e w' => e = .returned (.int .i64 (addE l a)) ∧ ChartTo w B c v (addL l a) w' := by
  cases ho : okRow a.code a.kind
  · rw [(addE_bad (l := l) ho).1, (addE_bad (l := l) ho).2]
    exact put_bad B c v l a.code a.kind a.ret w h ho
  cases hf : (findA l a.code).isSome
  · rw [(addE_new ho hf).1, (addE_new ho hf).2]
    exact put_new B c v l a.code a.kind a.ret w h ho hf
  · rw [(addE_dup ho hf).1, (addE_dup ho hf).2]
    exact put_dup B c v l a.code a.kind a.ret w h ho hf

end Go.Proofs.YthjpknipnmagkaaGreat

