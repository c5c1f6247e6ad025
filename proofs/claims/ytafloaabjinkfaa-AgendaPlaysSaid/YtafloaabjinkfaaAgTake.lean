/-
  Contracts of Take's own function, slices.IndexFunc, slices.DeleteFunc, container/heap's Init, and (*Agenda).Take.
-/
import Derived.Test.YtafloaabjinkfaaAgNext
import Derived.Test.YtafloaabjinkfaaAppend
namespace Go.Proofs.Ytafloaabjinkfaa
open Go.RowKit Go.Sort

set_option maxRecDepth 100000 in
set_option maxHeartbeats 400000 in
theorem isId_any (x : Itm) (i : Int) (q : Nat) (w : World) (hq : w.cell? ⟨q, 0, none⟩ = some (.int .i64 i)) : Calls Try.prog 19 #[.agg #[.int .i64 x.per, .int .i64 x.rk, .int .i64 x.id], .pointer (some ⟨q, 0, none⟩)] w fun e w' => e = .returned (.bool (x.id == i)) ∧ Below w.heap.size w w' := by
  have hlt : q < w.heap.size := block_of_cell hq
  go_enter Try.func19, Try.ntmps19
  go_wp2_with fail
  go_ret
  exact ⟨rfl, (Below.refl _ _).alloc (Nat.le_refl _) _⟩

/-- Where the first one of a number stands. -/
def FirstAt (f : Nat → Itm) (n : Nat) (i r : Int) : Prop := (r = -1 ∧ ∀ k, k < n → (f k).id ≠ i) ∨ ∃ p : Nat, r = p ∧ p < n ∧ (f p).id = i ∧ ∀ k, k < p → (f k).id ≠ i
set_option maxRecDepth 100000 in
set_option maxHeartbeats 1000000 in
theorem index_any (g n c q : Nat) (f : Nat → Itm) (i : Int) (w : World) (h : RRow w g c n f) (hq : w.cell? ⟨q, 0, none⟩ = some (.int .i64 i)) :
    Calls Try.prog 26 #[.slice (some ⟨g, 0, none⟩) n c, .func (.func 19) #[] #[.pointer (some ⟨q, 0, none⟩)]] w fun e w' => (∃ r, e = .returned (.int .i64 r) ∧ FirstAt f n i r) ∧ Below w.heap.size w w' := by
  have hn : n ≤ maxLen := by obtain ⟨_, _, a, b, _⟩ := h; omega
  unfold maxLen at hn
  have H := Lib.hid h; have HQ := Lib.hid hq
  clear h hq
  go_enter Try.func26, Try.ntmps26
  go_wp2_with fail
  go_loopw [8, 5] (fun iv _ wr => ∃ k : Nat, k ≤ n ∧ iv = .int .i64 k ∧ Hid (∀ j, j < k → (f j).id ≠ i) ∧ Below w.heap.size w wr) (fun iv _ _ => n - (intOf iv).toNat)
  case atStart => exact ⟨0, Nat.zero_le _, rfl, fun j hj => absurd hj (by omega), Below.refl _ _⟩
  case round =>
    obtain ⟨k, hk, rfl, HF, hb⟩ := hrel
    by_cases hlt : k < n
    · have hkI : (k : Int) < (n : Int) := by omega
      have hr := H.out.laid hb
      obtain ⟨c0, c1, c2⟩ := hr.cells hlt
      have KI := Lib.hid (isId_any (f k) i q wr ((hb.cell (block_of_cell HQ.out)).trans HQ.out))
      have HB := Lib.hid hb
      clear hb hr
      go_wp2_with fail
      refine KI.out.mono ?_
      rintro e w1 ⟨rfl, hb1⟩
      have HB1 : Hid (Below w.heap.size w w1) := HB.out.trans (hb1.mono HB.out.size)
      clear hb1
      by_cases he : (f k).id = i
      · have t1 : ((f k).id == i) = true := by simpa using he
        have HE := Lib.hid he
        clear he
        go_wp2_with fail
        go_ret
        exact ⟨⟨_, rfl, .inr ⟨k, rfl, hlt, HE.out, HF.out⟩⟩, HB1.out⟩
      · have t1 : ((f k).id == i) = false := by simpa using he
        have HE := Lib.hid he
        clear he
        go_wp2_with fail
        refine ⟨⟨k + 1, by omega, by go_num, fun j hj => ?_, HB1.out⟩, by simp [intOf]; omega⟩
        by_cases e : j = k
        · rw [e]; exact HE.out
        · exact HF.out j (by omega)
    · obtain rfl : k = n := by omega
      have HB := Lib.hid hb
      clear hb
      go_wp2_with fail
      go_ret
      exact ⟨⟨_, rfl, .inl ⟨rfl, HF.out⟩⟩, HB.out⟩
set_option maxRecDepth 100000 in
set_option maxHeartbeats 1000000 in
theorem index_nil (F : Value) (w : World) :
    Calls Try.prog 26 #[.slice none 0 0, F] w fun e w' => e = .returned (.int .i64 (-1)) ∧ w = w' := by
  go_enter Try.func26, Try.ntmps26
  go_wp2_with fail
  go_loopw [8, 5] (fun iv _ wr => iv = .int .i64 0 ∧ wr = w) (fun _ _ _ => 0)
  case atStart => exact ⟨rfl, rfl⟩
  case round =>
    obtain ⟨rfl, rfl⟩ := hrel
    go_wp2_with fail
    go_ret
    exact ⟨rfl, rfl⟩
/-- An item put into a row. -/
def setItm (w : World) (g i : Nat) (x : Itm) : World := ((w.setCell ⟨g, i * 3, none⟩ (.int .i64 x.per)).setCell ⟨g, i * 3 + 1, none⟩ (.int .i64 x.rk)).setCell ⟨g, i * 3 + 2, none⟩ (.int .i64 x.id)
theorem setItm_row {w : World} {g c n i : Nat} {f : Nat → Itm} (x : Itm) (h : RRow w g c n f) (hi : i < n) : RRow (setItm w g i x) g c n (put f i x) ∧ w.grownBy (setItm w g i x) (some g) := by
  obtain ⟨cur, h1, h2, h3, h4, h5⟩ := h
  constructor
  · refine ⟨set3 cur (i * 3) x, ?_, h2, h3, by rw [set3_size]; exact h4, fun k hk => ?_⟩
    · have e1 := set_here (i := i * 3) (u := .int .i64 x.per) h1
      have e2 := set_here (i := i * 3 + 1) (u := .int .i64 x.rk) e1
      have e3 := set_here (i := i * 3 + 2) (u := .int .i64 x.id) e2
      unfold setItm set3
      exact e3
    · by_cases e : k = i
      · subst e
        simp only [put, if_true]
        exact set3_in _ (show k * 3 + 3 ≤ cur.size by omega)
      · simp only [put, if_neg e]
        rw [set3_out _ (show k * 3 < i * 3 ∨ i * 3 + 3 ≤ k * 3 by omega), set3_out _ (show k * 3 + 1 < i * 3 ∨ i * 3 + 3 ≤ k * 3 + 1 by omega), set3_out _ (show k * 3 + 2 < i * 3 ∨ i * 3 + 3 ≤ k * 3 + 2 by omega)]
        exact h5 k hk
  · have e1 := grown_set w g (i * 3) (.int .i64 x.per)
    have e2 := e1.trans (grown_set _ g (i * 3 + 1) (.int .i64 x.rk))
    unfold setItm
    exact e2.trans (grown_set _ g (i * 3 + 2) (.int .i64 x.id))
theorem grown_sets (g : Nat) : ∀ (vs : List Value) (o : Nat) (w : World), w.grownBy (w.setCells g o vs) (some g)
  | [], _, w => World.grownBy.refl _ _
  | v :: r, o, w => (grown_set w g o v).trans (grown_sets g r (o + 1) _)
/-- The row behind a clear of its last places. -/
theorem cleared_row {w : World} {g c n i : Nat} {f : Nat → Itm} (vs : List Value) (h : RRow w g c n f) (hi : i ≤ n) : RRow (w.setCells g (i * 3) vs) g c i f := by
  obtain ⟨cur, h1, h2, h3, h4, h5⟩ := h
  obtain ⟨cur', k1, k2, k3⟩ := setCells_here vs (i * 3) w cur h1
  refine ⟨cur', k1, by omega, h3, by rw [k2]; exact h4, fun k hk => ?_⟩
  rw [k3 _ (by omega), k3 _ (by omega), k3 _ (by omega)]
  exact h5 k (by omega)
def zerosI (m : Nat) : List Value := (Builtin.zeroCells #[.int .i64 0, .int .i64 0, .int .i64 0] m).toList
theorem zerosI_len (m : Nat) : (zerosI m).length = m * 3 := by unfold zerosI; rw [Array.length_toList, size_zeroCells]; rfl
theorem zerosI_one (m : Nat) : ∀ u ∈ zerosI m, u.oneCell' = true := by
  intro u hu
  unfold zerosI Builtin.zeroCells at hu
  simp only [Array.toList_map, List.mem_map] at hu
  obtain ⟨j, _, rfl⟩ := hu
  have hj : j % 3 < 3 := by omega
  rcases (show j % 3 = 0 ∨ j % 3 = 1 ∨ j % 3 = 2 by omega) with e | e | e
  · show (#[Value.int .i64 0, .int .i64 0, .int .i64 0][j % 3]!).oneCell' = true; rw [e]; rfl
  · show (#[Value.int .i64 0, .int .i64 0, .int .i64 0][j % 3]!).oneCell' = true; rw [e]; rfl
  · show (#[Value.int .i64 0, .int .i64 0, .int .i64 0][j % 3]!).oneCell' = true; rw [e]; rfl
theorem run_clear_itms (w : World) (g c n i c2 : Nat) (f : Nat → Itm) (h : RRow w g c n f) (hi : i < n) (ty : TypeId) :
    (Builtin.clear_ #[26] ty #[.slice (some ⟨g, i * 3, none⟩) (n - i) c2]).run Try.prog w = .ok (.tuple #[]) (w.setCells g (i * 3) (zerosI (n - i))) := by
  have hcell : ∀ j, j < (zerosI (n - i)).length → (w.cell? ⟨g, i * 3 + j, none⟩).isSome = true := by
    intro j hj
    rw [zerosI_len] at hj
    obtain ⟨cur, h1, h2, h3, h4, h5⟩ := h
    rw [cell_of h1, Array.getElem?_eq_getElem (by omega)]
    rfl
  have hst := run_storeCells_cells (P := Try.prog) g (i * 3) (zerosI (n - i)) 0 w (by simpa using hcell) (by simpa using fun j _ => h.warm _) (zerosI_one _)
  simp only [Nat.add_zero] at hst
  obtain ⟨i0, hi0, hz0, hz1, hz2⟩ := info_parts infoItm
  have hv : ∀ w, (zeroValue 33).run Try.prog w = .ok (.agg #[.int .i64 0, .int .i64 0, .int .i64 0]) w := fun w => by simp [zeroValue, typeInfo, hi0, hz0]
  obtain ⟨m, hm⟩ : ∃ m, n - i = m + 1 := ⟨n - i - 1, by omega⟩
  rw [hm] at hst ⊢
  unfold zerosI at hst ⊢
  simp [Builtin.clear_, run_underlying Try.underlying26, hv, hst, Value.cells]

def keepI (i : Int) (l : List Itm) : List Itm := l.filter fun x => !(x.id == i)
theorem keep_all {f : Nat → Itm} {n : Nat} {i : Int} (h : ∀ k, k < n → (f k).id ≠ i) : keepI i (lst f n) = lst f n := by
  unfold keepI
  rw [List.filter_eq_self]
  intro x hx
  unfold lst at hx
  obtain ⟨k, hk, rfl⟩ := List.mem_map.1 hx
  have := h k (List.mem_range.1 hk)
  simpa using this
theorem keep_step {f f1 : Nat → Itm} {i : Int} {k p : Nat} (h : lst f1 p = keepI i (lst f k)) : ((f k).id = i → lst f1 p = keepI i (lst f (k + 1))) ∧ ((f k).id ≠ i → lst (put f1 p (f k)) (p + 1) = keepI i (lst f (k + 1))) := by
  constructor
  · intro he
    rw [lst_succ, h]
    unfold keepI
    rw [List.filter_append]
    simp [he]
  · intro he
    rw [lst_succ, lst_succ, show lst (put f1 p (f k)) p = lst f1 p from lst_congr fun j hj => by simp [put]; intro e; omega, h]
    unfold keepI
    rw [List.filter_append]
    simp [he, put]
end Go.Proofs.Ytafloaabjinkfaa
