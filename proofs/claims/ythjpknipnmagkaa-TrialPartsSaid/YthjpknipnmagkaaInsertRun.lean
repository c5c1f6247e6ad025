/-
  What slices.Insert does with a row of one's own: copies within a row, a row that is opened by one element. No code.
-/
import Derived.Test.YthjpknipnmagkaaMany3
import Derived.Lib.Overlaps
import Derived.Lib.AppendZerosOnto
import Derived.Laws.IdiomCopy
namespace Go.Proofs.Ythjpknipnmagkaa
open Go.RowKit

theorem step_copy_run {P : Program} {w : World} {ops : Array Oper} {o : Oper} {a : Act} {K : Act → World → Prop} {Q : Exit → Act → World → Prop} {E : Prop} (hgd : o.guard = none) (d s : Operand) (t t' : TypeId)
    (ho : o.op = .call { callee := .builtin .copy, args := #[d, s], argTypes := #[t, t'] }) (vd vs v' : Value) (w' : World) (hd : a.eval d = vd) (hs : a.eval s = vs)
    (hrun : (Builtin.copy_ #[t, t'] o.type #[vd, vs]).run P w = .ok v' w') (h : K (a.put o.dst v') w') : if Region.wanted o (yielded ops a.tmps) = true then Oper.wp P o a w K Q else E := by
  have hw : Region.wanted o (yielded ops a.tmps) = true := by simp [Region.wanted, hgd]
  rw [if_pos hw]
  unfold Oper.wp execOp
  simp only [ho, resolve, invoke, builtin, Sem.run_bind, Sem.run_pure, Result.andThen_ok, List.map_toArray, List.map_cons, List.map_nil, hd, hs, hrun]
  exact h
theorem wpList_copy_run1 {P : Program} {w : World} {ops : Array Oper} {rest : List Oper} {o : Oper} {a : Act} {Q : Exit → Act → World → Prop} (hgd : o.guard = none) (d s : Operand) (t t' : TypeId)
    (ho : o.op = .call { callee := .builtin .copy, args := #[d, s], argTypes := #[t, t'] }) (vd vs v' : Value) (w' : World) (hd : a.eval d = vd) (hs : a.eval s = vs)
    (hrun : (Builtin.copy_ #[t, t'] o.type #[vd, vs]).run P w = .ok v' w') (h : wpList P ops Q rest (a.put o.dst v') w') : wpList P ops Q (o :: rest) a w :=
  wpList_plain hgd fun _ hK => by
    unfold Oper.wp execOp
    simp only [ho, resolve, invoke, builtin, Sem.run_bind, Sem.run_pure, Result.andThen_ok, List.map_toArray, List.map_cons, List.map_nil, hd, hs, hrun]
    exact hK _ _ h
theorem wpList_append_run2 {P : Program} {w : World} {ops : Array Oper} {rest : List Oper} {o : Oper} {a : Act} {Q : Exit → Act → World → Prop} (hgd : o.guard = none) (s x : Operand) (t t' : TypeId)
    (ho : o.op = .call { callee := .builtin .append, args := #[s, x], argTypes := #[t, t'] }) (vs vx v' : Value) (w' : World) (hs : a.eval s = vs) (hx : a.eval x = vx)
    (hrun : (Builtin.append_ #[t, t'] o.type #[vs, vx]).run P w = .ok v' w') (h : wpList P ops Q rest (a.put o.dst v') w') : wpList P ops Q (o :: rest) a w :=
  wpList_plain hgd fun _ hK => by
    unfold Oper.wp execOp
    simp only [ho, resolve, invoke, builtin, Sem.run_bind, Sem.run_pure, Result.andThen_ok, List.map_toArray, List.map_cons, List.map_nil, hs, hx, hrun]
    exact hK _ _ h

section
variable {P : Program} {w : World} {B g n c size : Nat} {e : TypeId} {L : List Value}
theorem own_blk (h : w.ownsRow B e size (.slice (some ⟨g, 0, none⟩) n c) n L) : ∃ cur, w.heap[g]? = some (.cells cur e (0, 0)) ∧ B ≤ g ∧ n ≤ c ∧ c ≤ maxLen ∧ cur.size = c * size ∧ cur.toList.take (n * size) = L := by
  rcases h.2 with ⟨h1, _⟩ | ⟨g', cap', cur, h1, hB, hh, r⟩
  · cases h1
  · injection h1 with h1 _ hc
    injection h1 with h1
    injection h1 with h1
    subst h1 hc
    exact ⟨cur, hh, hB, r⟩
/-- copy into a row of one's own, from wherever, where all of it fits. -/
theorem copy_own (h : w.ownsRow B e size (.slice (some ⟨g, 0, none⟩) n c) n L) {dT ty : TypeId} (hu : P.underlying dT = some (.slice e)) (hi : (P.info? e).map (·.size) = some size) (oi k dLen dCap sLen sCap : Nat) (a : Addr) (cs : List Value)
    (hk : Nat.min sLen dLen = k) (hl : cs.length = k * size) (ho : oi + k ≤ n) (hsrc : ∀ j u, cs[j]? = some u → w.cell? (a.add j) = some u) (h1 : ∀ u ∈ cs, u.oneCell' = true) :
    (Builtin.copy_ #[dT, dT] ty #[.slice (some ⟨g, oi * size, none⟩) dLen dCap, .slice (some a) sLen sCap]).run P w = .ok (goInt k) (w.setCells g (oi * size) cs) ∧ (w.setCells g (oi * size) cs).ownsRow B e size (.slice (some ⟨g, 0, none⟩) n c) n (setL L (oi * size) cs) := by
  refine ⟨?_, own_setL cs w _ L h⟩
  obtain ⟨cur, hh, _, _, _, hsz, _⟩ := own_blk h
  have hle : oi * size + cs.length ≤ c * size := by
    rw [hl, ← Nat.add_mul]
    have hnc : n ≤ c := by obtain ⟨_, _, _, h2, _⟩ := own_blk h; exact h2
    exact Nat.mul_le_mul_right _ (by omega)
  have hst := run_storeCells_cells (P := P) g (oi * size) cs 0 w (fun j hj => by rw [cell_of hh, Array.getElem?_eq_getElem (by omega)]; rfl) (fun j _ => warm_of hh _) h1
  have hld := run_firstCells_some (P := P) w size k a sLen sCap cs hl hsrc
  simp only [Nat.add_zero] at hst
  cases hq : P.info? e with
  | none => simp [hq] at hi
  | some i =>
    have hi2 : i.size = size := by simpa [hq] using hi
    simp [Builtin.copy_, run_underlying hu, Builtin.lenOf, sizeOf, typeInfo, hq, hi2, hk, hld, hst]
/-- A row that has room, taken for one element longer. -/
theorem own_more (h : w.ownsRow B e size (.slice (some ⟨g, 0, none⟩) n c) n L) (hc : n + 1 ≤ c) : ∃ junk, junk.length = size ∧ w.ownsRow B e size (.slice (some ⟨g, 0, none⟩) (n + 1) c) (n + 1) (L ++ junk) := by
  obtain ⟨cur, hh, hB, _, hm, hsz, hL⟩ := own_blk h
  have hlen : n * size + size ≤ c * size := by
    have := Nat.mul_le_mul_right size hc
    rw [Nat.succ_mul] at this; exact this
  refine ⟨(cur.toList.drop (n * size)).take size, ?_, ?_, .inr ⟨g, c, cur, rfl, hB, hh, hc, hm, hsz, ?_⟩⟩
  · simp; omega
  · have := h.1
    rw [List.length_append, this, Nat.succ_mul]
    simp; omega
  · rw [Nat.succ_mul, List.take_add, hL]
end

theorem setL_off {s : Nat} (a b vs : List Value) (ha : a.length = s) (h : vs.length ≤ b.length) : setL (a ++ b) s vs = a ++ vs ++ b.drop vs.length := by subst ha; exact setL_mid vs a b h
theorem ins_core0 {a d junk ys : List Value} {p s : Nat} (ha : a.length = p) (hj : junk.length = s) (hy : ys.length = s) :
    setL (setL (a ++ (d ++ junk)) (p + s) d) p ys = a ++ (ys ++ d) := by
  obtain ⟨t, u, e, ht, hu⟩ : ∃ t u, d ++ junk = t ++ u ∧ t.length = s ∧ u.length = d.length := ⟨(d ++ junk).take s, (d ++ junk).drop s, (List.take_append_drop _ _).symm, by simp [hj], by simp [hj]⟩
  have h1 : u.drop d.length = [] := List.drop_eq_nil_of_le (by omega)
  rw [e, ← List.append_assoc, setL_off (a ++ t) u d (by simp [ha, ht]) (by omega), h1, List.append_nil, List.append_assoc, setL_off a (t ++ d) ys ha (by simp; omega), List.append_assoc]
  congr 2
  rw [List.drop_append_of_le_length (by omega), List.drop_eq_nil_of_le (by omega), List.nil_append]
theorem ins_core1 {a d zs ys : List Value} {p s : Nat} (ha : a.length = p) (hz : zs.length = d.length + s) (hy : ys.length = s) :
    setL (setL (a ++ zs) p ys) (p + s) d = a ++ (ys ++ d) := by
  have h1 : (zs.drop ys.length).drop d.length = [] := List.drop_eq_nil_of_le (by simp; omega)
  rw [setL_off a zs ys ha (by omega), setL_off (a ++ ys) _ d (by simp [ha, hy]) (by simp; omega), h1, List.append_nil, List.append_assoc]
theorem ins_core {p q s : Nat} {xs junk ys : List Value} (hx : xs.length = q) (hp : p ≤ q) (hj : junk.length = s) (hy : ys.length = s) :
    setL (setL (xs ++ junk) (p + s) (xs.drop p)) p ys = xs.take p ++ (ys ++ xs.drop p) := by
  have := ins_core0 (a := xs.take p) (d := xs.drop p) (p := p) (by simp; omega) hj hy
  rwa [← List.append_assoc, List.take_append_drop] at this
theorem ins_core2 {p q s : Nat} {xs zs ys : List Value} (hx : xs.length = q) (hp : p ≤ q) (hz : zs.length = q - p + s) (hy : ys.length = s) :
    setL (setL (xs.take p ++ zs) p ys) (p + s) (xs.drop p) = xs.take p ++ (ys ++ xs.drop p) :=
  ins_core1 (by simp; omega) (by simp; omega) hy
theorem ins_here {size n i : Nat} {xs junk ys : List Value} (hx : xs.length = n * size) (hi : i ≤ n) (hj : junk.length = size) (hy : ys.length = size) :
    setL (setL (xs ++ junk) ((i + 1) * size) (xs.drop (i * size))) (i * size) ys = xs.take (i * size) ++ (ys ++ xs.drop (i * size)) := by
  rw [Nat.succ_mul]
  exact ins_core hx (Nat.mul_le_mul_right _ hi) hj hy
theorem ins_new {size n i : Nat} {xs zs ys : List Value} (hx : xs.length = n * size) (hi : i ≤ n) (hz : zs.length = (n + 1 - i) * size) (hy : ys.length = size) :
    setL (setL (xs.take (i * size) ++ zs) (i * size) ys) ((i + 1) * size) (xs.drop (i * size)) = xs.take (i * size) ++ (ys ++ xs.drop (i * size)) := by
  rw [Nat.succ_mul]
  refine ins_core2 hx (Nat.mul_le_mul_right _ hi) ?_ hy
  rw [hz, show n + 1 - i = (n - i) + 1 by omega, Nat.succ_mul, Nat.sub_mul]
end Go.Proofs.Ythjpknipnmagkaa

