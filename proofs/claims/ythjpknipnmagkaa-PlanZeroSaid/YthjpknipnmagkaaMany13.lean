/-
  Several texts, one behind the other: what each holds stands ahead of it.
-/
import Derived.Test.YthjpknipnmagkaaMany6
import Derived.Test.YthjpknipnmagkaaMany8
import Derived.Test.YthjpknipnmagkaaMany11
import Derived.Lib.Overlaps
import Derived.Lib.AppendZerosOnto
import Derived.Laws.IdiomCopy

/-
  Contracts of LentLines, StaysLines.
-/
namespace Go.Proofs.Ythjpknipnmagkaa
open Go.RowKit

theorem linsOne (l : List Lin) : ∀ u ∈ lins l, u.oneCell' = true := by
  intro u hu
  obtain ⟨a, _, hu⟩ := List.mem_flatMap.1 hu
  simp [Lin.cells] at hu
  rcases hu with rfl | rfl | rfl <;> rfl
end Go.Proofs.Ythjpknipnmagkaa

/-
  Contract of plan's (Template).journal.
-/
namespace Go.Proofs.Ythjpknipnmagkaa
open Go.RowKit

/-- A line appended to a row of one's own. -/
theorem append_lin {w : World} {base m : Nat} {v : Value} {L : List Lin} (x : Lin) (h : w.ownsRow base 40 3 v m (lins L)) (hb : base ≤ w.heap.size) (hm : m ≤ 1000000) :
    ∃ v' w', (∀ ty, (Builtin.append_ #[36, 36] ty #[v, .slice (some ⟨w.heap.size, 0, none⟩) 1 1]).run Try.prog (w.alloc (.cells #[.int .i64 x.acct, .int .i64 x.amt, .int .i64 x.part] 40)) = .ok v' w') ∧ w'.ownsRow base 40 3 v' (m + 1) (lins (L ++ [x])) ∧ But (fun k => v.ownBlock = some k) w w' ∧ Below base w w' := by
  have hR : Rd (w.alloc (.cells #[.int .i64 x.acct, .int .i64 x.amt, .int .i64 x.part] 40)) (w.heap.size + 1) 3 (some ⟨w.heap.size, 0, none⟩) 1 (lins [x]) := ⟨rfl, fun _ => ⟨_, rfl, by simp, cells_new w [.int .i64 x.acct, .int .i64 x.amt, .int .i64 x.part] 40⟩⟩
  have h1 : (w.alloc (.cells #[.int .i64 x.acct, .int .i64 x.amt, .int .i64 x.part] 40)).ownsRow base 40 3 v m (lins L) := own_kept h fun k hk _ => Below.heap_alloc w _ _ hk
  obtain ⟨v', w', hrun, hown, hg, _⟩ := append_fresh (P := Try.prog) (ty := 0) (c := 1) infoLin Try.underlying36 rfl (by omega) base v m (lins L) h1 hR (linsOne _) (by unfold maxLen; omega) (by omega) (by simp; omega)
  rw [← lins_append] at hown
  refine ⟨v', w', fun ty => hrun, hown, ?_, ?_⟩
  · exact (But.of_below ((Below.refl _ _).alloc (Nat.le_refl _) _)).trans (But.of_grown hg)
  · exact ((Below.refl _ _).alloc hb _).grown hg (by simp; omega) (own_ge h)

theorem six_far {w : World} {b q : Nat} (hq : q ≠ b) (v0 v1 v2 v3 v4 v5 : Value) : ((((((w.setCell ⟨b, 0, none⟩ v0).setCell ⟨b, 1, none⟩ v1).setCell ⟨b, 2, none⟩ v2).setCell ⟨b, 3, none⟩ v3).setCell ⟨b, 4, none⟩ v4).setCell ⟨b, 5, none⟩ v5).heap[q]? = w.heap[q]? := by
  have e : ∀ (u : World) (i : Nat) (v : Value), (u.setCell ⟨b, i, none⟩ v).heap[q]? = u.heap[q]? := fun u i v => Below.heap_setCell _ _ _ _ hq
  rw [e, e, e, e, e, e]
set_option maxRecDepth 100000 in
set_option maxHeartbeats 2000000 in
theorem journal_any (t : Tpl) (per id : Int) (v : Value) (m base : Nat) (L : List Lin) (w : World) (h : w.ownsRow base 40 3 v m (lins L)) (hb : base ≤ w.heap.size) (hm : m ≤ 1000000) (ha : 1 ≤ t.amt ∧ t.amt ≤ 1000000000000000) :
    Calls Try.prog 84 #[.agg t.cells.toArray, .int .i64 per, .int .i64 id, v] w fun e w' => ∃ A c, e = .returned (.agg #[.int .i64 id, .int .i64 t.ent, .int .i64 per, .string ⟨#[]⟩, .slice A (m + 1) c, .bool false]) ∧ w'.ownsRow base 40 3 (.slice A (m + 1) c) (m + 1) (lins (L ++ [⟨t.cre, -t.amt, 0⟩])) ∧ Below base w w' := by
  obtain ⟨W, hW⟩ : ∃ W, (w.alloc (.cells t.cells.toArray 24)).alloc (.cells #[.int .i64 0, .int .i64 0, .int .i64 0, .string ⟨#[]⟩, .slice none 0 0, .bool false] 38) = W := ⟨_, rfl⟩
  have hbW : Below w.heap.size w W := by rw [← hW]; exact ((Below.refl _ _).alloc (Nat.le_refl _) _).alloc (by simp) _
  have hzW : W.heap.size = w.heap.size + 1 + 1 := by rw [← hW]; simp
  have hx : TplAt W w.heap.size t := by rw [← hW]; exact (Below.heap_alloc _ _ _ (by simp)).trans (heap_new w _)
  have hj : JAt W (w.heap.size + 1) zeroJ none 0 0 := by
    rw [← hW]
    have := heap_new (w.alloc (.cells t.cells.toArray 24)) (.cells #[.int .i64 0, .int .i64 0, .int .i64 0, .string ⟨#[]⟩, .slice none 0 0, .bool false] 38)
    rw [show (w.alloc (.cells t.cells.toArray 24)).heap.size = w.heap.size + 1 by simp] at this
    exact this
  have hwr : wrap64 (-t.amt) = -t.amt := by unfold wrap64; omega
  obtain ⟨v', w', hrun, hown, hbut, hbel⟩ := append_lin ⟨t.cre, -t.amt, 0⟩ (own_kept h fun k hk _ => hbW.block k hk) (Nat.le_trans hb hbW.size) hm
  rw [hzW, ← hW] at hrun
  obtain ⟨A, c, rfl⟩ := own_form hown
  have HR := Lib.hid hrun
  have HOWN := Lib.hid hown
  have HBEL : Hid (Below base w w') := (hbW.mono hb).trans hbel
  obtain ⟨⟨x0, x1, x2, x3, x4, x5⟩, x6, x7, x8, x9, x10, x11⟩ := tpl_cells hx
  have hne : ∀ k, k = w.heap.size ∨ k = w.heap.size + 1 → v.ownBlock ≠ some k := fun k hk e => by
    have := own_lt h k e
    omega
  have hx' : TplAt w' w.heap.size t := (hbut.block _ (by omega) (hne _ (.inl rfl))).trans hx
  have hj' : JAt w' (w.heap.size + 1) zeroJ none 0 0 := (hbut.block _ (by omega) (hne _ (.inr rfl))).trans hj
  have HX := Lib.hid hx'; have HJ := Lib.hid hj'
  clear hW hbW hzW hx hj h hrun hown hbut hbel hne hx' hj' x0 x1 x2 x3 x4 x5 x6 x7 x8 x9 x10 x11
  obtain ⟨⟨x0, x1, x2, x3, x4, x5⟩, x6, x7, x8, x9, x10, x11⟩ := tpl_cells HX.out
  obtain ⟨y0, y1, y2, y3, y4, y5⟩ := six_cells HJ.out
  have yf := fun o => warm_of HJ.out o
  unfold Tpl.cells at *
  go_enter Try.func84, Try.ntmps84
  go_wp2_with (at_builtin; refine wpList_append_run rfl _ _ _ rfl _ _ _ _ rfl rfl (HR.out _) ?_)
  refine bodyPost_ret (v := .agg #[.int .i64 id, .int .i64 t.ent, .int .i64 per, .string ⟨#[]⟩, .slice A (m + 1) c, .bool false]) (by simp [results, Try.results84, go_sem, y0, y1, y2, y3, y4, y5]) rfl ?_
  refine ⟨A, c, rfl, own_kept HOWN.out fun k _ hk => six_far (fun e => ?_) _ _ _ _ _ _, below_six HBEL.out (by omega) _ _ _ _ _ _⟩
  rw [e] at hk
  exact own_ne HOWN.out HJ.out (by decide) hk
end Go.Proofs.Ythjpknipnmagkaa

/-
  What slices.Insert does with a row of one's own: copies within a row, a row that is opened by one element. No code.
-/
namespace Go.Proofs.Ythjpknipnmagkaa
open Go.RowKit

theorem step_copy_run {P : Program} {w : World} {ops : Array Oper} {o : Oper} {a : Act} {K : Act → World → Prop} {Q : Exit → Act → World → Prop} {E : Prop} (hgd : o.guard = none) (d s : Operand) (t t' : TypeId)
    (ho : o.op = .call { callee := .builtin .copy, args := #[d, s], argTypes := #[t, t'] }) (vd vs v' : Value) (w' : World) (hd : a.eval d = vd) (hs : a.eval s = vs)
    (hrun : (Builtin.copy_ #[t, t'] o.type #[vd, vs]).run P w = .ok v' w') (h : K (a.put o.dst v') w') : if Region.wanted o (yielded ops a.tmps) = true then Oper.wp P o a w K Q else E := by
  have hw : Region.wanted o (yielded ops a.tmps) = true := by simp [Region.wanted, hgd]
  rw [if_pos hw]
  unfold Oper.wp execOp
  simp only [ho, resolve, invoke, builtin, Sem.run_bind, Sem.run_pure, Result.andThen_ok, List.map_toArray, List.map_cons, List.map_nil, hd, hs, hrun]
  exact h
theorem wpList_copy_run1 {P : Program} {w : World} {ops : Array Oper} {rest : List Oper} {o : Oper} {a : Act} {Q : Exit → Act → World → Prop} (hgd : o.guard = none) (d s : Operand) (t t' : TypeId)
    (ho : o.op = .call { callee := .builtin .copy, args := #[d, s], argTypes := #[t, t'] }) (vd vs v' : Value) (w' : World) (hd : a.eval d = vd) (hs : a.eval s = vs)
    (hrun : (Builtin.copy_ #[t, t'] o.type #[vd, vs]).run P w = .ok v' w') (h : wpList P ops Q rest (a.put o.dst v') w') : wpList P ops Q (o :: rest) a w :=
  wpList_plain hgd fun _ hK => by
    unfold Oper.wp execOp
    simp only [ho, resolve, invoke, builtin, Sem.run_bind, Sem.run_pure, Result.andThen_ok, List.map_toArray, List.map_cons, List.map_nil, hd, hs, hrun]
    exact hK _ _ h
theorem wpList_append_run2 {P : Program} {w : World} {ops : Array Oper} {rest : List Oper} {o : Oper} {a : Act} {Q : Exit → Act → World → Prop} (hgd : o.guard = none) (s x : Operand) (t t' : TypeId)
    (ho : o.op = .call { callee := .builtin .append, args := #[s, x], argTypes := #[t, t'] }) (vs vx v' : Value) (w' : World) (hs : a.eval s = vs) (hx : a.eval x = vx)
    (hrun : (Builtin.append_ #[t, t'] o.type #[vs, vx]).run P w = .ok v' w') (h : wpList P ops Q rest (a.put o.dst v') w') : wpList P ops Q (o :: rest) a w :=
  wpList_plain hgd fun _ hK => by
    unfold Oper.wp execOp
    simp only [ho, resolve, invoke, builtin, Sem.run_bind, Sem.run_pure, Result.andThen_ok, List.map_toArray, List.map_cons, List.map_nil, hs, hx, hrun]
    exact hK _ _ h

section
variable {P : Program} {w : World} {B g n c size : Nat} {e : TypeId} {L : List Value}
theorem own_blk (h : w.ownsRow B e size (.slice (some ⟨g, 0, none⟩) n c) n L) : ∃ cur, w.heap[g]? = some (.cells cur e (0, 0)) ∧ B ≤ g ∧ n ≤ c ∧ c ≤ maxLen ∧ cur.size = c * size ∧ cur.toList.take (n * size) = L := by
  rcases h.2 with ⟨h1, _⟩ | ⟨g', cap', cur, h1, hB, hh, r⟩
  · cases h1
  · injection h1 with h1 _ hc
    injection h1 with h1
    injection h1 with h1
    subst h1 hc
    exact ⟨cur, hh, hB, r⟩
/-- copy into a row of one's own, from wherever, where all of it fits. -/
theorem copy_own (h : w.ownsRow B e size (.slice (some ⟨g, 0, none⟩) n c) n L) {dT ty : TypeId} (hu : P.underlying dT = some (.slice e)) (hi : (P.info? e).map (·.size) = some size) (oi k dLen dCap sLen sCap : Nat) (a : Addr) (cs : List Value)
    (hk : Nat.min sLen dLen = k) (hl : cs.length = k * size) (ho : oi + k ≤ n) (hsrc : ∀ j u, cs[j]? = some u → w.cell? (a.add j) = some u) (h1 : ∀ u ∈ cs, u.oneCell' = true) :
    (Builtin.copy_ #[dT, dT] ty #[.slice (some ⟨g, oi * size, none⟩) dLen dCap, .slice (some a) sLen sCap]).run P w = .ok (goInt k) (w.setCells g (oi * size) cs) ∧ (w.setCells g (oi * size) cs).ownsRow B e size (.slice (some ⟨g, 0, none⟩) n c) n (setL L (oi * size) cs) := by
  refine ⟨?_, own_setL cs w _ L h⟩
  obtain ⟨cur, hh, _, _, _, hsz, _⟩ := own_blk h
  have hle : oi * size + cs.length ≤ c * size := by
    rw [hl, ← Nat.add_mul]
    have hnc : n ≤ c := by obtain ⟨_, _, _, h2, _⟩ := own_blk h; exact h2
    exact Nat.mul_le_mul_right _ (by omega)
  have hst := run_storeCells_cells (P := P) g (oi * size) cs 0 w (fun j hj => by rw [cell_of hh, Array.getElem?_eq_getElem (by omega)]; rfl) (fun j _ => warm_of hh _) h1
  have hld := run_firstCells_some (P := P) w size k a sLen sCap cs hl hsrc
  simp only [Nat.add_zero] at hst
  cases hq : P.info? e with
  | none => simp [hq] at hi
  | some i =>
    have hi2 : i.size = size := by simpa [hq] using hi
    simp [Builtin.copy_, run_underlying hu, Builtin.lenOf, sizeOf, typeInfo, hq, hi2, hk, hld, hst]
/-- A row that has room, taken for one element longer. -/
theorem own_more (h : w.ownsRow B e size (.slice (some ⟨g, 0, none⟩) n c) n L) (hc : n + 1 ≤ c) : ∃ junk, junk.length = size ∧ w.ownsRow B e size (.slice (some ⟨g, 0, none⟩) (n + 1) c) (n + 1) (L ++ junk) := by
  obtain ⟨cur, hh, hB, _, hm, hsz, hL⟩ := own_blk h
  have hlen : n * size + size ≤ c * size := by
    have := Nat.mul_le_mul_right size hc
    rw [Nat.succ_mul] at this; exact this
  refine ⟨(cur.toList.drop (n * size)).take size, ?_, ?_, .inr ⟨g, c, cur, rfl, hB, hh, hc, hm, hsz, ?_⟩⟩
  · simp; omega
  · have := h.1
    rw [List.length_append, this, Nat.succ_mul]
    simp; omega
  · rw [Nat.succ_mul, List.take_add, hL]
end

theorem setL_off {s : Nat} (a b vs : List Value) (ha : a.length = s) (h : vs.length ≤ b.length) : setL (a ++ b) s vs = a ++ vs ++ b.drop vs.length := by subst ha; exact setL_mid vs a b h
theorem ins_core0 {a d junk ys : List Value} {p s : Nat} (ha : a.length = p) (hj : junk.length = s) (hy : ys.length = s) :
    setL (setL (a ++ (d ++ junk)) (p + s) d) p ys = a ++ (ys ++ d) := by
  obtain ⟨t, u, e, ht, hu⟩ : ∃ t u, d ++ junk = t ++ u ∧ t.length = s ∧ u.length = d.length := ⟨(d ++ junk).take s, (d ++ junk).drop s, (List.take_append_drop _ _).symm, by simp [hj], by simp [hj]⟩
  have h1 : u.drop d.length = [] := List.drop_eq_nil_of_le (by omega)
  rw [e, ← List.append_assoc, setL_off (a ++ t) u d (by simp [ha, ht]) (by omega), h1, List.append_nil, List.append_assoc, setL_off a (t ++ d) ys ha (by simp; omega), List.append_assoc]
  congr 2
  rw [List.drop_append_of_le_length (by omega), List.drop_eq_nil_of_le (by omega), List.nil_append]
theorem ins_core1 {a d zs ys : List Value} {p s : Nat} (ha : a.length = p) (hz : zs.length = d.length + s) (hy : ys.length = s) :
    setL (setL (a ++ zs) p ys) (p + s) d = a ++ (ys ++ d) := by
  have h1 : (zs.drop ys.length).drop d.length = [] := List.drop_eq_nil_of_le (by simp; omega)
  rw [setL_off a zs ys ha (by omega), setL_off (a ++ ys) _ d (by simp [ha, hy]) (by simp; omega), h1, List.append_nil, List.append_assoc]
theorem ins_core {p q s : Nat} {xs junk ys : List Value} (hx : xs.length = q) (hp : p ≤ q) (hj : junk.length = s) (hy : ys.length = s) :
    setL (setL (xs ++ junk) (p + s) (xs.drop p)) p ys = xs.take p ++ (ys ++ xs.drop p) := by
  have := ins_core0 (a := xs.take p) (d := xs.drop p) (p := p) (by simp; omega) hj hy
  rwa [← List.append_assoc, List.take_append_drop] at this
theorem ins_core2 {p q s : Nat} {xs zs ys : List Value} (hx : xs.length = q) (hp : p ≤ q) (hz : zs.length = q - p + s) (hy : ys.length = s) :
    setL (setL (xs.take p ++ zs) p ys) (p + s) (xs.drop p) = xs.take p ++ (ys ++ xs.drop p) :=
  ins_core1 (by simp; omega) (by simp; omega) hy
theorem ins_here {size n i : Nat} {xs junk ys : List Value} (hx : xs.length = n * size) (hi : i ≤ n) (hj : junk.length = size) (hy : ys.length = size) :
    setL (setL (xs ++ junk) ((i + 1) * size) (xs.drop (i * size))) (i * size) ys = xs.take (i * size) ++ (ys ++ xs.drop (i * size)) := by
  rw [Nat.succ_mul]
  exact ins_core hx (Nat.mul_le_mul_right _ hi) hj hy
theorem ins_new {size n i : Nat} {xs zs ys : List Value} (hx : xs.length = n * size) (hi : i ≤ n) (hz : zs.length = (n + 1 - i) * size) (hy : ys.length = size) :
    setL (setL (xs.take (i * size) ++ zs) (i * size) ys) ((i + 1) * size) (xs.drop (i * size)) = xs.take (i * size) ++ (ys ++ xs.drop (i * size)) := by
  rw [Nat.succ_mul]
  refine ins_core2 hx (Nat.mul_le_mul_right _ hi) ?_ hy
  rw [hz, show n + 1 - i = (n - i) + 1 by omega, Nat.succ_mul, Nat.sub_mul]
end Go.Proofs.Ythjpknipnmagkaa
