/-
  Several texts, one behind the other: what each holds stands ahead of it.
-/
import Derived.Test.YthjpknipnmagkaaGreatMany2
import Derived.Lib.Overlaps
import Derived.Lib.AppendZerosOnto
import Derived.Laws.IdiomCopy
import Derived.Test.YthjpknipnmagkaaGreatOwn

/-
  What slices.Insert does with a row of one's own: copies within a row, a row that is opened by one element. No code.
-/
namespace Go.Proofs.YthjpknipnmagkaaGreat
open Go.RowKit

theorem step_copy_run {P : Program} {w : World} {ops : Array Oper} {o : Oper} {a : Act} {K : Act → World → Prop} {Q : Exit → Act → World → Prop} {E : Prop} (hgd : o.guard = none) (d s : Operand) (t t' : TypeId)
    (ho : o.op = .call { callee := .builtin .copy, args := #[d, s], argTypes := #[t, t'] }) (vd vs v' : Value) (w' : World) (hd : a.eval d = vd) (hs : a.eval s = vs)
    (hrun : (Builtin.copy_ #[t, t'] o.type #[vd, vs]).run P w = .ok v' w') (h : K (a.put o.dst v') w') : if Region.wanted o (yielded ops a.tmps) = true then Oper.wp P o a w K Q else E := by
  have hw : Region.wanted o (yielded ops a.tmps) = true := by simp [Region.wanted, hgd]
  rw [if_pos hw]
  unfold Oper.wp execOp
  simp only [ho, resolve, invoke, builtin, Sem.run_bind, Sem.run_pure, Result.andThen_ok, List.map_toArray, List.map_cons, List.map_nil, hd, hs, hrun]
  exact h
theorem wpList_copy_run1 {P : Program} {w : World} {ops : Array Oper} {rest : List Oper} {o : Oper} {a : Act} {Q : Exit → Act → World → Prop} (hgd : o.guard = none) (d s : Operand) (t t' : TypeId)
    (ho : o.op = .call { callee := .builtin .copy, args := #[d, s], argTypes := #[t, t'] }) (vd vs v' : Value) (w' : World) (hd : a.eval d = vd) (hs : a.eval s = vs)
    (hrun : (Builtin.copy_ #[t, t'] o.type #[vd, vs]).run P w = .ok v' w') (h : wpList P ops Q rest (a.put o.dst v') w') : wpList P ops Q (o :: rest) a w :=
  wpList_plain hgd fun _ hK => by
    unfold Oper.wp execOp
    simp only [ho, resolve, invoke, builtin, Sem.run_bind, Sem.run_pure, Result.andThen_ok, List.map_toArray, List.map_cons, List.map_nil, hd, hs, hrun]
    exact hK _ _ h
theorem wpList_append_run2 {P : Program} {w : World} {ops : Array Oper} {rest : List Oper} {o : Oper} {a : Act} {Q : Exit → Act → World → Prop} (hgd : o.guard = none) (s x : Operand) (t t' : TypeId)
    (ho : o.op = .call { callee := .builtin .append, args := #[s, x], argTypes := #[t, t'] }) (vs vx v' : Value) (w' : World) (hs : a.eval s = vs) (hx : a.eval x = vx)
    (hrun : (Builtin.append_ #[t, t'] o.type #[vs, vx]).run P w = .ok v' w') (h : wpList P ops Q rest (a.put o.dst v') w') : wpList P ops Q (o :: rest) a w :=
  wpList_plain hgd fun _ hK => by
    unfold Oper.wp execOp
    simp only [ho, resolve, invoke, builtin, Sem.run_bind, Sem.run_pure, Result.andThen_ok, List.map_toArray, List.map_cons, List.map_nil, hs, hx, hrun]
    exact hK _ _ h

section
variable {P : Program} {w : World} {B g n c size : Nat} {e : TypeId} {L : List Value}
theorem own_blk (h : w.ownsRow B e size (.slice (some ⟨g, 0, none⟩) n c) n L) : ∃ cur, w.heap[g]? = some (.cells cur e (0, 0)) ∧ B ≤ g ∧ n ≤ c ∧ c ≤ maxLen ∧ cur.size = c * size ∧ cur.toList.take (n * size) = L := by
  rcases h.2 with ⟨h1, _⟩ | ⟨g', cap', cur, h1, hB, hh, r⟩
  · cases h1
  · injection h1 with h1 _ hc
    injection h1 with h1
    injection h1 with h1
    subst h1 hc
    exact ⟨cur, hh, hB, r⟩
/-- copy into a row of one's own, from wherever, where all of it fits. -/
theorem copy_own (h : w.ownsRow B e size (.slice (some ⟨g, 0, none⟩) n c) n L) {dT ty : TypeId} (hu : P.underlying dT = some (.slice e)) (hi : (P.info? e).map (·.size) = some size) (oi k dLen dCap sLen sCap : Nat) (a : Addr) (cs : List Value)
    (hk : Nat.min sLen dLen = k) (hl : cs.length = k * size) (ho : oi + k ≤ n) (hsrc : ∀ j u, cs[j]? = some u → w.cell? (a.add j) = some u) (h1 : ∀ u ∈ cs, u.oneCell' = true) :
    (Builtin.copy_ #[dT, dT] ty #[.slice (some ⟨g, oi * size, none⟩) dLen dCap, .slice (some a) sLen sCap]).run P w = .ok (goInt k) (w.setCells g (oi * size) cs) ∧ (w.setCells g (oi * size) cs).ownsRow B e size (.slice (some ⟨g, 0, none⟩) n c) n (setL L (oi * size) cs) := by
  refine ⟨?_, own_setL cs w _ L h⟩
  obtain ⟨cur, hh, _, _, _, hsz, _⟩ := own_blk h
  have hle : oi * size + cs.length ≤ c * size := by
    rw [hl, ← Nat.add_mul]
    have hnc : n ≤ c := by obtain ⟨_, _, _, h2, _⟩ := own_blk h; exact h2
    exact Nat.mul_le_mul_right _ (by omega)
  have hst := run_storeCells_cells (P := P) g (oi * size) cs 0 w (fun j hj => by rw [cell_of hh, Array.getElem?_eq_getElem (by omega)]; rfl) (fun j _ => warm_of hh _) h1
  have hld := run_firstCells_some (P := P) w size k a sLen sCap cs hl hsrc
  simp only [Nat.add_zero] at hst
  cases hq : P.info? e with
  | none => simp [hq] at hi
  | some i =>
    have hi2 : i.size = size := by simpa [hq] using hi
    simp [Builtin.copy_, run_underlying hu, Builtin.lenOf, sizeOf, typeInfo, hq, hi2, hk, hld, hst]
/-- A row that has room, taken for one element longer. -/
theorem own_more (h : w.ownsRow B e size (.slice (some ⟨g, 0, none⟩) n c) n L) (hc : n + 1 ≤ c) : ∃ junk, junk.length = size ∧ w.ownsRow B e size (.slice (some ⟨g, 0, none⟩) (n + 1) c) (n + 1) (L ++ junk) := by
  obtain ⟨cur, hh, hB, _, hm, hsz, hL⟩ := own_blk h
  have hlen : n * size + size ≤ c * size := by
    have := Nat.mul_le_mul_right size hc
    rw [Nat.succ_mul] at this; exact this
  refine ⟨(cur.toList.drop (n * size)).take size, ?_, ?_, .inr ⟨g, c, cur, rfl, hB, hh, hc, hm, hsz, ?_⟩⟩
  · simp; omega
  · have := h.1
    rw [List.length_append, this, Nat.succ_mul]
    simp; omega
  · rw [Nat.succ_mul, List.take_add, hL]
end

theorem setL_off {s : Nat} (a b vs : List Value) (ha : a.length = s) (h : vs.length ≤ b.length) : setL (a ++ b) s vs = a ++ vs ++ b.drop vs.length := by subst ha; exact setL_mid vs a b h
theorem ins_core0 {a d junk ys : List Value} {p s : Nat} (ha : a.length = p) (hj : junk.length = s) (hy : ys.length = s) :
    setL (setL (a ++ (d ++ junk)) (p + s) d) p ys = a ++ (ys ++ d) := by
  obtain ⟨t, u, e, ht, hu⟩ : ∃ t u, d ++ junk = t ++ u ∧ t.length = s ∧ u.length = d.length := ⟨(d ++ junk).take s, (d ++ junk).drop s, (List.take_append_drop _ _).symm, by simp [hj], by simp [hj]⟩
  have h1 : u.drop d.length = [] := List.drop_eq_nil_of_le (by omega)
  rw [e, ← List.append_assoc, setL_off (a ++ t) u d (by simp [ha, ht]) (by omega), h1, List.append_nil, List.append_assoc, setL_off a (t ++ d) ys ha (by simp; omega), List.append_assoc]
  congr 2
  rw [List.drop_append_of_le_length (by omega), List.drop_eq_nil_of_le (by omega), List.nil_append]
theorem ins_core1 {a d zs ys : List Value} {p s : Nat} (ha : a.length = p) (hz : zs.length = d.length + s) (hy : ys.length = s) :
    setL (setL (a ++ zs) p ys) (p + s) d = a ++ (ys ++ d) := by
  have h1 : (zs.drop ys.length).drop d.length = [] := List.drop_eq_nil_of_le (by simp; omega)
  rw [setL_off a zs ys ha (by omega), setL_off (a ++ ys) _ d (by simp [ha, hy]) (by simp; omega), h1, List.append_nil, List.append_assoc]
theorem ins_core {p q s : Nat} {xs junk ys : List Value} (hx : xs.length = q) (hp : p ≤ q) (hj : junk.length = s) (hy : ys.length = s) :
    setL (setL (xs ++ junk) (p + s) (xs.drop p)) p ys = xs.take p ++ (ys ++ xs.drop p) := by
  have := ins_core0 (a := xs.take p) (d := xs.drop p) (p := p) (by simp; omega) hj hy
  rwa [← List.append_assoc, List.take_append_drop] at this
theorem ins_core2 {p q s : Nat} {xs zs ys : List Value} (hx : xs.length = q) (hp : p ≤ q) (hz : zs.length = q - p + s) (hy : ys.length = s) :
    setL (setL (xs.take p ++ zs) p ys) (p + s) (xs.drop p) = xs.take p ++ (ys ++ xs.drop p) :=
  ins_core1 (by simp; omega) (by simp; omega) hy
theorem ins_here {size n i : Nat} {xs junk ys : List Value} (hx : xs.length = n * size) (hi : i ≤ n) (hj : junk.length = size) (hy : ys.length = size) :
    setL (setL (xs ++ junk) ((i + 1) * size) (xs.drop (i * size))) (i * size) ys = xs.take (i * size) ++ (ys ++ xs.drop (i * size)) := by
  rw [Nat.succ_mul]
  exact ins_core hx (Nat.mul_le_mul_right _ hi) hj hy
theorem ins_new {size n i : Nat} {xs zs ys : List Value} (hx : xs.length = n * size) (hi : i ≤ n) (hz : zs.length = (n + 1 - i) * size) (hy : ys.length = size) :
    setL (setL (xs.take (i * size) ++ zs) (i * size) ys) ((i + 1) * size) (xs.drop (i * size)) = xs.take (i * size) ++ (ys ++ xs.drop (i * size)) := by
  rw [Nat.succ_mul]
  refine ins_core2 hx (Nat.mul_le_mul_right _ hi) ?_ hy
  rw [hz, show n + 1 - i = (n - i) + 1 by omega, Nat.succ_mul, Nat.sub_mul]
end Go.Proofs.YthjpknipnmagkaaGreat

/-
  Lists of accounts, and the statements' helper over them: SameAccounts.
-/
namespace Go.Proofs.YthjpknipnmagkaaGreat
open Go.RowKit

/-- An element. -/
structure Acc where
  code : Int
  kind : Int
  ret : Bool
deriving DecidableEq
def Acc.cells (a : Acc) : List Value := [.int .i64 a.code, .int .i64 a.kind, .bool a.ret]
def Acc.val (a : Acc) : Value := .agg #[.int .i64 a.code, .int .i64 a.kind, .bool a.ret]
def accs (l : List Acc) : List Value := l.flatMap Acc.cells
theorem accs_len : ∀ l : List Acc, (accs l).length = l.length * 3
  | [] => rfl
  | a :: l => by have := accs_len l; unfold accs at this ⊢; simp [Acc.cells, this]; omega
theorem accs_append (l m : List Acc) : accs (l ++ m) = accs l ++ accs m := by simp [accs]
theorem accs_at : ∀ (l : List Acc) (k : Nat) (a : Acc), l[k]? = some a → (accs l)[k * 3]? = some (.int .i64 a.code) ∧ (accs l)[k * 3 + 1]? = some (.int .i64 a.kind) ∧ (accs l)[k * 3 + 2]? = some (.bool a.ret)
  | [], k, a, h => by simp at h
  | b :: l, 0, a, h => by
    simp at h; subst h
    exact ⟨rfl, rfl, rfl⟩
  | b :: l, k + 1, a, h => by
    have := accs_at l k a (by simpa using h)
    unfold accs at this ⊢
    simp only [List.flatMap_cons, Acc.cells]
    rw [show (k + 1) * 3 = k * 3 + 3 by omega]
    simpa [List.getElem?_append_right] using this
theorem Rd.accs_len {w : World} {B n : Nat} {A : Option Addr} {l : List Acc} (h : Rd w B 3 A n (accs l)) : l.length = n := by
  have := h.1; rw [Go.Proofs.YthjpknipnmagkaaGreat.accs_len] at this; omega
theorem Rd.acc {w : World} {B n i : Nat} {A : Option Addr} {l : List Acc} (h : Rd w B 3 A n (accs l)) (hi : i < n) :
    ∃ ad a, A = some ad ∧ ad.block < B ∧ l[i]? = some a ∧ w.cell? (ad.add (i * 3)) = some (.int .i64 a.code) ∧ w.cell? (ad.add (i * 3 + 1)) = some (.int .i64 a.kind) ∧ w.cell? (ad.add (i * 3 + 2)) = some (.bool a.ret) := by
  obtain ⟨ad, e, hb, hc⟩ := h.2 (by omega)
  have hl := h.accs_len
  have hg : l[i]? = some l[i] := List.getElem?_eq_getElem (by omega)
  obtain ⟨h1, h2, h3⟩ := accs_at l i _ hg
  exact ⟨ad, _, e, hb, hg, hc _ _ h1, hc _ _ h2, hc _ _ h3⟩

theorem infoAcc : (Tryz.prog.info? 158).map (fun i => (i.zero, i.size, i.bytes)) = some (some (.agg #[.int .i64 0, .int .i64 0, .bool false]), 3, 24) := by kernel_rfl
theorem acc_step {l m : List Acc} {k : Nat} (hk : k < l.length ∧ k < m.length) (h1 : l.take k = m.take k) (h2 : l[k]? = m[k]?) : l.take (k + 1) = m.take (k + 1) := by
  rw [List.take_succ_eq_append_getElem hk.1, List.take_succ_eq_append_getElem hk.2, h1]
  rw [List.getElem?_eq_getElem hk.1, List.getElem?_eq_getElem hk.2] at h2
  injection h2 with h2
  rw [h2]

set_option maxRecDepth 100000 in
set_option maxHeartbeats 400000 in
theorem sameAccounts_any (l m : List Acc) (A1 A2 : Option Addr) (n1 n2 c1 c2 B1 B2 : Nat) (w : World) (h1 : Rd w B1 3 A1 n1 (accs l)) (h2 : Rd w B2 3 A2 n2 (accs m)) (hn1 : n1 ≤ 1000000) (hn2 : n2 ≤ 1000000) :
    Calls Tryz.prog 138 #[.slice A1 n1 c1, .slice A2 n2 c2] w fun e w' => e = .returned (.bool (l == m)) ∧ Drew w w' := by
  have L1 := Lib.hid h1.accs_len
  have L2 := Lib.hid h2.accs_len
  by_cases hne : n1 = n2
  · subst hne
    have t1 : ((n1 : Int) != (n1 : Int)) = false := by simp
    go_enter Tryz.func138, Tryz.ntmps138
    go_wp2_with fail
    go_loopw [5] (fun i wr => ∃ k : Nat, k ≤ n1 ∧ i = .int .i64 k ∧ Hid (l.take k = m.take k) ∧ Drew w wr) (fun i _ => n1 - (intOf i).toNat)
    case atStart => exact ⟨0, Nat.zero_le _, rfl, by simp [Hid], Drew.refl _⟩
    case round =>
      obtain ⟨k, hk, rfl, hs, q, rfl⟩ := hrel
      by_cases hlt : k < n1
      · obtain ⟨a1, x, rfl, hb1, hx, p1, p2, p3⟩ := h1.acc hlt
        obtain ⟨a2, y, rfl, hb2, hy, r1, r2, r3⟩ := h2.acc hlt
        have hkn : (k : Int) < (n1 : Int) := by omega
        have p2' := cell_behind p2 (by omega)
        have p3' := cell_behind p3 (by omega)
        have r2' := cell_behind r2 (by omega)
        have r3' := cell_behind r3 (by omega)
        have HX : Hid (x = y → l.take (k + 1) = m.take (k + 1)) := fun h => acc_step (by have := L1.out; have := L2.out; omega) hs.out (by rw [hx, hy, h])
        have HY : Hid (x ≠ y → (l == m) = false) := by
          intro h
          rw [beq_eq_false_iff_ne]
          intro e
          rw [e, hy] at hx
          exact h (by injection hx with hx; exact hx.symm)
        clear hx hy p2 p3 r2 r3
        obtain ⟨x1, x2, x3⟩ := x
        obtain ⟨y1, y2, y3⟩ := y
        by_cases e1 : x1 = y1
        · subst e1
          by_cases e2 : x2 = y2
          · subst e2
            by_cases e3 : x3 = y3
            · subst e3
              go_wp2_with fail
              go_big_quiet (fail)
              go_wp2
              exact ⟨⟨k + 1, by omega, by go_num, HX.out (by first | rfl | trivial), Drew.add _ _⟩, by simp [intOf]; omega⟩
            · skip
              go_wp2_with fail
              go_big_quiet (fail)
              go_wp2
              go_ret
              exact ⟨ret_bool (HY.out (by simp [e3])).symm, ⟨_, World.drewN_drewN _ _ _⟩⟩
          · skip
            go_wp2_with fail
            go_big_quiet (fail)
            go_wp2
            go_ret
            exact ⟨ret_bool (HY.out (by simp [e2])).symm, ⟨_, World.drewN_drewN _ _ _⟩⟩
        · skip
          go_wp2_with fail
          go_big_quiet (fail)
          go_wp2
          go_ret
          exact ⟨ret_bool (HY.out (by simp [e1])).symm, ⟨_, World.drewN_drewN _ _ _⟩⟩
      · go_wp2
        go_ret
        refine ⟨ret_bool ?_, _, rfl⟩
        have := hs.out
        rw [List.take_of_length_le (by have := L1.out; omega), List.take_of_length_le (by have := L2.out; omega)] at this
        rw [this]; simp
  · have t1 : ((n1 : Int) != (n2 : Int)) = true := by rw [bne_iff_ne]; omega
    have HN := Lib.hid hne
    clear hne
    go_enter Tryz.func138, Tryz.ntmps138
    go_wp2
    go_ret
    refine ⟨ret_bool ?_, Drew.refl _⟩
    symm
    rw [beq_eq_false_iff_ne]
    intro e
    have := L1.out; have := L2.out
    rw [e] at *
    have := HN.out; omega
end Go.Proofs.YthjpknipnmagkaaGreat
