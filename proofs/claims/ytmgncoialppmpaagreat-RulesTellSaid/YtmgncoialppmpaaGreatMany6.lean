/-
  Several texts, one behind the other: what each holds stands ahead of it.
-/
import Derived.Test.YtmgncoialppmpaaGreatMany2
import Derived.Lib.Overlaps
import Derived.Lib.AppendZerosOnto
import Derived.Laws.IdiomCopy
import Derived.Test.YtmgncoialppmpaaGreatMany4
import Derived.Test.YtmgncoialppmpaaGreatMany5

/-
  What stays where some blocks are written. No code.
-/
namespace Go.Proofs.YtmgncoialppmpaaGreat
open Go.RowKit

/-- All blocks but those of S stay. -/
structure But (S : Nat → Prop) (w w' : World) : Prop where
  os : w'.os = w.os
  tape : w'.tape = w.tape
  output : w'.output = w.output
  size : w.heap.size ≤ w'.heap.size
  block : ∀ k, k < w.heap.size → ¬ S k → w'.heap[k]? = w.heap[k]?
theorem But.refl (S : Nat → Prop) (w : World) : But S w w := ⟨rfl, rfl, rfl, Nat.le_refl _, fun _ _ _ => rfl⟩
theorem But.trans {S : Nat → Prop} {a b c : World} (h : But S a b) (k : But S b c) : But S a c :=
  ⟨k.os.trans h.os, k.tape.trans h.tape, k.output.trans h.output, Nat.le_trans h.size k.size, fun i hi hs => (k.block i (Nat.lt_of_lt_of_le hi h.size) hs).trans (h.block i hi hs)⟩
theorem But.wide {S T : Nat → Prop} {a b : World} (h : But S a b) (hs : ∀ k, k < a.heap.size → S k → T k) : But T a b := ⟨h.os, h.tape, h.output, h.size, fun i hi ht => h.block i hi fun hx => ht (hs i hi hx)⟩
theorem But.of_below {S : Nat → Prop} {a b : World} (h : Below a.heap.size a b) : But S a b := ⟨h.os, h.tape, h.output, h.size, fun i hi _ => h.block i hi⟩
theorem But.below {S : Nat → Prop} {a b : World} {B : Nat} (h : But S a b) (hs : ∀ k, k < a.heap.size → S k → B ≤ k) (hB : B ≤ a.heap.size) : Below B a b :=
  ⟨h.os, h.tape, h.output, h.size, fun i hi => h.block i (Nat.lt_of_lt_of_le hi hB) fun hx => by have := hs i (Nat.lt_of_lt_of_le hi hB) hx; omega⟩
/-- Of two ways one behind the other, the second of which writes blocks of its own beside. -/
theorem But.more {S T : Nat → Prop} {a b c : World} (h : But S a b) (k : But T b c) (hs : ∀ i, i < a.heap.size → T i → S i) : But S a c :=
  ⟨k.os.trans h.os, k.tape.trans h.tape, k.output.trans h.output, Nat.le_trans h.size k.size, fun i hi hn => (k.block i (Nat.lt_of_lt_of_le hi h.size) fun hx => hn (hs i hi hx)).trans (h.block i hi hn)⟩
theorem But.of_grown {a b : World} {row : Option Nat} (h : a.grownBy b row) : But (fun k => row = some k) a b := ⟨h.os, h.tape, h.output, h.size, fun i hi hn => h.block i hi fun e => hn e.symm⟩
end Go.Proofs.YtmgncoialppmpaaGreat

/-
  What slices.Insert does with a row of one's own: copies within a row, a row that is opened by one element. No code.
-/
namespace Go.Proofs.YtmgncoialppmpaaGreat
open Go.RowKit

theorem step_copy_run {P : Program} {w : World} {ops : Array Oper} {o : Oper} {a : Act} {K : Act → World → Prop} {Q : Exit → Act → World → Prop} {E : Prop} (hgd : o.guard = none) (d s : Operand) (t t' : TypeId)
    (ho : o.op = .call { callee := .builtin .copy, args := #[d, s], argTypes := #[t, t'] }) (vd vs v' : Value) (w' : World) (hd : a.eval d = vd) (hs : a.eval s = vs)
    (hrun : (Builtin.copy_ #[t, t'] o.type #[vd, vs]).run P w = .ok v' w') (h : K (a.put o.dst v') w') : if Region.wanted o (yielded ops a.tmps) = true then Oper.wp P o a w K Q else E := by
  have hw : Region.wanted o (yielded ops a.tmps) = true := by simp [Region.wanted, hgd]
  rw [if_pos hw]
  unfold Oper.wp execOp
  simp only [ho, resolve, invoke, builtin, Sem.run_bind, Sem.run_pure, Result.andThen_ok, List.map_toArray, List.map_cons, List.map_nil, hd, hs, hrun]
  exact h
theorem wpList_copy_run1 {P : Program} {w : World} {ops : Array Oper} {rest : List Oper} {o : Oper} {a : Act} {Q : Exit → Act → World → Prop} (hgd : o.guard = none) (d s : Operand) (t t' : TypeId)
    (ho : o.op = .call { callee := .builtin .copy, args := #[d, s], argTypes := #[t, t'] }) (vd vs v' : Value) (w' : World) (hd : a.eval d = vd) (hs : a.eval s = vs)
    (hrun : (Builtin.copy_ #[t, t'] o.type #[vd, vs]).run P w = .ok v' w') (h : wpList P ops Q rest (a.put o.dst v') w') : wpList P ops Q (o :: rest) a w :=
  wpList_plain hgd fun _ hK => by
    unfold Oper.wp execOp
    simp only [ho, resolve, invoke, builtin, Sem.run_bind, Sem.run_pure, Result.andThen_ok, List.map_toArray, List.map_cons, List.map_nil, hd, hs, hrun]
    exact hK _ _ h
theorem wpList_append_run2 {P : Program} {w : World} {ops : Array Oper} {rest : List Oper} {o : Oper} {a : Act} {Q : Exit → Act → World → Prop} (hgd : o.guard = none) (s x : Operand) (t t' : TypeId)
    (ho : o.op = .call { callee := .builtin .append, args := #[s, x], argTypes := #[t, t'] }) (vs vx v' : Value) (w' : World) (hs : a.eval s = vs) (hx : a.eval x = vx)
    (hrun : (Builtin.append_ #[t, t'] o.type #[vs, vx]).run P w = .ok v' w') (h : wpList P ops Q rest (a.put o.dst v') w') : wpList P ops Q (o :: rest) a w :=
  wpList_plain hgd fun _ hK => by
    unfold Oper.wp execOp
    simp only [ho, resolve, invoke, builtin, Sem.run_bind, Sem.run_pure, Result.andThen_ok, List.map_toArray, List.map_cons, List.map_nil, hs, hx, hrun]
    exact hK _ _ h

section
variable {P : Program} {w : World} {B g n c size : Nat} {e : TypeId} {L : List Value}
theorem own_blk (h : w.ownsRow B e size (.slice (some ⟨g, 0, none⟩) n c) n L) : ∃ cur, w.heap[g]? = some (.cells cur e (0, 0)) ∧ B ≤ g ∧ n ≤ c ∧ c ≤ maxLen ∧ cur.size = c * size ∧ cur.toList.take (n * size) = L := by
  rcases h.2 with ⟨h1, _⟩ | ⟨g', cap', cur, h1, hB, hh, r⟩
  · cases h1
  · injection h1 with h1 _ hc
    injection h1 with h1
    injection h1 with h1
    subst h1 hc
    exact ⟨cur, hh, hB, r⟩
/-- copy into a row of one's own, from wherever, where all of it fits. -/
theorem copy_own (h : w.ownsRow B e size (.slice (some ⟨g, 0, none⟩) n c) n L) {dT ty : TypeId} (hu : P.underlying dT = some (.slice e)) (hi : (P.info? e).map (·.size) = some size) (oi k dLen dCap sLen sCap : Nat) (a : Addr) (cs : List Value)
    (hk : Nat.min sLen dLen = k) (hl : cs.length = k * size) (ho : oi + k ≤ n) (hsrc : ∀ j u, cs[j]? = some u → w.cell? (a.add j) = some u) (h1 : ∀ u ∈ cs, u.oneCell' = true) :
    (Builtin.copy_ #[dT, dT] ty #[.slice (some ⟨g, oi * size, none⟩) dLen dCap, .slice (some a) sLen sCap]).run P w = .ok (goInt k) (w.setCells g (oi * size) cs) ∧ (w.setCells g (oi * size) cs).ownsRow B e size (.slice (some ⟨g, 0, none⟩) n c) n (setL L (oi * size) cs) := by
  refine ⟨?_, own_setL cs w _ L h⟩
  obtain ⟨cur, hh, _, _, _, hsz, _⟩ := own_blk h
  have hle : oi * size + cs.length ≤ c * size := by
    rw [hl, ← Nat.add_mul]
    have hnc : n ≤ c := by obtain ⟨_, _, _, h2, _⟩ := own_blk h; exact h2
    exact Nat.mul_le_mul_right _ (by omega)
  have hst := run_storeCells_cells (P := P) g (oi * size) cs 0 w (fun j hj => by rw [cell_of hh, Array.getElem?_eq_getElem (by omega)]; rfl) (fun j _ => warm_of hh _) h1
  have hld := run_firstCells_some (P := P) w size k a sLen sCap cs hl hsrc
  simp only [Nat.add_zero] at hst
  cases hq : P.info? e with
  | none => simp [hq] at hi
  | some i =>
    have hi2 : i.size = size := by simpa [hq] using hi
    simp [Builtin.copy_, run_underlying hu, Builtin.lenOf, sizeOf, typeInfo, hq, hi2, hk, hld, hst]
/-- A row that has room, taken for one element longer. -/
theorem own_more (h : w.ownsRow B e size (.slice (some ⟨g, 0, none⟩) n c) n L) (hc : n + 1 ≤ c) : ∃ junk, junk.length = size ∧ w.ownsRow B e size (.slice (some ⟨g, 0, none⟩) (n + 1) c) (n + 1) (L ++ junk) := by
  obtain ⟨cur, hh, hB, _, hm, hsz, hL⟩ := own_blk h
  have hlen : n * size + size ≤ c * size := by
    have := Nat.mul_le_mul_right size hc
    rw [Nat.succ_mul] at this; exact this
  refine ⟨(cur.toList.drop (n * size)).take size, ?_, ?_, .inr ⟨g, c, cur, rfl, hB, hh, hc, hm, hsz, ?_⟩⟩
  · simp; omega
  · have := h.1
    rw [List.length_append, this, Nat.succ_mul]
    simp; omega
  · rw [Nat.succ_mul, List.take_add, hL]
end

theorem setL_off {s : Nat} (a b vs : List Value) (ha : a.length = s) (h : vs.length ≤ b.length) : setL (a ++ b) s vs = a ++ vs ++ b.drop vs.length := by subst ha; exact setL_mid vs a b h
theorem ins_core0 {a d junk ys : List Value} {p s : Nat} (ha : a.length = p) (hj : junk.length = s) (hy : ys.length = s) :
    setL (setL (a ++ (d ++ junk)) (p + s) d) p ys = a ++ (ys ++ d) := by
  obtain ⟨t, u, e, ht, hu⟩ : ∃ t u, d ++ junk = t ++ u ∧ t.length = s ∧ u.length = d.length := ⟨(d ++ junk).take s, (d ++ junk).drop s, (List.take_append_drop _ _).symm, by simp [hj], by simp [hj]⟩
  have h1 : u.drop d.length = [] := List.drop_eq_nil_of_le (by omega)
  rw [e, ← List.append_assoc, setL_off (a ++ t) u d (by simp [ha, ht]) (by omega), h1, List.append_nil, List.append_assoc, setL_off a (t ++ d) ys ha (by simp; omega), List.append_assoc]
  congr 2
  rw [List.drop_append_of_le_length (by omega), List.drop_eq_nil_of_le (by omega), List.nil_append]
theorem ins_core1 {a d zs ys : List Value} {p s : Nat} (ha : a.length = p) (hz : zs.length = d.length + s) (hy : ys.length = s) :
    setL (setL (a ++ zs) p ys) (p + s) d = a ++ (ys ++ d) := by
  have h1 : (zs.drop ys.length).drop d.length = [] := List.drop_eq_nil_of_le (by simp; omega)
  rw [setL_off a zs ys ha (by omega), setL_off (a ++ ys) _ d (by simp [ha, hy]) (by simp; omega), h1, List.append_nil, List.append_assoc]
theorem ins_core {p q s : Nat} {xs junk ys : List Value} (hx : xs.length = q) (hp : p ≤ q) (hj : junk.length = s) (hy : ys.length = s) :
    setL (setL (xs ++ junk) (p + s) (xs.drop p)) p ys = xs.take p ++ (ys ++ xs.drop p) := by
  have := ins_core0 (a := xs.take p) (d := xs.drop p) (p := p) (by simp; omega) hj hy
  rwa [← List.append_assoc, List.take_append_drop] at this
theorem ins_core2 {p q s : Nat} {xs zs ys : List Value} (hx : xs.length = q) (hp : p ≤ q) (hz : zs.length = q - p + s) (hy : ys.length = s) :
    setL (setL (xs.take p ++ zs) p ys) (p + s) (xs.drop p) = xs.take p ++ (ys ++ xs.drop p) :=
  ins_core1 (by simp; omega) (by simp; omega) hy
theorem ins_here {size n i : Nat} {xs junk ys : List Value} (hx : xs.length = n * size) (hi : i ≤ n) (hj : junk.length = size) (hy : ys.length = size) :
    setL (setL (xs ++ junk) ((i + 1) * size) (xs.drop (i * size))) (i * size) ys = xs.take (i * size) ++ (ys ++ xs.drop (i * size)) := by
  rw [Nat.succ_mul]
  exact ins_core hx (Nat.mul_le_mul_right _ hi) hj hy
theorem ins_new {size n i : Nat} {xs zs ys : List Value} (hx : xs.length = n * size) (hi : i ≤ n) (hz : zs.length = (n + 1 - i) * size) (hy : ys.length = size) :
    setL (setL (xs.take (i * size) ++ zs) (i * size) ys) ((i + 1) * size) (xs.drop (i * size)) = xs.take (i * size) ++ (ys ++ xs.drop (i * size)) := by
  rw [Nat.succ_mul]
  refine ins_core2 hx (Nat.mul_le_mul_right _ hi) ?_ hy
  rw [hz, show n + 1 - i = (n - i) + 1 by omega, Nat.succ_mul, Nat.sub_mul]
end Go.Proofs.YtmgncoialppmpaaGreat

/-
  Journals as rows of a list, their lines elsewhere; a book in memory; what its calls answer. No code.
-/
namespace Go.Proofs.YtmgncoialppmpaaGreat
open Go.RowKit

/-- A journal as a row: its lines lie at A. -/
structure JR where
  j : Jrn
  A : Option Addr
  c : Nat
def JR.lv (a : JR) : Value := .slice a.A a.j.lines.length a.c
def JR.val (a : JR) : Value := a.j.val a.A a.j.lines.length a.c
def JR.id (a : JR) : Int := a.j.id
def JR.cells (a : JR) : List Value := [.int .i64 a.j.id, .int .i64 a.j.ent, .int .i64 a.j.per, .string a.j.ref, .slice a.A a.j.lines.length a.c, .bool a.j.void]
def jrs (l : List JR) : List Value := l.flatMap JR.cells
theorem jrs_len : ∀ l : List JR, (jrs l).length = l.length * 6
  | [] => rfl
  | a :: l => by have := jrs_len l; unfold jrs at this ⊢; simp [JR.cells, this]; omega
theorem jrs_append (l m : List JR) : jrs (l ++ m) = jrs l ++ jrs m := by simp [jrs]
theorem jrs_at : ∀ (l : List JR) (k : Nat) (a : JR), l[k]? = some a → ∀ i u, a.cells[i]? = some u → (jrs l)[k * 6 + i]? = some u
  | [], k, a, h, _, _, _ => by simp at h
  | b :: l, 0, a, h, i, u, hu => by
    simp at h; subst h
    have hi : i < b.cells.length := (List.getElem?_eq_some_iff.1 hu).1
    unfold jrs
    rw [List.flatMap_cons, Nat.zero_mul, Nat.zero_add, List.getElem?_append_left hi]
    exact hu
  | b :: l, k + 1, a, h, i, u, hu => by
    have := jrs_at l k a (by simpa using h) i u hu
    unfold jrs at this ⊢
    rw [List.flatMap_cons, show (k + 1) * 6 + i = b.cells.length + (k * 6 + i) by simp [JR.cells]; omega, List.getElem?_append_right (by omega), Nat.add_sub_cancel_left]
    exact this
theorem Rd.jrs_len {w : World} {B n : Nat} {A : Option Addr} {l : List JR} (h : Rd w B 6 A n (jrs l)) : l.length = n := by
  have := h.1; rw [Go.Proofs.YtmgncoialppmpaaGreat.jrs_len] at this; omega
/-- A row of a list that can be read, as a walk spells its cells. -/
theorem Rd.jr {w : World} {B n i : Nat} {A : Option Addr} {l : List JR} (h : Rd w B 6 A n (jrs l)) (hi : i < n) :
    ∃ ad a, A = some ad ∧ ad.block < B ∧ l[i]? = some a ∧ w.cell? (ad.add (i * 6)) = some (.int .i64 a.j.id) ∧ w.cell? ⟨(ad.add (i * 6)).block, (ad.add (i * 6)).off + 1, none⟩ = some (.int .i64 a.j.ent) ∧ w.cell? ⟨(ad.add (i * 6)).block, (ad.add (i * 6)).off + 2, none⟩ = some (.int .i64 a.j.per) ∧
      w.cell? ⟨(ad.add (i * 6)).block, (ad.add (i * 6)).off + 3, none⟩ = some (.string a.j.ref) ∧ w.cell? ⟨(ad.add (i * 6)).block, (ad.add (i * 6)).off + 4, none⟩ = some (.slice a.A a.j.lines.length a.c) ∧ w.cell? ⟨(ad.add (i * 6)).block, (ad.add (i * 6)).off + 5, none⟩ = some (.bool a.j.void) := by
  obtain ⟨ad, e, hb, hc⟩ := h.2 (by omega)
  have hl := h.jrs_len
  have hg : l[i]? = some l[i] := List.getElem?_eq_getElem (by omega)
  have hk := fun k u hu => hc _ _ (jrs_at l i _ hg k u hu)
  exact ⟨ad, _, e, hb, hg, hk 0 _ rfl, cell_behind (hk 1 _ rfl) (by omega), cell_behind (hk 2 _ rfl) (by omega), cell_behind (hk 3 _ rfl) (by omega), cell_behind (hk 4 _ rfl) (by omega), cell_behind (hk 5 _ rfl) (by omega)⟩
theorem infoJrn : (Tryz.prog.info? 29).map (fun i => (i.zero, i.size, i.bytes)) = some (some (.agg #[.int .i64 0, .int .i64 0, .int .i64 0, .string ⟨#[]⟩, .slice none 0 0, .bool false]), 6, 72) := by kernel_rfl
theorem cells_oneJ (a : JR) : ∀ u ∈ a.cells, u.oneCell' = true := by
  intro u hu
  simp [JR.cells] at hu
  rcases hu with rfl | rfl | rfl | rfl | rfl | rfl <;> rfl
theorem jrs_one (l : List JR) : ∀ u ∈ jrs l, u.oneCell' = true := by
  intro u hu
  obtain ⟨a, _, hu⟩ := List.mem_flatMap.1 hu
  exact cells_oneJ a u hu
theorem jrs_take : ∀ (l : List JR) (i : Nat), (jrs l).take (i * 6) = jrs (l.take i)
  | [], i => by simp [jrs]
  | a :: l, 0 => by simp [jrs]
  | a :: l, i + 1 => by
    have := jrs_take l i
    unfold jrs at this ⊢
    rw [List.take_succ_cons, List.flatMap_cons, List.flatMap_cons, ← this, show (i + 1) * 6 = (JR.cells a).length + i * 6 by simp [JR.cells]; omega, List.take_length_add_append]
theorem jrs_drop : ∀ (l : List JR) (i : Nat), (jrs l).drop (i * 6) = jrs (l.drop i)
  | [], i => by simp [jrs]
  | a :: l, 0 => by simp [jrs]
  | a :: l, i + 1 => by
    have := jrs_drop l i
    unfold jrs at this ⊢
    rw [List.drop_succ_cons, List.flatMap_cons, ← this, show (i + 1) * 6 = (JR.cells a).length + i * 6 by simp [JR.cells]; omega, List.drop_length_add_append]
theorem jrs_ins (l : List JR) (i : Nat) (a : JR) : jrs (l.take i ++ a :: l.drop i) = (jrs l).take (i * 6) ++ (a.cells ++ (jrs l).drop (i * 6)) := by
  rw [jrs_take, jrs_drop, jrs_append]
  rfl
theorem cons_form {l : List JR} {p : Nat} {a : JR} (h : l[p]? = some a) : l = l.take p ++ a :: l.drop (p + 1) := by
  have hl := (List.getElem?_eq_some_iff.1 h).1
  have he : l[p] = a := by rw [List.getElem?_eq_getElem hl] at h; injection h
  conv => lhs; rw [← List.take_append_drop p l, List.drop_eq_getElem_cons hl, he]
/-- A row that gets another one's cells. -/
theorem jrs_setAll {l : List JR} {p : Nat} {a : JR} (b : JR) (h : l[p]? = some a) : setL (jrs l) (p * 6) b.cells = jrs (l.set p b) := by
  have hl := (List.getElem?_eq_some_iff.1 h).1
  have e1 : jrs l = jrs (l.take p) ++ (a.cells ++ jrs (l.drop (p + 1))) := by
    conv => lhs; rw [cons_form h]
    rw [jrs_append]; rfl
  have hlen : (jrs (l.take p)).length = p * 6 := by rw [jrs_len]; simp; omega
  rw [e1, setL_off (jrs (l.take p)) (a.cells ++ jrs (l.drop (p + 1))) b.cells hlen (by simp [JR.cells]), List.set_eq_take_append_cons_drop, if_pos hl, jrs_append, List.append_assoc]
  congr 1
theorem jrs_setVoid {l : List JR} {p : Nat} {a : JR} (x : Bool) (h : l[p]? = some a) : (jrs l).set (p * 6 + 5) (.bool x) = jrs (l.set p ⟨{ a.j with void := x }, a.A, a.c⟩) := by
  have hl := (List.getElem?_eq_some_iff.1 h).1
  have e1 : jrs l = jrs (l.take p) ++ (a.cells ++ jrs (l.drop (p + 1))) := by
    conv => lhs; rw [cons_form h]
    rw [jrs_append]; rfl
  have hlen : (jrs (l.take p)).length = p * 6 := by rw [jrs_len]; simp; omega
  have e2 : ∀ b : JR, l.set p b = l.take p ++ b :: l.drop (p + 1) := fun b => by rw [List.set_eq_take_append_cons_drop, if_pos hl]
  rw [e1, List.set_append_right _ _ (by omega), hlen, e2, jrs_append]
  congr 1
  rw [show p * 6 + 5 - p * 6 = 5 by omega]
  rfl

/-- A book: its variable, its rows in a row of its own, their lines in rows of their own. -/
structure TomeAt (w : World) (B c : Nat) (v : Value) (l : List JR) : Prop where
  blk : w.heap[c]? = some (.cells #[v] 147 (0, 0))
  low : B ≤ c
  own : w.ownsRow B 29 6 v l.length (jrs l)
  lines : ∀ a ∈ l, w.ownsRow B 64 3 a.lv a.j.lines.length (lins a.j.lines)
  rise : Rise JR.id l
  len : l.length ≤ 200
  ok : ∀ a ∈ l, checkE a.j = 0
/-- The blocks of a book. -/
def InTome (c : Nat) (v : Value) (l : List JR) (k : Nat) : Prop := k = c ∨ v.ownBlock = some k ∨ ∃ a ∈ l, a.lv.ownBlock = some k
section
variable {w w' : World} {B c : Nat} {v : Value} {l : List JR}
theorem TomeAt.cell (h : TomeAt w B c v l) : w.cell? ⟨c, 0, none⟩ = some v := by rw [cell_of h.blk]; rfl
theorem TomeAt.warm (h : TomeAt w B c v l) : w.frozen? ⟨c, 0, none⟩ = false := warm_of h.blk 0
theorem TomeAt.lt (h : TomeAt w B c v l) : c < w.heap.size := lt_of_blk h.blk
theorem TomeAt.kept (h : TomeAt w B c v l) (hk : ∀ k, k < w.heap.size → InTome c v l k → w'.heap[k]? = w.heap[k]?) : TomeAt w' B c v l :=
  ⟨(hk c h.lt (.inl rfl)).trans h.blk, h.low, own_kept h.own fun k hk1 hk2 => hk k hk1 (.inr (.inl hk2)), fun a ha => own_kept (h.lines a ha) fun k hk1 hk2 => hk k hk1 (.inr (.inr ⟨a, ha, hk2⟩)), h.rise, h.len, h.ok⟩
theorem TomeAt.below (h : TomeAt w B c v l) (hb : Below w.heap.size w w') : TomeAt w' B c v l := h.kept fun k hk _ => hb.block k hk
theorem TomeAt.but {S : Nat → Prop} (h : TomeAt w B c v l) (hb : But S w w') (hs : ∀ k, InTome c v l k → ¬ S k) : TomeAt w' B c v l := h.kept fun k hk hi => hb.block k hk (hs k hi)
theorem TomeAt.form (h : TomeAt w B c v l) : ∃ A cap, v = .slice A l.length cap := own_form h.own
theorem TomeAt.ge (h : TomeAt w B c v l) : ∀ k, InTome c v l k → B ≤ k := by
  rintro k (rfl | hk | ⟨a, ha, hk⟩)
  · exact h.low
  · exact own_ge h.own k hk
  · exact own_ge (h.lines a ha) k hk
theorem TomeAt.ltB (h : TomeAt w B c v l) : ∀ k, InTome c v l k → k < w.heap.size := by
  rintro k (rfl | hk | ⟨a, ha, hk⟩)
  · exact h.lt
  · exact own_lt h.own k hk
  · exact own_lt (h.lines a ha) k hk
theorem TomeAt.apart (h : TomeAt w B c v l) : v.ownBlock ≠ some c := own_ne h.own h.blk (by decide)
theorem TomeAt.apartL (h : TomeAt w B c v l) {a : JR} (ha : a ∈ l) : a.lv.ownBlock ≠ some c := own_ne (h.lines a ha) h.blk (by decide)
theorem TomeAt.apartR (h : TomeAt w B c v l) {a : JR} (ha : a ∈ l) : ∀ k, v.ownBlock = some k → a.lv.ownBlock ≠ some k := own_own_ne h.own (h.lines a ha) (by decide)
theorem TomeAt.rd (h : TomeAt w B c v l) {a : JR} (ha : a ∈ l) : Rd w w.heap.size 3 a.A a.j.lines.length (lins a.j.lines) := rd_of_own (h.lines a ha)
theorem checkE_len {j : Jrn} (h : checkE j = 0) : j.lines.length ≤ 8 ∧ 1 ≤ j.id ∧ j.id ≤ 999999 ∧ j.ref.size ≤ 8 := by
  unfold checkE at h
  split at h
  · rename_i h1
    rw [Bool.and_eq_true] at h1
    obtain ⟨h2, h3⟩ := h1
    have h4 := linesOk_len h3
    unfold frontOk refOk at h2
    simp only [Bool.and_eq_true] at h2
    have h5 := inB_iff.1 h2.1.1.1
    have h6 : j.ref.data.toList.length ≤ 8 := by simpa using h2.2.1
    rw [Array.length_toList] at h6
    exact ⟨h4.2, h5.1, h5.2, h6⟩
  · omega
/-- A row at a place, as a walk reads it. -/
theorem TomeAt.at {p : Nat} {a : JR} (h : TomeAt w B c v l) (hp : l[p]? = some a) : ∃ g cap, v = .slice (some ⟨g, 0, none⟩) l.length cap ∧ p < l.length ∧ g < w.heap.size ∧ B ≤ g ∧ (∀ i u, a.cells[i]? = some u → w.cell? ⟨g, p * 6 + i, none⟩ = some u) ∧ ∀ j, w.frozen? ⟨g, j, none⟩ = false := by
  have hl := (List.getElem?_eq_some_iff.1 hp).1
  rcases h.own.2 with ⟨_, h1⟩ | ⟨g, cap, cur, rfl, hB, hh, _⟩
  · omega
  · exact ⟨g, cap, rfl, hl, lt_of_blk hh, hB, fun i u hu => own_cell h.own (jrs_at l p a hp i u hu), fun j => warm_of hh j⟩
end
/-- A book that was v, l, and has become M. -/
def TomeTo (w : World) (B c : Nat) (v : Value) (l : List JR) (M : List Jrn) (w' : World) : Prop :=
  ∃ v' l', TomeAt w' B c v' l' ∧ l'.map JR.j = M ∧ But (fun k => k = c ∨ v.ownBlock = some k) w w' ∧ ∀ k, InTome c v' l' k → InTome c v l k ∨ w.heap.size ≤ k
theorem TomeTo.same {w w' : World} {B c : Nat} {v : Value} {l : List JR} (h : TomeAt w B c v l) (hb : Below w.heap.size w w') : TomeTo w B c v l (l.map JR.j) w' :=
  ⟨v, l, h.below hb, rfl, But.of_below hb, fun _ hk => .inl hk⟩
theorem TomeTo.on {w w1 w' : World} {B c : Nat} {v : Value} {l : List JR} {M : List Jrn} (hb : Below w.heap.size w w1) (h : TomeTo w1 B c v l M w') : TomeTo w B c v l M w' := by
  obtain ⟨v', l', h1, h2, h3, h4⟩ := h
  refine ⟨v', l', h1, h2, (But.of_below hb).trans h3, fun k hk => ?_⟩
  rcases h4 k hk with h | h
  · exact .inl h
  · exact .inr (Nat.le_trans hb.size h)
/-- A zero book. -/
theorem tome_new (w : World) : TomeAt (w.alloc (.cells #[.slice none 0 0] 147)) w.heap.size w.heap.size (.slice none 0 0) [] :=
  ⟨heap_new _ _, Nat.le_refl _, World.ownsRow_nil _ _ _ _, by simp, Rise.nil, by simp, by simp⟩
/-- A book, and all that was there ahead of it as it was. -/
def TomeOn (B : Nat) (w : World) (c : Nat) (M : List Jrn) (w' : World) : Prop := ∃ v l, TomeAt w' B c v l ∧ l.map JR.j = M ∧ Below B w w'
theorem TomeOn.set {B c : Nat} {w w1 w2 : World} {v : Value} {l : List JR} {M : List Jrn} (hw : B ≤ w1.heap.size) (h : TomeAt w1 B c v l) (hb : Below B w w1) (ht : TomeTo w1 B c v l M w2) : TomeOn B w c M w2 := by
  obtain ⟨v', l', h1, h2, h3, _⟩ := ht
  exact ⟨v', l', h1, h2, hb.trans (h3.below (fun k _ hk => h.ge k (hk.elim .inl fun e => .inr (.inl e))) hw)⟩
theorem TomeOn.same {B c : Nat} {w w1 w2 : World} {v : Value} {l : List JR} (hw : B ≤ w1.heap.size) (h : TomeAt w1 B c v l) (hb : Below B w w1) (hb2 : Below w1.heap.size w1 w2) : TomeOn B w c (l.map JR.j) w2 :=
  ⟨v, l, h.below hb2, rfl, hb.trans (hb2.mono hw)⟩

/-- What a book's calls answer. -/
def holdsRef (s : ByteArray) (b : Jrn) : Bool := !(s.toList == []) && !b.void && (b.ref.toList == s.toList)
def leavesRef (c b : Jrn) : Bool := c.void || b.id == c.id || !(b.ent == c.ent) || !holdsRef c.ref b
def takenJ (M : List Jrn) (j : Jrn) : Bool := !(M.all (leavesRef j))
def hasId (M : List Jrn) (x : Int) : Bool := (findK Jrn.id M x).isSome
def postE (M : List Jrn) (j : Jrn) : Int := if checkE j = 0 then (if hasId M j.id = true then 7 else if takenJ M j = true then 8 else if 200 ≤ M.length then 13 else 0) else checkE j
def postL (M : List Jrn) (j : Jrn) : List Jrn := if postE M j = 0 then putK Jrn.id M j else M
def liveE (M : List Jrn) (x : Int) : Int := match findK Jrn.id M x with | none => 9 | some b => if b.void = true then 11 else 0
def amendE (M : List Jrn) (j : Jrn) : Int := if checkE j = 0 then (if liveE M j.id = 0 then (if takenJ M j = true then 8 else 0) else liveE M j.id) else checkE j
def amendL (M : List Jrn) (j : Jrn) : List Jrn := if amendE M j = 0 then putK Jrn.id M j else M
def voidJ (j : Jrn) : Jrn := { j with void := true }
def voidL (M : List Jrn) (x : Int) : List Jrn := if liveE M x = 0 then (match findK Jrn.id M x with | none => M | some b => putK Jrn.id M (voidJ b)) else M
def refJ (M : List Jrn) (s : ByteArray) : Int := match M.find? (holdsRef s) with | none => 0 | some b => b.id
theorem hasId_map (l : List JR) (x : Int) : hasId (l.map JR.j) x = (findK JR.id l x).isSome := by
  unfold hasId
  rw [findK_map, Option.isSome_map]; rfl
end Go.Proofs.YtmgncoialppmpaaGreat
