/-
  Several texts, one behind the other: what each holds stands ahead of it.
-/
import Derived.Test.YtjlokkjbdgcooaaGreatMany3
import Derived.Lib.Overlaps
import Derived.Lib.AppendZerosOnto
import Derived.Laws.IdiomCopy
import Derived.Test.YtjlokkjbdgcooaaGreatOwn

/-
  What slices.Insert does with a row of one's own: copies within a row, a row that is opened by one element. No code.
-/
namespace Go.Proofs.YtjlokkjbdgcooaaGreat
open Go.RowKit

theorem step_copy_run {P : Program} {w : World} {ops : Array Oper} {o : Oper} {a : Act} {K : Act → World → Prop} {Q : Exit → Act → World → Prop} {E : Prop} (hgd : o.guard = none) (d s : Operand) (t t' : TypeId)
    (ho : o.op = .call { callee := .builtin .copy, args := #[d, s], argTypes := #[t, t'] }) (vd vs v' : Value) (w' : World) (hd : a.eval d = vd) (hs : a.eval s = vs)
    (hrun : (Builtin.copy_ #[t, t'] o.type #[vd, vs]).run P w = .ok v' w') (h : K (a.put o.dst v') w') : if Region.wanted o (yielded ops a.tmps) = true then Oper.wp P o a w K Q else E := by
  have hw : Region.wanted o (yielded ops a.tmps) = true := by simp [Region.wanted, hgd]
  rw [if_pos hw]
  unfold Oper.wp execOp
  simp only [ho, resolve, invoke, builtin, Sem.run_bind, Sem.run_pure, Result.andThen_ok, List.map_toArray, List.map_cons, List.map_nil, hd, hs, hrun]
  exact h
theorem wpList_copy_run1 {P : Program} {w : World} {ops : Array Oper} {rest : List Oper} {o : Oper} {a : Act} {Q : Exit → Act → World → Prop} (hgd : o.guard = none) (d s : Operand) (t t' : TypeId)
    (ho : o.op = .call { callee := .builtin .copy, args := #[d, s], argTypes := #[t, t'] }) (vd vs v' : Value) (w' : World) (hd : a.eval d = vd) (hs : a.eval s = vs)
    (hrun : (Builtin.copy_ #[t, t'] o.type #[vd, vs]).run P w = .ok v' w') (h : wpList P ops Q rest (a.put o.dst v') w') : wpList P ops Q (o :: rest) a w :=
  wpList_plain hgd fun _ hK => by
    unfold Oper.wp execOp
    simp only [ho, resolve, invoke, builtin, Sem.run_bind, Sem.run_pure, Result.andThen_ok, List.map_toArray, List.map_cons, List.map_nil, hd, hs, hrun]
    exact hK _ _ h
theorem wpList_append_run2 {P : Program} {w : World} {ops : Array Oper} {rest : List Oper} {o : Oper} {a : Act} {Q : Exit → Act → World → Prop} (hgd : o.guard = none) (s x : Operand) (t t' : TypeId)
    (ho : o.op = .call { callee := .builtin .append, args := #[s, x], argTypes := #[t, t'] }) (vs vx v' : Value) (w' : World) (hs : a.eval s = vs) (hx : a.eval x = vx)
    (hrun : (Builtin.append_ #[t, t'] o.type #[vs, vx]).run P w = .ok v' w') (h : wpList P ops Q rest (a.put o.dst v') w') : wpList P ops Q (o :: rest) a w :=
  wpList_plain hgd fun _ hK => by
    unfold Oper.wp execOp
    simp only [ho, resolve, invoke, builtin, Sem.run_bind, Sem.run_pure, Result.andThen_ok, List.map_toArray, List.map_cons, List.map_nil, hs, hx, hrun]
    exact hK _ _ h

section
variable {P : Program} {w : World} {B g n c size : Nat} {e : TypeId} {L : List Value}
theorem own_blk (h : w.ownsRow B e size (.slice (some ⟨g, 0, none⟩) n c) n L) : ∃ cur, w.heap[g]? = some (.cells cur e (0, 0)) ∧ B ≤ g ∧ n ≤ c ∧ c ≤ maxLen ∧ cur.size = c * size ∧ cur.toList.take (n * size) = L := by
  rcases h.2 with ⟨h1, _⟩ | ⟨g', cap', cur, h1, hB, hh, r⟩
  · cases h1
  · injection h1 with h1 _ hc
    injection h1 with h1
    injection h1 with h1
    subst h1 hc
    exact ⟨cur, hh, hB, r⟩
/-- copy into a row of one's own, from wherever, where all of it fits. -/
theorem copy_own (h : w.ownsRow B e size (.slice (some ⟨g, 0, none⟩) n c) n L) {dT ty : TypeId} (hu : P.underlying dT = some (.slice e)) (hi : (P.info? e).map (·.size) = some size) (oi k dLen dCap sLen sCap : Nat) (a : Addr) (cs : List Value)
    (hk : Nat.min sLen dLen = k) (hl : cs.length = k * size) (ho : oi + k ≤ n) (hsrc : ∀ j u, cs[j]? = some u → w.cell? (a.add j) = some u) (h1 : ∀ u ∈ cs, u.oneCell' = true) :
    (Builtin.copy_ #[dT, dT] ty #[.slice (some ⟨g, oi * size, none⟩) dLen dCap, .slice (some a) sLen sCap]).run P w = .ok (goInt k) (w.setCells g (oi * size) cs) ∧ (w.setCells g (oi * size) cs).ownsRow B e size (.slice (some ⟨g, 0, none⟩) n c) n (setL L (oi * size) cs) := by
  refine ⟨?_, own_setL cs w _ L h⟩
  obtain ⟨cur, hh, _, _, _, hsz, _⟩ := own_blk h
  have hle : oi * size + cs.length ≤ c * size := by
    rw [hl, ← Nat.add_mul]
    have hnc : n ≤ c := by obtain ⟨_, _, _, h2, _⟩ := own_blk h; exact h2
    exact Nat.mul_le_mul_right _ (by omega)
  have hst := run_storeCells_cells (P := P) g (oi * size) cs 0 w (fun j hj => by rw [cell_of hh, Array.getElem?_eq_getElem (by omega)]; rfl) (fun j _ => warm_of hh _) h1
  have hld := run_firstCells_some (P := P) w size k a sLen sCap cs hl hsrc
  simp only [Nat.add_zero] at hst
  cases hq : P.info? e with
  | none => simp [hq] at hi
  | some i =>
    have hi2 : i.size = size := by simpa [hq] using hi
    simp [Builtin.copy_, run_underlying hu, Builtin.lenOf, sizeOf, typeInfo, hq, hi2, hk, hld, hst]
/-- A row that has room, taken for one element longer. -/
theorem own_more (h : w.ownsRow B e size (.slice (some ⟨g, 0, none⟩) n c) n L) (hc : n + 1 ≤ c) : ∃ junk, junk.length = size ∧ w.ownsRow B e size (.slice (some ⟨g, 0, none⟩) (n + 1) c) (n + 1) (L ++ junk) := by
  obtain ⟨cur, hh, hB, _, hm, hsz, hL⟩ := own_blk h
  have hlen : n * size + size ≤ c * size := by
    have := Nat.mul_le_mul_right size hc
    rw [Nat.succ_mul] at this; exact this
  refine ⟨(cur.toList.drop (n * size)).take size, ?_, ?_, .inr ⟨g, c, cur, rfl, hB, hh, hc, hm, hsz, ?_⟩⟩
  · simp; omega
  · have := h.1
    rw [List.length_append, this, Nat.succ_mul]
    simp; omega
  · rw [Nat.succ_mul, List.take_add, hL]
end

theorem setL_off {s : Nat} (a b vs : List Value) (ha : a.length = s) (h : vs.length ≤ b.length) : setL (a ++ b) s vs = a ++ vs ++ b.drop vs.length := by subst ha; exact setL_mid vs a b h
theorem ins_core0 {a d junk ys : List Value} {p s : Nat} (ha : a.length = p) (hj : junk.length = s) (hy : ys.length = s) :
    setL (setL (a ++ (d ++ junk)) (p + s) d) p ys = a ++ (ys ++ d) := by
  obtain ⟨t, u, e, ht, hu⟩ : ∃ t u, d ++ junk = t ++ u ∧ t.length = s ∧ u.length = d.length := ⟨(d ++ junk).take s, (d ++ junk).drop s, (List.take_append_drop _ _).symm, by simp [hj], by simp [hj]⟩
  have h1 : u.drop d.length = [] := List.drop_eq_nil_of_le (by omega)
  rw [e, ← List.append_assoc, setL_off (a ++ t) u d (by simp [ha, ht]) (by omega), h1, List.append_nil, List.append_assoc, setL_off a (t ++ d) ys ha (by simp; omega), List.append_assoc]
  congr 2
  rw [List.drop_append_of_le_length (by omega), List.drop_eq_nil_of_le (by omega), List.nil_append]
theorem ins_core1 {a d zs ys : List Value} {p s : Nat} (ha : a.length = p) (hz : zs.length = d.length + s) (hy : ys.length = s) :
    setL (setL (a ++ zs) p ys) (p + s) d = a ++ (ys ++ d) := by
  have h1 : (zs.drop ys.length).drop d.length = [] := List.drop_eq_nil_of_le (by simp; omega)
  rw [setL_off a zs ys ha (by omega), setL_off (a ++ ys) _ d (by simp [ha, hy]) (by simp; omega), h1, List.append_nil, List.append_assoc]
theorem ins_core {p q s : Nat} {xs junk ys : List Value} (hx : xs.length = q) (hp : p ≤ q) (hj : junk.length = s) (hy : ys.length = s) :
    setL (setL (xs ++ junk) (p + s) (xs.drop p)) p ys = xs.take p ++ (ys ++ xs.drop p) := by
  have := ins_core0 (a := xs.take p) (d := xs.drop p) (p := p) (by simp; omega) hj hy
  rwa [← List.append_assoc, List.take_append_drop] at this
theorem ins_core2 {p q s : Nat} {xs zs ys : List Value} (hx : xs.length = q) (hp : p ≤ q) (hz : zs.length = q - p + s) (hy : ys.length = s) :
    setL (setL (xs.take p ++ zs) p ys) (p + s) (xs.drop p) = xs.take p ++ (ys ++ xs.drop p) :=
  ins_core1 (by simp; omega) (by simp; omega) hy
theorem ins_here {size n i : Nat} {xs junk ys : List Value} (hx : xs.length = n * size) (hi : i ≤ n) (hj : junk.length = size) (hy : ys.length = size) :
    setL (setL (xs ++ junk) ((i + 1) * size) (xs.drop (i * size))) (i * size) ys = xs.take (i * size) ++ (ys ++ xs.drop (i * size)) := by
  rw [Nat.succ_mul]
  exact ins_core hx (Nat.mul_le_mul_right _ hi) hj hy
theorem ins_new {size n i : Nat} {xs zs ys : List Value} (hx : xs.length = n * size) (hi : i ≤ n) (hz : zs.length = (n + 1 - i) * size) (hy : ys.length = size) :
    setL (setL (xs.take (i * size) ++ zs) (i * size) ys) ((i + 1) * size) (xs.drop (i * size)) = xs.take (i * size) ++ (ys ++ xs.drop (i * size)) := by
  rw [Nat.succ_mul]
  refine ins_core2 hx (Nat.mul_le_mul_right _ hi) ?_ hy
  rw [hz, show n + 1 - i = (n - i) + 1 by omega, Nat.succ_mul, Nat.sub_mul]
end Go.Proofs.YtjlokkjbdgcooaaGreat

/-
  Journals as rows of a list, their lines elsewhere. No code.
-/
namespace Go.Proofs.YtjlokkjbdgcooaaGreat
open Go.RowKit

/-- A journal as a row: its lines lie at A. -/
structure JR where
  j : Jrn
  A : Option Addr
  c : Nat
def JR.lv (a : JR) : Value := .slice a.A a.j.lines.length a.c
def JR.val (a : JR) : Value := a.j.val a.A a.j.lines.length a.c
def JR.id (a : JR) : Int := a.j.id
def JR.cells (a : JR) : List Value := [.int .i64 a.j.id, .int .i64 a.j.ent, .int .i64 a.j.per, .string a.j.ref, .slice a.A a.j.lines.length a.c, .bool a.j.void]
def jrs (l : List JR) : List Value := l.flatMap JR.cells
theorem jrs_len : ∀ l : List JR, (jrs l).length = l.length * 6
  | [] => rfl
  | a :: l => by have := jrs_len l; unfold jrs at this ⊢; simp [JR.cells, this]; omega
theorem jrs_append (l m : List JR) : jrs (l ++ m) = jrs l ++ jrs m := by simp [jrs]
theorem jrs_at : ∀ (l : List JR) (k : Nat) (a : JR), l[k]? = some a → ∀ i u, a.cells[i]? = some u → (jrs l)[k * 6 + i]? = some u
  | [], k, a, h, _, _, _ => by simp at h
  | b :: l, 0, a, h, i, u, hu => by
    simp at h; subst h
    have hi : i < b.cells.length := (List.getElem?_eq_some_iff.1 hu).1
    unfold jrs
    rw [List.flatMap_cons, Nat.zero_mul, Nat.zero_add, List.getElem?_append_left hi]
    exact hu
  | b :: l, k + 1, a, h, i, u, hu => by
    have := jrs_at l k a (by simpa using h) i u hu
    unfold jrs at this ⊢
    rw [List.flatMap_cons, show (k + 1) * 6 + i = b.cells.length + (k * 6 + i) by simp [JR.cells]; omega, List.getElem?_append_right (by omega), Nat.add_sub_cancel_left]
    exact this
theorem Rd.jrs_len {w : World} {B n : Nat} {A : Option Addr} {l : List JR} (h : Rd w B 6 A n (jrs l)) : l.length = n := by
  have := h.1; rw [Go.Proofs.YtjlokkjbdgcooaaGreat.jrs_len] at this; omega
/-- A row of a list that can be read, as a walk spells its cells. -/
theorem Rd.jr {w : World} {B n i : Nat} {A : Option Addr} {l : List JR} (h : Rd w B 6 A n (jrs l)) (hi : i < n) :
    ∃ ad a, A = some ad ∧ ad.block < B ∧ l[i]? = some a ∧ w.cell? (ad.add (i * 6)) = some (.int .i64 a.j.id) ∧ w.cell? ⟨(ad.add (i * 6)).block, (ad.add (i * 6)).off + 1, none⟩ = some (.int .i64 a.j.ent) ∧ w.cell? ⟨(ad.add (i * 6)).block, (ad.add (i * 6)).off + 2, none⟩ = some (.int .i64 a.j.per) ∧
      w.cell? ⟨(ad.add (i * 6)).block, (ad.add (i * 6)).off + 3, none⟩ = some (.string a.j.ref) ∧ w.cell? ⟨(ad.add (i * 6)).block, (ad.add (i * 6)).off + 4, none⟩ = some (.slice a.A a.j.lines.length a.c) ∧ w.cell? ⟨(ad.add (i * 6)).block, (ad.add (i * 6)).off + 5, none⟩ = some (.bool a.j.void) := by
  obtain ⟨ad, e, hb, hc⟩ := h.2 (by omega)
  have hl := h.jrs_len
  have hg : l[i]? = some l[i] := List.getElem?_eq_getElem (by omega)
  have hk := fun k u hu => hc _ _ (jrs_at l i _ hg k u hu)
  exact ⟨ad, _, e, hb, hg, hk 0 _ rfl, cell_behind (hk 1 _ rfl) (by omega), cell_behind (hk 2 _ rfl) (by omega), cell_behind (hk 3 _ rfl) (by omega), cell_behind (hk 4 _ rfl) (by omega), cell_behind (hk 5 _ rfl) (by omega)⟩
theorem infoJrn : (Tryz.prog.info? 111).map (fun i => (i.zero, i.size, i.bytes)) = some (some (.agg #[.int .i64 0, .int .i64 0, .int .i64 0, .string ⟨#[]⟩, .slice none 0 0, .bool false]), 6, 72) := by kernel_rfl
theorem cells_oneJ (a : JR) : ∀ u ∈ a.cells, u.oneCell' = true := by
  intro u hu
  simp [JR.cells] at hu
  rcases hu with rfl | rfl | rfl | rfl | rfl | rfl <;> rfl
theorem jrs_one (l : List JR) : ∀ u ∈ jrs l, u.oneCell' = true := by
  intro u hu
  obtain ⟨a, _, hu⟩ := List.mem_flatMap.1 hu
  exact cells_oneJ a u hu
theorem jrs_take : ∀ (l : List JR) (i : Nat), (jrs l).take (i * 6) = jrs (l.take i)
  | [], i => by simp [jrs]
  | a :: l, 0 => by simp [jrs]
  | a :: l, i + 1 => by
    have := jrs_take l i
    unfold jrs at this ⊢
    rw [List.take_succ_cons, List.flatMap_cons, List.flatMap_cons, ← this, show (i + 1) * 6 = (JR.cells a).length + i * 6 by simp [JR.cells]; omega, List.take_length_add_append]
theorem jrs_drop : ∀ (l : List JR) (i : Nat), (jrs l).drop (i * 6) = jrs (l.drop i)
  | [], i => by simp [jrs]
  | a :: l, 0 => by simp [jrs]
  | a :: l, i + 1 => by
    have := jrs_drop l i
    unfold jrs at this ⊢
    rw [List.drop_succ_cons, List.flatMap_cons, ← this, show (i + 1) * 6 = (JR.cells a).length + i * 6 by simp [JR.cells]; omega, List.drop_length_add_append]
theorem jrs_ins (l : List JR) (i : Nat) (a : JR) : jrs (l.take i ++ a :: l.drop i) = (jrs l).take (i * 6) ++ (a.cells ++ (jrs l).drop (i * 6)) := by
  rw [jrs_take, jrs_drop, jrs_append]
  rfl
theorem cons_form {l : List JR} {p : Nat} {a : JR} (h : l[p]? = some a) : l = l.take p ++ a :: l.drop (p + 1) := by
  have hl := (List.getElem?_eq_some_iff.1 h).1
  have he : l[p] = a := by rw [List.getElem?_eq_getElem hl] at h; injection h
  conv => lhs; rw [← List.take_append_drop p l, List.drop_eq_getElem_cons hl, he]
/-- A row that gets another one's cells. -/
theorem jrs_setAll {l : List JR} {p : Nat} {a : JR} (b : JR) (h : l[p]? = some a) : setL (jrs l) (p * 6) b.cells = jrs (l.set p b) := by
  have hl := (List.getElem?_eq_some_iff.1 h).1
  have e1 : jrs l = jrs (l.take p) ++ (a.cells ++ jrs (l.drop (p + 1))) := by
    conv => lhs; rw [cons_form h]
    rw [jrs_append]; rfl
  have hlen : (jrs (l.take p)).length = p * 6 := by rw [jrs_len]; simp; omega
  rw [e1, setL_off (jrs (l.take p)) (a.cells ++ jrs (l.drop (p + 1))) b.cells hlen (by simp [JR.cells]), List.set_eq_take_append_cons_drop, if_pos hl, jrs_append, List.append_assoc]
  congr 1
theorem jrs_setVoid {l : List JR} {p : Nat} {a : JR} (x : Bool) (h : l[p]? = some a) : (jrs l).set (p * 6 + 5) (.bool x) = jrs (l.set p ⟨{ a.j with void := x }, a.A, a.c⟩) := by
  have hl := (List.getElem?_eq_some_iff.1 h).1
  have e1 : jrs l = jrs (l.take p) ++ (a.cells ++ jrs (l.drop (p + 1))) := by
    conv => lhs; rw [cons_form h]
    rw [jrs_append]; rfl
  have hlen : (jrs (l.take p)).length = p * 6 := by rw [jrs_len]; simp; omega
  have e2 : ∀ b : JR, l.set p b = l.take p ++ b :: l.drop (p + 1) := fun b => by rw [List.set_eq_take_append_cons_drop, if_pos hl]
  rw [e1, List.set_append_right _ _ (by omega), hlen, e2, jrs_append]
  congr 1
  rw [show p * 6 + 5 - p * 6 = 5 by omega]
  rfl

/-- A list of journals that can be read. -/
structure JlRd (w : World) (B : Nat) (A : Option Addr) (n : Nat) (l : List JR) : Prop where
  rd : Rd w B 6 A n (jrs l)
  lines : ∀ a ∈ l, Rd w B 3 a.A a.j.lines.length (lins a.j.lines)
  nil : ∀ a ∈ l, a.A = none → a.c = 0
  size : ∀ a ∈ l, a.j.ref.size ≤ maxLen ∧ a.j.lines.length ≤ maxLen
theorem JlRd.far {w w' : World} {B B0 n : Nat} {A : Option Addr} {l : List JR} (h : JlRd w B A n l) (hb : Below B0 w w') (hB : B ≤ B0) : JlRd w' B A n l := ⟨h.rd.far hb hB, fun a ha => (h.lines a ha).far hb hB, h.nil, h.size⟩
theorem JlRd.wide {w : World} {B B' n : Nat} {A : Option Addr} {l : List JR} (h : JlRd w B A n l) (hB : B ≤ B') : JlRd w B' A n l := ⟨h.rd.wide hB, fun a ha => (h.lines a ha).wide hB, h.nil, h.size⟩
theorem JlRd.len {w : World} {B n : Nat} {A : Option Addr} {l : List JR} (h : JlRd w B A n l) : l.length = n := h.rd.jrs_len
theorem own_nil {w : World} {B n c size : Nat} {e : TypeId} {A : Option Addr} {xs : List Value} (h : w.ownsRow B e size (.slice A n c) n xs) : A = none → c = 0 := by
  intro e
  rcases h.2 with ⟨h1, _⟩ | ⟨g2, c2, cur, h1, _⟩
  · injection h1
  · injection h1 with h1; rw [e] at h1; cases h1
/-- Journals in rows of one's own. -/
structure OwnJl (w : World) (B : Nat) (A : Option Addr) (n c : Nat) (l : List JR) : Prop where
  own : w.ownsRow B 111 6 (.slice A n c) n (jrs l)
  lines : ∀ a ∈ l, w.ownsRow B 113 3 a.lv a.j.lines.length (lins a.j.lines)
theorem OwnJl.kept {w w' : World} {B n c : Nat} {A : Option Addr} {l : List JR} (h : OwnJl w B A n c l) (hb : Below w.heap.size w w') : OwnJl w' B A n c l := ⟨own_kept h.own fun k hk _ => hb.block k hk, fun a ha => own_kept (h.lines a ha) fun k hk _ => hb.block k hk⟩
theorem OwnJl.rd {w : World} {B n c : Nat} {A : Option Addr} {l : List JR} (h : OwnJl w B A n c l) (hs : ∀ a ∈ l, a.j.ref.size ≤ maxLen ∧ a.j.lines.length ≤ maxLen) : JlRd w w.heap.size A n l := ⟨rd_of_own h.own, fun a ha => rd_of_own (h.lines a ha), fun a ha => own_nil (h.lines a ha), hs⟩
/-- A journal appended to a row of one's own. -/
theorem append_jr {w : World} {base m : Nat} {v : Value} {L : List JR} (a : JR) (h : w.ownsRow base 111 6 v m (jrs L)) (hb : base ≤ w.heap.size) (hm : m ≤ 1000000) :
    ∃ v' w', (∀ ty, (Builtin.append_ #[48, 48] ty #[v, .slice (some ⟨w.heap.size, 0, none⟩) 1 1]).run Tryz.prog (w.alloc (.cells #[.int .i64 a.j.id, .int .i64 a.j.ent, .int .i64 a.j.per, .string a.j.ref, .slice a.A a.j.lines.length a.c, .bool a.j.void] 111)) = .ok v' w') ∧ w'.ownsRow base 111 6 v' (m + 1) (jrs (L ++ [a])) ∧ But (fun k => v.ownBlock = some k) w w' ∧ Below base w w' := by
  have hR : Rd (w.alloc (.cells #[.int .i64 a.j.id, .int .i64 a.j.ent, .int .i64 a.j.per, .string a.j.ref, .slice a.A a.j.lines.length a.c, .bool a.j.void] 111)) (w.heap.size + 1) 6 (some ⟨w.heap.size, 0, none⟩) 1 a.cells := ⟨rfl, fun _ => ⟨_, rfl, by simp, cells_new w a.cells 111⟩⟩
  have h1 : (w.alloc (.cells #[.int .i64 a.j.id, .int .i64 a.j.ent, .int .i64 a.j.per, .string a.j.ref, .slice a.A a.j.lines.length a.c, .bool a.j.void] 111)).ownsRow base 111 6 v m (jrs L) := own_kept h fun k hk _ => Below.heap_alloc w _ _ hk
  obtain ⟨v', w', hrun, hown, hg, hp⟩ := append_fresh (P := Tryz.prog) (ty := 0) (c := 1) infoJrn Tryz.underlying48 rfl (by omega) base v m (jrs L) h1 hR (cells_oneJ a) (by unfold maxLen; omega) (by omega) (by simp; omega)
  refine ⟨v', w', fun ty => hrun, by rw [jrs_append]; exact (show jrs [a] = a.cells by simp [jrs]) ▸ hown, ?_, ?_⟩
  · exact (But.of_below ((Below.refl _ _).alloc (Nat.le_refl _) _)).trans (But.of_grown hg)
  · exact ((Below.refl _ _).alloc hb _).grown hg (by simp; omega) (own_ge h)

theorem wpList_append_ex {P : Program} {w : World} {ops : Array Oper} {rest : List Oper} {o : Oper} {a : Act} {Q : Exit → Act → World → Prop} (hgd : o.guard = none) (s x : Operand) (t : TypeId)
    (ho : o.op = .call { callee := .builtin .append, args := #[s, x], argTypes := #[t, t] }) (vs vx : Value) (R : Value → World → Prop) (hs : a.eval s = vs) (hx : a.eval x = vx)
    (hrun : ∃ v' w', (∀ ty, (Builtin.append_ #[t, t] ty #[vs, vx]).run P w = .ok v' w') ∧ R v' w') (h : ∀ v' w', R v' w' → wpList P ops Q rest (a.put o.dst v') w') : wpList P ops Q (o :: rest) a w := by
  obtain ⟨v', w', hr, hR⟩ := hrun
  exact wpList_append_run hgd s x t ho vs vx v' w' hs hx (hr _) (h v' w' hR)
end Go.Proofs.YtjlokkjbdgcooaaGreat
