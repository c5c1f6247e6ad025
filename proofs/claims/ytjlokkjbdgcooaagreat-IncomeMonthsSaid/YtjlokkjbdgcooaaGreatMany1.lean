/-
  Several texts, one behind the other: what each holds stands ahead of it.
-/
import Derived.Test.YtjlokkjbdgcooaaGreatProg
import Derived.WalkKit
import Derived.WalkSpells
import Derived.WalkLawsBesides
import Derived.Lib.Hide
import Derived.Laws.OwnMore
import Derived.Deep.AppendLies
import Derived.Deep.Draws
import Derived.Maps.AppendAt
import Derived.Deep.RegionLaw
import Derived.BigQuiet
import Derived.BigRegion
import Derived.RegionTactic
import Derived.StillTailTactics

/-
  Words for memory that all contracts of this seat share: a slice that reads as a list of cells; a block that is known whole.
-/
namespace Go.Proofs.YtjlokkjbdgcooaaGreat
open Go.RowKit

theorem add_block (a : Addr) (n : Nat) : (a.add n).block = a.block := by unfold Addr.add; split <;> rfl

/-- The slice '.slice A n _' lies below block B (where it has elements) and reads as the cells xs, 'size' of them an element. -/
def Rd (w : World) (B size : Nat) (A : Option Addr) (n : Nat) (xs : List Value) : Prop :=
  xs.length = n * size ∧ (0 < n → ∃ ad, A = some ad ∧ ad.block < B ∧ ∀ j u, xs[j]? = some u → w.cell? (ad.add j) = some u)

section
variable {w w' : World} {B B' size n : Nat} {A : Option Addr} {xs : List Value}
theorem Rd.nil_ : Rd w B size A 0 [] := ⟨by simp, fun h => absurd h (by omega)⟩
theorem Rd.one {k : Nat} (h : Rd w B 1 A n xs) (hk : k < n) : ∃ ad u, A = some ad ∧ ad.block < B ∧ xs[k]? = some u ∧ w.cell? (ad.add k) = some u := by
  obtain ⟨ad, e, hb, hc⟩ := h.2 (by omega)
  have hl : k < xs.length := by have := h.1; omega
  exact ⟨ad, xs[k], e, hb, List.getElem?_eq_getElem hl, hc k _ (List.getElem?_eq_getElem hl)⟩
theorem Rd.same (h : Rd w B size A n xs) (hk : ∀ p : Addr, p.block < B → w'.cell? p = w.cell? p) : Rd w' B size A n xs :=
  ⟨h.1, fun hn => by
    obtain ⟨ad, e, hb, hc⟩ := h.2 hn
    exact ⟨ad, e, hb, fun j u hu => (hk _ (by rw [add_block]; exact hb)).trans (hc j u hu)⟩⟩
theorem Rd.wide (h : Rd w B size A n xs) (hB : B ≤ B') : Rd w B' size A n xs :=
  ⟨h.1, fun hn => by
    obtain ⟨ad, e, hb, hc⟩ := h.2 hn
    exact ⟨ad, e, by omega, hc⟩⟩
theorem Rd.below (h : Rd w B size A n xs) (hb : Below B w w') : Rd w' B size A n xs := h.same fun _ hp => hb.cell hp
theorem Rd.far {B0 : Nat} (h : Rd w B size A n xs) (hb : Below B0 w w') (hB : B ≤ B0) : Rd w' B size A n xs := h.same fun _ hp => hb.cell (by omega)
end

/-- Integers of a kind as cells. -/
def ints (k : IntKind) (l : List Int) : List Value := l.map (Value.int k)
theorem ints_len (k : IntKind) (l : List Int) : (ints k l).length = l.length := by simp [ints]
theorem ints_at {k : IntKind} {l : List Int} {i : Nat} {x : Int} (h : l[i]? = some x) : (ints k l)[i]? = some (.int k x) := by simp [ints, h]

theorem Rd.int {w : World} {B n i : Nat} {A : Option Addr} {k : IntKind} {l : List Int} (h : Rd w B 1 A n (ints k l)) (hi : i < n) :
    ∃ ad, A = some ad ∧ ad.block < B ∧ w.cell? (ad.add i) = some (.int k (l[i]?.getD 0)) := by
  obtain ⟨ad, u, e, hb, hx, hc⟩ := h.one hi
  have hl : i < l.length := by have := h.1; simp [ints] at this; omega
  refine ⟨ad, e, hb, ?_⟩
  rw [hc, ← hx]
  simp [ints, hl]
theorem Rd.ints_len {w : World} {B n : Nat} {A : Option Addr} {k : IntKind} {l : List Int} (h : Rd w B 1 A n (ints k l)) : l.length = n := by
  have := h.1; simp [ints] at this; omega
theorem lt_of_blk {w : World} {b : Nat} {o : Obj} (h : w.heap[b]? = some o) : b < w.heap.size := by
  rcases Nat.lt_or_ge b w.heap.size with hlt | hge
  · exact hlt
  · rw [Array.getElem?_eq_none hge] at h; cases h
theorem cell_of {w : World} {b : Nat} {t : TypeId} {cs : Array Value} (h : w.heap[b]? = some (.cells cs t (0, 0))) (i : Nat) : w.cell? ⟨b, i, none⟩ = cs[i]? := by simp [World.cell?, h]
theorem warm_of {w : World} {b : Nat} {t : TypeId} {cs : Array Value} (h : w.heap[b]? = some (.cells cs t (0, 0))) (i : Nat) : w.frozen? ⟨b, i, none⟩ = false := by simp [World.frozen?, h]
theorem set_here {w : World} {g i : Nat} {t : TypeId} {cur : Array Value} {u : Value} (h : w.heap[g]? = some (.cells cur t (0, 0))) : (w.setCell ⟨g, i, none⟩ u).heap[g]? = some (.cells (cur.setIfInBounds i u) t (0, 0)) := by
  simp [World.setCell, Array.getElem?_modify, h]
theorem block_of_cell {w : World} {p : Addr} {v : Value} (h : w.cell? p = some v) : p.block < w.heap.size := by
  rcases Nat.lt_or_ge p.block w.heap.size with hlt | hge
  · exact hlt
  · rw [World.cell?, Array.getElem?_eq_none hge] at h; cases h
theorem heap_new (w : World) (o : Obj) : (w.alloc o).heap[w.heap.size]? = some o := by
  show (w.heap.push o)[w.heap.size]? = some o
  rw [Array.getElem?_push]; simp

/-- A block of n integers, known whole. -/
def NRow (t : TypeId) (k : IntKind) (w : World) (s n : Nat) (f : Nat → Int) : Prop :=
  ∃ cur : Array Value, w.heap[s]? = some (.cells cur t (0, 0)) ∧ cur.size = n ∧ ∀ j, j < n → cur[j]? = some (.int k (f j))
section
variable {t : TypeId} {k : IntKind} {w w' : World} {s n : Nat} {f : Nat → Int}
theorem NRow.lt (h : NRow t k w s n f) : s < w.heap.size := by obtain ⟨c, h, _⟩ := h; exact lt_of_blk h
theorem NRow.cell (h : NRow t k w s n f) {j : Nat} (hj : j < n) : w.cell? ⟨s, j, none⟩ = some (.int k (f j)) := by
  obtain ⟨c, h, _, h2⟩ := h; rw [cell_of h]; exact h2 j hj
theorem NRow.warm (h : NRow t k w s n f) (j : Nat) : w.frozen? ⟨s, j, none⟩ = false := by
  obtain ⟨c, h, _, h2⟩ := h; exact warm_of h j
theorem NRow.kept (h : NRow t k w s n f) (hk : w'.heap[s]? = w.heap[s]?) : NRow t k w' s n f := by
  obtain ⟨c, h, r⟩ := h; exact ⟨c, hk.trans h, r⟩
theorem NRow.below {B : Nat} (h : NRow t k w s n f) (hb : Below B w w') (hs : s < B) : NRow t k w' s n f := h.kept (hb.block s hs)
theorem NRow.congr {g : Nat → Int} (h : NRow t k w s n f) (e : ∀ j, j < n → f j = g j) : NRow t k w s n g := by
  obtain ⟨c, h, h1, h2⟩ := h; exact ⟨c, h, h1, fun j hj => by rw [← e j hj]; exact h2 j hj⟩
theorem NRow.set (h : NRow t k w s n f) (i : Nat) (x : Int) : NRow t k (w.setCell ⟨s, i, none⟩ (.int k x)) s n (fun j => if j = i then x else f j) := by
  obtain ⟨c, h, h1, h2⟩ := h
  refine ⟨_, set_here h, by simpa using h1, fun j hj => ?_⟩
  by_cases e : j = i
  · subst e; rw [Array.getElem?_setIfInBounds_self_of_lt (by omega)]; simp
  · rw [Array.getElem?_setIfInBounds_ne (fun h => e h.symm), h2 j hj]; simp [e]
theorem NRow.new (w : World) (t : TypeId) (k : IntKind) (n : Nat) : NRow t k (w.alloc (.cells (madeCells #[.int k 0] n) t)) w.heap.size n (fun _ => 0) := by
  refine ⟨_, heap_new w _, size_madeCells _ _, fun j hj => ?_⟩
  have h := toList_madeCells_one (.int k 0) n
  rw [← Array.getElem?_toList, h, List.getElem?_replicate, if_pos hj]
theorem NRow.rd (h : NRow t k w s n f) {B : Nat} (hB : s < B) : Rd w B 1 (some ⟨s, 0, none⟩) n (ints k ((List.range n).map f)) := by
  refine ⟨by simp [ints], fun _ => ⟨_, rfl, hB, fun j u hu => ?_⟩⟩
  have hj : j < n := by
    have := List.getElem?_eq_some_iff.1 hu
    obtain ⟨h1, _⟩ := this
    simpa [ints] using h1
  simp [ints, hj] at hu
  subst hu
  rw [Addr.add_lit, Nat.zero_add]
  exact h.cell hj
end

/-- A method with a value receiver, called through a pointer in an interface: the function, and what the pointer's cell holds. -/
theorem method_through {P : Program} {fuel f : Nat} {t te : TypeId} {name : String} {a : Addr} {w : World} {v : Value}
    (h : (P.info? t).bind (fun i => (i.methods.find? (·.name == name)).map fun m => (m.path.toList, m.func)) = some ([], some (f, false)))
    (ht : P.underlying t = some (.pointer te)) (hl : (loadVar te a).run P w = .ok v w) :
    (method (fuel + 1) t (.pointer (some a)) name).run P w = .ok (f, v) w := by
  cases hi : P.info? t with
  | none => rw [hi] at h; simp at h
  | some i =>
    rw [hi] at h
    cases hm : i.methods.find? (·.name == name) with
    | none => simp [hm] at h
    | some m =>
      simp [hm] at h
      have hs : ∀ s, (Builtin.ssaWrapNilChk_ #[t] t #[.pointer (some a), strVal "", strVal s]).run P w = .ok (.pointer (some a)) w := fun _ => rfl
      have hp : m.path = #[] := by simpa using h.1
      simp [method, typeInfo, hi, hm, hp, h.2, follow, receiverAt, run_underlying ht, Place.get, hs, hl, asAddr]
end Go.Proofs.YtjlokkjbdgcooaaGreat

/-
  Words and steps that no function of the program is in: answers, lists of ints as rows, draws, appends.
-/
namespace Go.Proofs.YtjlokkjbdgcooaaGreat
open Go.RowKit

theorem ret_int {k : IntKind} {a b : Int} (h : a = b) : Ending.returned (.int k a) = .returned (.int k b) := by rw [h]
theorem ret_bool {a b : Bool} (h : a = b) : Ending.returned (.bool a) = .returned (.bool b) := by rw [h]

theorem infoInt : (Tryz.prog.info? 3).map (fun i => (i.zero, i.size, i.bytes)) = some (some (.int .i64 0), 1, 8) := by kernel_rfl

theorem make_row {P : Program} {t e : TypeId} {q k : IntKind} {n : Nat} (h : (P.info? e).map (fun i => (i.zero, i.size, i.bytes)) = some (some (.int k 0), 1, 8)) (ht : P.underlying t = some (.slice e)) (hn : n ≤ 1000000) (w : World) :
    (Instr.makeSlice t (.int q (n : Int)) (.int q (n : Int))).run P w = .ok (.slice (some ⟨w.heap.size, 0, none⟩) n n) (w.alloc (.cells (madeCells #[.int k 0] n) e)) := by
  obtain ⟨i, hi, hz, h1, h2⟩ := info_parts h
  have := run_make (P := P) w t e i _ ht hi hz q q n n (by omega) (by omega) (by rw [h2]; omega) (by omega)
  rw [this, h1]
  simp [Value.cells]

/-- append(nil, src...): a row of the call's own that reads as src. -/
theorem append_fresh {P : Program} {w : World} {t ty e : TypeId} {z : Value} {size bytes : Nat} (h : (P.info? e).map (fun i => (i.zero, i.size, i.bytes)) = some (some z, size, bytes)) (ht : P.underlying t = some (.slice e)) (hzs : z.cells.size = size) (hsz : 0 < size)
    (base : Nat) (v : Value) (n : Nat) (xs : List Value) (hown : w.ownsRow base e size v n xs)
    {B : Nat} {A : Option Addr} {m c : Nat} {news : List Value} (hr : Rd w B size A m news) (h1 : ∀ u ∈ news, u.oneCell' = true)
    (h63 : n + m ≤ maxLen) (hbytes : (n + m) * bytes ≤ 140737488355328) (hbase : base ≤ w.heap.size) :
    ∃ v' w', (Builtin.append_ #[t, t] ty #[v, .slice A m c]).run P w = .ok v' w' ∧ w'.ownsRow base e size v' (n + m) (xs ++ news) ∧ w.grownBy w' v.ownBlock ∧ (v'.ownBlock = v.ownBlock ∨ v'.ownBlock = some w.heap.size) := by
  obtain ⟨i, hi, hz, h2, h3⟩ := info_parts h
  rcases A with _ | ad
  · have hm : m = 0 := by
      rcases Nat.eq_zero_or_pos m with h0 | h0
      · exact h0
      · obtain ⟨ad, h, _⟩ := hr.2 h0
        cases h
    subst hm
    have hn : news = [] := List.eq_nil_of_length_eq_zero (by simpa using hr.1)
    subst hn
    refine ⟨v, w, ?_, by simpa using hown, World.grownBy.refl w _, .inl rfl⟩
    rcases hown.2 with ⟨rfl, rfl⟩ | ⟨g, cap, cur, rfl, _, _, hnc, _⟩
    · simp [Builtin.append_, run_underlying ht, sizeOf, typeInfo, hi, Builtin.lenOf, Builtin.firstCells]
    · simp [Builtin.append_, run_underlying ht, sizeOf, typeInfo, hi, Builtin.lenOf, Builtin.firstCells, hnc, storeCells]
  · have hcells : ∀ j u, news[j]? = some u → w.cell? (ad.add j) = some u := by
      intro j u hu
      rcases Nat.eq_zero_or_pos m with h0 | h0
      · subst h0
        have hn : news = [] := List.eq_nil_of_length_eq_zero (by simpa using hr.1)
        subst hn
        simp at hu
      · obtain ⟨ad', h, _, hc⟩ := hr.2 h0
        injection h with h
        subst h
        exact hc j u hu
    obtain ⟨v', w', hrun, h4, h5, _, h6⟩ := run_append_own_at (P := P) w base t ty e i z size bytes ht hi hz h2 h3 hzs hsz v n xs hown ad m c news hr.1 hcells h1 h63 hbytes hbase
    exact ⟨v', w', hrun, h4, h5, h6⟩

/-- A builtin append whose run is known, as a step of a plain region. -/
theorem wpList_append_run {P : Program} {w : World} {ops : Array Oper} {rest : List Oper} {o : Oper} {a : Act} {Q : Exit → Act → World → Prop} (hgd : o.guard = none) (s x : Operand) (t : TypeId)
    (ho : o.op = .call { callee := .builtin .append, args := #[s, x], argTypes := #[t, t] }) (vs vx v' : Value) (w' : World) (hs : a.eval s = vs) (hx : a.eval x = vx)
    (hrun : (Builtin.append_ #[t, t] o.type #[vs, vx]).run P w = .ok v' w') (h : wpList P ops Q rest (a.put o.dst v') w') : wpList P ops Q (o :: rest) a w :=
  wpList_plain hgd fun _ hK => by
    unfold Oper.wp execOp
    simp only [ho, resolve, invoke, builtin, Sem.run_bind, Sem.run_pure, Result.andThen_ok, List.map_toArray, List.map_cons, List.map_nil, hs, hx, hrun]
    exact hK _ _ h

theorem ints_one (k : IntKind) (l : List Int) : ∀ u ∈ ints k l, u.oneCell' = true := by
  intro u hu
  obtain ⟨x, _, rfl⟩ := List.mem_map.1 hu
  rfl
theorem own_form {w : World} {base : Nat} {e : TypeId} {size n : Nat} {v : Value} {xs : List Value} (h : w.ownsRow base e size v n xs) : ∃ A c, v = .slice A n c := by
  rcases h.2 with ⟨rfl, rfl⟩ | ⟨g, cap, cur, rfl, _⟩
  · exact ⟨none, 0, rfl⟩
  · exact ⟨_, cap, rfl⟩
theorem rd_of_own {w : World} {base : Nat} {e : TypeId} {size n c : Nat} {A : Option Addr} {xs : List Value} (h : w.ownsRow base e size (.slice A n c) n xs) : Rd w w.heap.size size A n xs := by
  refine ⟨h.1, fun hn => ?_⟩
  obtain ⟨g, cap, hv, _, hlt⟩ := h.form hn
  have hA : A = some ⟨g, 0, none⟩ := by injection hv
  subst hA
  exact ⟨_, rfl, hlt, h.cells (g := g) rfl⟩

theorem Rd.drewN {w : World} {B size n : Nat} {A : Option Addr} {xs : List Value} (h : Rd w B size A n xs) (k : Nat) : Rd (w.drewN k) B size A n xs := h

/-- Only draws lie between two worlds. -/
def Drew (w w' : World) : Prop := ∃ k, w' = w.drewN k
theorem Drew.refl (w : World) : Drew w w := ⟨0, rfl⟩
theorem Drew.add {w : World} (a b : Nat) : Drew w (w.drewN (a + b)) := ⟨_, rfl⟩

theorem Drew.below {B : Nat} {w w' : World} (h : Drew w w') : Below B w w' := by
  obtain ⟨k, rfl⟩ := h
  exact below_drewN (Below.refl _ _) k

theorem step_append_run {P : Program} {w : World} {ops : Array Oper} {o : Oper} {a : Act} {K : Act → World → Prop} {Q : Exit → Act → World → Prop} {E : Prop} (hgd : o.guard = none) (s x : Operand) (t : TypeId)
    (ho : o.op = .call { callee := .builtin .append, args := #[s, x], argTypes := #[t, t] }) (vs vx v' : Value) (w' : World) (hs : a.eval s = vs) (hx : a.eval x = vx)
    (hrun : (Builtin.append_ #[t, t] o.type #[vs, vx]).run P w = .ok v' w') (h : K (a.put o.dst v') w') : if Region.wanted o (yielded ops a.tmps) = true then Oper.wp P o a w K Q else E := by
  have hw : Region.wanted o (yielded ops a.tmps) = true := by simp [Region.wanted, hgd]
  rw [if_pos hw]
  unfold Oper.wp execOp
  simp only [ho, resolve, invoke, builtin, Sem.run_bind, Sem.run_pure, Result.andThen_ok, List.map_toArray, List.map_cons, List.map_nil, hs, hx, hrun]
  exact h

theorem add_add (a : Addr) (i j : Nat) : (a.add i).add j = a.add (i + j) := by
  unfold Addr.add
  by_cases hi : i = 0 <;> by_cases hj : j = 0 <;> simp [hi, hj, Nat.add_assoc]
theorem Rd.drop {w : World} {B n k : Nat} {ad : Addr} {l : List Int} (h : Rd w B 1 (some ad) n (ints .i64 l)) (hk : k < n) : Rd w B 1 (some (ad.add k)) (n - k) (ints .i64 (l.drop k)) := by
  have hl := h.ints_len
  refine ⟨by simp [ints]; omega, fun _ => ?_⟩
  obtain ⟨a2, e, hb, hc⟩ := h.2 (by omega)
  injection e with e
  subst e
  refine ⟨_, rfl, by rw [add_block]; exact hb, fun j u hu => ?_⟩
  rw [add_add]
  refine hc _ u ?_
  rw [← hu]; simp [ints, List.getElem?_drop]
theorem Rd.take {w : World} {B n k : Nat} {A : Option Addr} {l : List Int} (h : Rd w B 1 A n (ints .i64 l)) (hk : k ≤ n) : Rd w B 1 A k (ints .i64 (l.take k)) := by
  have hl := h.ints_len
  refine ⟨by simp [ints]; omega, fun h0 => ?_⟩
  obtain ⟨a2, e, hb, hc⟩ := h.2 (by omega)
  refine ⟨a2, e, hb, fun j u hu => hc j u ?_⟩
  have hj : j < k := by
    obtain ⟨h6, _⟩ := List.getElem?_eq_some_iff.1 hu
    simp [ints] at h6; omega
  rw [← hu]; simp [ints, hj]

theorem rd_two (w : World) (a b : Int) {T : TypeId} : Rd (w.alloc (.cells #[.int .i64 a, .int .i64 b] T)) (w.heap.size + 1) 1 (some ⟨w.heap.size, 0, none⟩) 2 (ints .i64 [a, b]) := by
  refine ⟨rfl, fun _ => ⟨_, rfl, by simp, ?_⟩⟩
  intro j u hu
  match j, hu with
  | 0, hu => simp [ints] at hu; subst hu; simp [Addr.add, go_sem]
  | 1, hu => simp [ints] at hu; subst hu; simp [Addr.add, go_sem]
  | j + 2, hu => simp [ints] at hu

theorem own_ne {w : World} {B : Nat} {e t : TypeId} {size n : Nat} {v : Value} {xs : List Value} {b : Nat} {cs : Array Value} (h : w.ownsRow B e size v n xs) (hb : w.heap[b]? = some (.cells cs t (0, 0))) (hne : e ≠ t) : v.ownBlock ≠ some b := by
  rcases h.2 with ⟨rfl, _⟩ | ⟨g, cap, cur, rfl, _, hh, _⟩
  · simp [Value.ownBlock]
  · intro he
    have : g = b := by simpa [Value.ownBlock] using he
    subst this
    rw [hh] at hb
    injection hb with hb
    injection hb with _ ht
    exact hne ht
theorem own_ge {w : World} {B : Nat} {e : TypeId} {size n : Nat} {v : Value} {xs : List Value} (h : w.ownsRow B e size v n xs) : ∀ k, v.ownBlock = some k → B ≤ k := by
  rcases h.2 with ⟨rfl, _⟩ | ⟨g, cap, cur, rfl, hB, _, _⟩
  · intro k h; cases h
  · intro k h
    have : g = k := by simpa [Value.ownBlock] using h
    omega

theorem own_kept {w w' : World} {B : Nat} {e : TypeId} {size n : Nat} {v : Value} {xs : List Value} (h : w.ownsRow B e size v n xs) (hk : ∀ k, k < w.heap.size → v.ownBlock = some k → w'.heap[k]? = w.heap[k]?) : w'.ownsRow B e size v n xs := by
  refine ⟨h.1, ?_⟩
  rcases h.2 with h2 | ⟨g, cap, cur, rfl, hB, hh, r⟩
  · exact .inl h2
  · exact .inr ⟨g, cap, cur, rfl, hB, (hk g (lt_of_blk hh) rfl).trans hh, r⟩

end Go.Proofs.YtjlokkjbdgcooaaGreat
