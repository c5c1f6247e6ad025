/-
  Rows that a call owns; what stays where something is written. No code.
-/
import Derived.Test.YtjlokkjbdgcooaaGreatMany2
namespace Go.Proofs.YtjlokkjbdgcooaaGreat
open Go.RowKit

def upd (F : Nat → Value) (i : Nat) (v : Value) : Nat → Value := fun k => if k = i then v else F k
theorem upd_same (F : Nat → Value) (i : Nat) (v : Value) : upd F i v i = v := by simp [upd]
theorem upd_other (F : Nat → Value) {i k : Nat} (v : Value) (h : k ≠ i) : upd F i v k = F k := by simp [upd, h]
theorem range_upd (V : Nat → Value) (m : Nat) (v : Value) : (List.range (m + 1)).map (upd V m v) = (List.range m).map V ++ [v] := by
  rw [List.range_succ, List.map_append]
  congr 1
  · apply List.map_congr_left
    intro k hk
    exact upd_other V v (by have := List.mem_range.1 hk; omega)
  · simp [upd]


theorem own_lt {w : World} {B : Nat} {e : TypeId} {size n : Nat} {v : Value} {xs : List Value} (h : w.ownsRow B e size v n xs) : ∀ k, v.ownBlock = some k → k < w.heap.size := by
  rcases h.2 with ⟨rfl, _⟩ | ⟨g, cap, cur, rfl, hB, hh, _⟩
  · intro k h; cases h
  · intro k h
    have : g = k := by simpa [Value.ownBlock] using h
    subst this
    exact lt_of_blk hh
theorem own_own_ne {w : World} {B B' : Nat} {e e' : TypeId} {s s' n n' : Nat} {v v' : Value} {xs xs' : List Value} (h : w.ownsRow B e s v n xs) (h' : w.ownsRow B' e' s' v' n' xs') (hne : e ≠ e') : ∀ k, v.ownBlock = some k → v'.ownBlock ≠ some k := by
  rcases h.2 with ⟨rfl, _⟩ | ⟨g, cap, cur, rfl, _, hh, _⟩
  · intro k hk; cases hk
  · intro k hk
    have : g = k := by simpa [Value.ownBlock] using hk
    subst this
    exact own_ne h' hh (fun e => hne e.symm)
theorem own_base {w : World} {B B' : Nat} {e : TypeId} {size n : Nat} {v : Value} {xs : List Value} (h : w.ownsRow B e size v n xs) (hB : B' ≤ B) : w.ownsRow B' e size v n xs := by
  refine ⟨h.1, ?_⟩
  rcases h.2 with h2 | ⟨g, cap, cur, hv, hg, r⟩
  · exact .inl h2
  · exact .inr ⟨g, cap, cur, hv, by omega, r⟩

theorem rd_one (w : World) (v : Value) (T : TypeId) : Rd (w.alloc (.cells #[v] T)) (w.heap.size + 1) 1 (some ⟨w.heap.size, 0, none⟩) 1 [v] := by
  refine ⟨rfl, fun _ => ⟨_, rfl, by simp, ?_⟩⟩
  intro j u hu
  match j, hu with
  | 0, hu => simp at hu; subst hu; simp [Addr.add, go_sem]
  | j + 1, hu => simp at hu
theorem Drew.kept {w w' : World} (h : Drew w w') (k : Nat) : w'.heap[k]? = w.heap[k]? := by obtain ⟨q, rfl⟩ := h; rfl
theorem Drew.size {w w' : World} (h : Drew w w') : w'.heap.size = w.heap.size := by obtain ⟨q, rfl⟩ := h; rfl
theorem Drew.trans {a b c : World} (h : Drew a b) (k : Drew b c) : Drew a c := by
  obtain ⟨q, rfl⟩ := h
  obtain ⟨r, rfl⟩ := k
  exact ⟨q + r, World.drewN_drewN _ _ _⟩
theorem Drew.mk (w : World) (k : Nat) : Drew w (w.drewN k) := ⟨k, rfl⟩
theorem quiet_drew {P : Program} {f : FuncId} {args : Array Value} {w : World} {n : Nat} {v : Value} (h : Calls P f args (w.drewN n) fun e w' => e = .returned v ∧ Drew (w.drewN n) w') : Calls P f args (w.drewN n) fun e w'' => e = .returned v ∧ ∃ m, w'' = w.drewN m :=
  h.mono fun _ _ ⟨he, m, hm⟩ => ⟨he, n + m, by rw [hm, World.drewN_drewN]⟩

/-- Blocks of other types than these stay as they were. -/
def Only (S : List TypeId) (w w' : World) : Prop := ∀ (k : Nat) (cur : Array Value) (e : TypeId), w.heap[k]? = some (.cells cur e (0, 0)) → ¬ e ∈ S → w'.heap[k]? = w.heap[k]?
theorem Only.refl (S : List TypeId) (w : World) : Only S w w := fun _ _ _ _ _ => rfl
theorem Only.trans {S : List TypeId} {a b c : World} (h : Only S a b) (k : Only S b c) : Only S a c := fun i cur e hi he => by
  have h1 := h i cur e hi he
  rw [k i cur e (h1.trans hi) he, h1]
theorem Only.wide {S T : List TypeId} {a b : World} (h : Only S a b) (hs : ∀ x, x ∈ S → x ∈ T) : Only T a b := fun i cur e hi he => h i cur e hi fun hx => he (hs e hx)
theorem Only.below {S : List TypeId} {a b : World} (h : Below a.heap.size a b) : Only S a b := fun i _ _ hi _ => h.block i (lt_of_blk hi)
theorem Only.drew {S : List TypeId} {a b : World} (h : Drew a b) : Only S a b := by obtain ⟨k, rfl⟩ := h; exact fun _ _ _ _ _ => rfl
theorem Only.own {S : List TypeId} {w w' : World} {B n size : Nat} {e : TypeId} {v : Value} {xs : List Value} (h : Only S w w') (ho : w.ownsRow B e size v n xs) (he : ¬ e ∈ S) : w'.ownsRow B e size v n xs := by
  refine ⟨ho.1, ?_⟩
  rcases ho.2 with h2 | ⟨g, cap, cur, hv, hB, hh, r⟩
  · exact .inl h2
  · exact .inr ⟨g, cap, cur, hv, hB, (h g cur e hh he).trans hh, r⟩
/-- A row's block is of its own type. -/
theorem own_block {w : World} {B n size k : Nat} {e : TypeId} {v : Value} {xs : List Value} (ho : w.ownsRow B e size v n xs) (hk : v.ownBlock = some k) : ∃ cur, w.heap[k]? = some (.cells cur e (0, 0)) := by
  rcases ho.2 with ⟨rfl, _⟩ | ⟨g, cap, cur, rfl, _, hh, _⟩
  · cases hk
  · have : g = k := by simpa [Value.ownBlock] using hk
    subst this; exact ⟨cur, hh⟩
/-- Where all blocks but one stay, and that one is of type e. -/
theorem Only.of_but {w w' : World} {o : Option Nat} {e : TypeId} (hk : ∀ k, k < w.heap.size → o ≠ some k → w'.heap[k]? = w.heap[k]?) (ho : ∀ k, o = some k → ∃ cur, w.heap[k]? = some (.cells cur e (0, 0))) : Only [e] w w' := by
  intro k cur e2 hh he
  refine hk k (lt_of_blk hh) fun hx => ?_
  obtain ⟨cur2, h2⟩ := ho k hx
  rw [h2] at hh
  injection hh with hh
  injection hh with _ hh
  exact he (by simp [hh])
theorem add_pos (a : Addr) {j : Nat} (h : j ≠ 0) : a.add j = ⟨a.block, a.off + j, none⟩ := by unfold Addr.add; rw [if_neg h]
/-- The cells behind an element's first one, as a walk spells them. -/
theorem cell_behind {w : World} {a : Addr} {i j : Nat} {v : Value} (h : w.cell? (a.add (i + j)) = some v) (hj : j ≠ 0) : w.cell? ⟨(a.add i).block, (a.add i).off + j, none⟩ = some v := by rw [← add_pos _ hj, add_add]; exact h
/-- What a new block holds. -/
theorem cells_new (w : World) (cs : List Value) (T : TypeId) : ∀ j u, cs[j]? = some u → (w.alloc (.cells cs.toArray T)).cell? (Addr.add ⟨w.heap.size, 0, none⟩ j) = some u := by
  intro j u h
  rw [Addr.add_lit, Nat.zero_add, cell_of (heap_new w _)]
  simpa using h
theorem own_cell {w : World} {B g n c size j : Nat} {e : TypeId} {xs : List Value} {u : Value} (h : w.ownsRow B e size (.slice (some ⟨g, 0, none⟩) n c) n xs) (hu : xs[j]? = some u) : w.cell? ⟨g, j, none⟩ = some u := by
  have := h.cells (g := g) rfl j u hu
  rwa [Addr.add_lit, Nat.zero_add] at this
theorem own_some {w : World} {B g n c size j : Nat} {e : TypeId} {xs : List Value} (h : w.ownsRow B e size (.slice (some ⟨g, 0, none⟩) n c) n xs) (hj : j < xs.length) : ∃ u, w.cell? ⟨g, j, none⟩ = some u := ⟨_, own_cell h (List.getElem?_eq_getElem hj)⟩
theorem own_warm {w : World} {B g n c size : Nat} {e : TypeId} {xs : List Value} (h : w.ownsRow B e size (.slice (some ⟨g, 0, none⟩) n c) n xs) (j : Nat) : w.frozen? ⟨g, j, none⟩ = false := by
  rcases h.2 with ⟨h1, _⟩ | ⟨g', cap', cur, h1, _, hh, _⟩
  · cases h1
  · injection h1 with h1
    injection h1 with h1
    injection h1 with h1
    subst h1
    exact warm_of hh j
set_option maxRecDepth 100000 in
theorem eql_array2 {P : Program} (w : World) (d : Nat) (t e : TypeId) (ht : P.underlying t = some (.array 2 e)) (he : P.underlying e = some (.int .i64)) (hsz : ∀ w, (sizeOf e).run P w = .ok 1 w) (x0 x1 y0 y1 : Int) :
    (Op.equalIn (d + 2) t (.agg #[.int .i64 x0, .int .i64 x1]) (.agg #[.int .i64 y0, .int .i64 y1])).run P w = .ok (x0 == y0 && (x1 == y1)) w := by
  rw [Op.equalIn]
  simp only [Sem.run_bind, run_underlying ht, Result.andThen_ok, hsz, Std.Legacy.Range.forIn_eq_forIn_range', Std.Legacy.Range.size, Nat.sub_zero, Nat.add_sub_cancel, Nat.div_one]
  simp only [List.range', List.forIn_cons, List.forIn_nil, Sem.run_bind]
  simp [part, isAgg, run_underlying he, run_equalIn_int _ d e .i64 .i64 _ _ he]
  by_cases h0 : x0 = y0 <;> by_cases h1 : x1 = y1 <;> simp [h0, h1]
set_option maxRecDepth 100000 in
theorem eql_array3 {P : Program} (w : World) (d : Nat) (t e : TypeId) (ht : P.underlying t = some (.array 3 e)) (he : P.underlying e = some (.int .i64)) (hsz : ∀ w, (sizeOf e).run P w = .ok 1 w) (x0 x1 x2 y0 y1 y2 : Int) :
    (Op.equalIn (d + 2) t (.agg #[.int .i64 x0, .int .i64 x1, .int .i64 x2]) (.agg #[.int .i64 y0, .int .i64 y1, .int .i64 y2])).run P w = .ok (x0 == y0 && (x1 == y1 && (x2 == y2))) w := by
  rw [Op.equalIn]
  simp only [Sem.run_bind, run_underlying ht, Result.andThen_ok, hsz, Std.Legacy.Range.forIn_eq_forIn_range', Std.Legacy.Range.size, Nat.sub_zero, Nat.add_sub_cancel, Nat.div_one]
  simp only [List.range', List.forIn_cons, List.forIn_nil, Sem.run_bind]
  simp [part, isAgg, run_underlying he, run_equalIn_int _ d e .i64 .i64 _ _ he]
  by_cases h0 : x0 = y0 <;> by_cases h1 : x1 = y1 <;> by_cases h2 : x2 = y2 <;> simp [h0, h1, h2]
/-- A whole struct or array read. -/
theorem load_agg {P : Program} {t : TypeId} {d : TypeDesc} {xs : List Value} (hu : P.underlying t = some d) (hd : (match d with | .struct _ | .array _ _ => true | _ => false) = true) (hi : (P.info? t).map (·.size) = some xs.length) (w : World) (a : Addr) (hc : ∀ j u, xs[j]? = some u → w.cell? (a.add j) = some u) :
    (Instr.loadAt t (.pointer (some a))).run P w = .ok (.agg xs.toArray) w := by
  have hl := run_loadCells_list (P := P) w a xs hc
  cases hq : P.info? t with
  | none => simp [hq] at hi
  | some i =>
    have hs : i.size = xs.length := by simpa [hq] using hi
    have hagg : (isAgg t).run P w = .ok true w := by
      unfold isAgg
      rw [Sem.run_bind, run_underlying hu w]
      cases d <;> simp_all
    simp [Instr.loadAt, Instr.sureAddr, loadVar, Sem.run_bind, hagg, sizeOf, typeInfo, hq, hs, hl]
/-- Cells set one behind the other. -/
def setL : List Value → Nat → List Value → List Value
  | xs, _, [] => xs
  | xs, o, v :: r => setL (xs.set o v) (o + 1) r
theorem setL_len : ∀ (vs xs : List Value) (o : Nat), (setL xs o vs).length = xs.length
  | [], _, _ => rfl
  | v :: r, xs, o => by rw [setL, setL_len r]; simp
theorem setL_mid : ∀ (vs a b : List Value), vs.length ≤ b.length → setL (a ++ b) a.length vs = a ++ vs ++ b.drop vs.length
  | [], a, b, _ => by simp [setL]
  | v :: r, a, b, h => by
    rcases b with _ | ⟨x, b⟩
    · simp at h
    · have := setL_mid r (a ++ [v]) b (by simpa using h)
      rw [setL, List.set_append_right _ _ (Nat.le_refl _), Nat.sub_self, List.set_cons_zero]
      rw [show a ++ v :: b = a ++ [v] ++ b by simp, show a.length + 1 = (a ++ [v]).length by simp, this]
      simp
theorem own_set1 {w : World} {B g n c k size : Nat} {e : TypeId} {l : List Value} (h : w.ownsRow B e size (.slice (some ⟨g, 0, none⟩) n c) n l) (x : Value) :
    (w.setCell ⟨g, k, none⟩ x).ownsRow B e size (.slice (some ⟨g, 0, none⟩) n c) n (l.set k x) := by
  have h0 := h.1
  rcases h.2 with ⟨h1, _⟩ | ⟨g', cap', cur, h1, hB, hh, h2, h3, h4, h5⟩
  · cases h1
  · injection h1 with h1 _ hc
    injection h1 with h1
    injection h1 with h1
    subst h1 hc
    refine ⟨by simpa using h0, .inr ⟨g, c, _, rfl, hB, set_here hh, h2, h3, by simpa using h4, ?_⟩⟩
    rw [Array.toList_setIfInBounds, List.take_set, h5]
theorem own_setL {B g n c size : Nat} {e : TypeId} : ∀ (vs : List Value) (w : World) (o : Nat) (l : List Value), w.ownsRow B e size (.slice (some ⟨g, 0, none⟩) n c) n l →
    (w.setCells g o vs).ownsRow B e size (.slice (some ⟨g, 0, none⟩) n c) n (setL l o vs)
  | [], _, _, _, h => h
  | v :: r, w, o, l, h => own_setL r (w.setCell ⟨g, o, none⟩ v) (o + 1) (l.set o v) (own_set1 h v)
theorem setCells_other {g : Nat} : ∀ (vs : List Value) (w : World) (o k : Nat), k ≠ g → (w.setCells g o vs).heap[k]? = w.heap[k]?
  | [], _, _, _, _ => rfl
  | v :: r, w, o, k, h => (setCells_other r (w.setCell ⟨g, o, none⟩ v) (o + 1) k h).trans (Below.heap_setCell _ _ _ _ h)
theorem setCells_below {g B : Nat} (hg : B ≤ g) : ∀ (vs : List Value) (w : World) (o : Nat), Below B w (w.setCells g o vs)
  | [], _, _ => Below.refl _ _
  | v :: r, w, o => ((Below.refl _ _).setCell (p := ⟨g, o, none⟩) hg v).trans (setCells_below hg r (w.setCell ⟨g, o, none⟩ v) (o + 1))
theorem setCells_only {w : World} {g : Nat} {e : TypeId} {cur : Array Value} (hg : w.heap[g]? = some (.cells cur e (0, 0))) (o : Nat) (vs : List Value) : Only [e] w (w.setCells g o vs) := by
  intro k cur2 e2 hh he
  refine setCells_other vs w o k ?_
  rintro rfl
  rw [hg] at hh
  injection hh with hh
  injection hh with _ hh
  exact he (by simp [hh])

end Go.Proofs.YtjlokkjbdgcooaaGreat

