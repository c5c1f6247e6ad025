/-
  Several texts, one behind the other: what each holds stands ahead of it.
-/
import Derived.Test.YtmgncoialppmpaaGreatMany1

/-
  Rows that a call owns; what stays where something is written. No code.
-/
namespace Go.Proofs.YtmgncoialppmpaaGreat
open Go.RowKit

def upd (F : Nat → Value) (i : Nat) (v : Value) : Nat → Value := fun k => if k = i then v else F k
theorem upd_same (F : Nat → Value) (i : Nat) (v : Value) : upd F i v i = v := by simp [upd]
theorem upd_other (F : Nat → Value) {i k : Nat} (v : Value) (h : k ≠ i) : upd F i v k = F k := by simp [upd, h]
theorem range_upd (V : Nat → Value) (m : Nat) (v : Value) : (List.range (m + 1)).map (upd V m v) = (List.range m).map V ++ [v] := by
  rw [List.range_succ, List.map_append]
  congr 1
  · apply List.map_congr_left
    intro k hk
    exact upd_other V v (by have := List.mem_range.1 hk; omega)
  · simp [upd]


theorem own_lt {w : World} {B : Nat} {e : TypeId} {size n : Nat} {v : Value} {xs : List Value} (h : w.ownsRow B e size v n xs) : ∀ k, v.ownBlock = some k → k < w.heap.size := by
  rcases h.2 with ⟨rfl, _⟩ | ⟨g, cap, cur, rfl, hB, hh, _⟩
  · intro k h; cases h
  · intro k h
    have : g = k := by simpa [Value.ownBlock] using h
    subst this
    exact lt_of_blk hh
theorem own_own_ne {w : World} {B B' : Nat} {e e' : TypeId} {s s' n n' : Nat} {v v' : Value} {xs xs' : List Value} (h : w.ownsRow B e s v n xs) (h' : w.ownsRow B' e' s' v' n' xs') (hne : e ≠ e') : ∀ k, v.ownBlock = some k → v'.ownBlock ≠ some k := by
  rcases h.2 with ⟨rfl, _⟩ | ⟨g, cap, cur, rfl, _, hh, _⟩
  · intro k hk; cases hk
  · intro k hk
    have : g = k := by simpa [Value.ownBlock] using hk
    subst this
    exact own_ne h' hh (fun e => hne e.symm)
theorem own_base {w : World} {B B' : Nat} {e : TypeId} {size n : Nat} {v : Value} {xs : List Value} (h : w.ownsRow B e size v n xs) (hB : B' ≤ B) : w.ownsRow B' e size v n xs := by
  refine ⟨h.1, ?_⟩
  rcases h.2 with h2 | ⟨g, cap, cur, hv, hg, r⟩
  · exact .inl h2
  · exact .inr ⟨g, cap, cur, hv, by omega, r⟩

theorem rd_one (w : World) (v : Value) (T : TypeId) : Rd (w.alloc (.cells #[v] T)) (w.heap.size + 1) 1 (some ⟨w.heap.size, 0, none⟩) 1 [v] := by
  refine ⟨rfl, fun _ => ⟨_, rfl, by simp, ?_⟩⟩
  intro j u hu
  match j, hu with
  | 0, hu => simp at hu; subst hu; simp [Addr.add, go_sem]
  | j + 1, hu => simp at hu
theorem Drew.kept {w w' : World} (h : Drew w w') (k : Nat) : w'.heap[k]? = w.heap[k]? := by obtain ⟨q, rfl⟩ := h; rfl
theorem Drew.size {w w' : World} (h : Drew w w') : w'.heap.size = w.heap.size := by obtain ⟨q, rfl⟩ := h; rfl
theorem Drew.trans {a b c : World} (h : Drew a b) (k : Drew b c) : Drew a c := by
  obtain ⟨q, rfl⟩ := h
  obtain ⟨r, rfl⟩ := k
  exact ⟨q + r, World.drewN_drewN _ _ _⟩
theorem Drew.mk (w : World) (k : Nat) : Drew w (w.drewN k) := ⟨k, rfl⟩
theorem quiet_drew {P : Program} {f : FuncId} {args : Array Value} {w : World} {n : Nat} {v : Value} (h : Calls P f args (w.drewN n) fun e w' => e = .returned v ∧ Drew (w.drewN n) w') : Calls P f args (w.drewN n) fun e w'' => e = .returned v ∧ ∃ m, w'' = w.drewN m :=
  h.mono fun _ _ ⟨he, m, hm⟩ => ⟨he, n + m, by rw [hm, World.drewN_drewN]⟩

/-- Blocks of other types than these stay as they were. -/
def Only (S : List TypeId) (w w' : World) : Prop := ∀ (k : Nat) (cur : Array Value) (e : TypeId), w.heap[k]? = some (.cells cur e (0, 0)) → ¬ e ∈ S → w'.heap[k]? = w.heap[k]?
theorem Only.refl (S : List TypeId) (w : World) : Only S w w := fun _ _ _ _ _ => rfl
theorem Only.trans {S : List TypeId} {a b c : World} (h : Only S a b) (k : Only S b c) : Only S a c := fun i cur e hi he => by
  have h1 := h i cur e hi he
  rw [k i cur e (h1.trans hi) he, h1]
theorem Only.wide {S T : List TypeId} {a b : World} (h : Only S a b) (hs : ∀ x, x ∈ S → x ∈ T) : Only T a b := fun i cur e hi he => h i cur e hi fun hx => he (hs e hx)
theorem Only.below {S : List TypeId} {a b : World} (h : Below a.heap.size a b) : Only S a b := fun i _ _ hi _ => h.block i (lt_of_blk hi)
theorem Only.drew {S : List TypeId} {a b : World} (h : Drew a b) : Only S a b := by obtain ⟨k, rfl⟩ := h; exact fun _ _ _ _ _ => rfl
theorem Only.own {S : List TypeId} {w w' : World} {B n size : Nat} {e : TypeId} {v : Value} {xs : List Value} (h : Only S w w') (ho : w.ownsRow B e size v n xs) (he : ¬ e ∈ S) : w'.ownsRow B e size v n xs := by
  refine ⟨ho.1, ?_⟩
  rcases ho.2 with h2 | ⟨g, cap, cur, hv, hB, hh, r⟩
  · exact .inl h2
  · exact .inr ⟨g, cap, cur, hv, hB, (h g cur e hh he).trans hh, r⟩
/-- A row's block is of its own type. -/
theorem own_block {w : World} {B n size k : Nat} {e : TypeId} {v : Value} {xs : List Value} (ho : w.ownsRow B e size v n xs) (hk : v.ownBlock = some k) : ∃ cur, w.heap[k]? = some (.cells cur e (0, 0)) := by
  rcases ho.2 with ⟨rfl, _⟩ | ⟨g, cap, cur, rfl, _, hh, _⟩
  · cases hk
  · have : g = k := by simpa [Value.ownBlock] using hk
    subst this; exact ⟨cur, hh⟩
/-- Where all blocks but one stay, and that one is of type e. -/
theorem Only.of_but {w w' : World} {o : Option Nat} {e : TypeId} (hk : ∀ k, k < w.heap.size → o ≠ some k → w'.heap[k]? = w.heap[k]?) (ho : ∀ k, o = some k → ∃ cur, w.heap[k]? = some (.cells cur e (0, 0))) : Only [e] w w' := by
  intro k cur e2 hh he
  refine hk k (lt_of_blk hh) fun hx => ?_
  obtain ⟨cur2, h2⟩ := ho k hx
  rw [h2] at hh
  injection hh with hh
  injection hh with _ hh
  exact he (by simp [hh])
theorem add_pos (a : Addr) {j : Nat} (h : j ≠ 0) : a.add j = ⟨a.block, a.off + j, none⟩ := by unfold Addr.add; rw [if_neg h]
/-- The cells behind an element's first one, as a walk spells them. -/
theorem cell_behind {w : World} {a : Addr} {i j : Nat} {v : Value} (h : w.cell? (a.add (i + j)) = some v) (hj : j ≠ 0) : w.cell? ⟨(a.add i).block, (a.add i).off + j, none⟩ = some v := by rw [← add_pos _ hj, add_add]; exact h
/-- What a new block holds. -/
theorem cells_new (w : World) (cs : List Value) (T : TypeId) : ∀ j u, cs[j]? = some u → (w.alloc (.cells cs.toArray T)).cell? (Addr.add ⟨w.heap.size, 0, none⟩ j) = some u := by
  intro j u h
  rw [Addr.add_lit, Nat.zero_add, cell_of (heap_new w _)]
  simpa using h
theorem own_cell {w : World} {B g n c size j : Nat} {e : TypeId} {xs : List Value} {u : Value} (h : w.ownsRow B e size (.slice (some ⟨g, 0, none⟩) n c) n xs) (hu : xs[j]? = some u) : w.cell? ⟨g, j, none⟩ = some u := by
  have := h.cells (g := g) rfl j u hu
  rwa [Addr.add_lit, Nat.zero_add] at this
theorem own_some {w : World} {B g n c size j : Nat} {e : TypeId} {xs : List Value} (h : w.ownsRow B e size (.slice (some ⟨g, 0, none⟩) n c) n xs) (hj : j < xs.length) : ∃ u, w.cell? ⟨g, j, none⟩ = some u := ⟨_, own_cell h (List.getElem?_eq_getElem hj)⟩
theorem own_warm {w : World} {B g n c size : Nat} {e : TypeId} {xs : List Value} (h : w.ownsRow B e size (.slice (some ⟨g, 0, none⟩) n c) n xs) (j : Nat) : w.frozen? ⟨g, j, none⟩ = false := by
  rcases h.2 with ⟨h1, _⟩ | ⟨g', cap', cur, h1, _, hh, _⟩
  · cases h1
  · injection h1 with h1
    injection h1 with h1
    injection h1 with h1
    subst h1
    exact warm_of hh j
set_option maxRecDepth 100000 in
theorem eql_array2 {P : Program} (w : World) (d : Nat) (t e : TypeId) (ht : P.underlying t = some (.array 2 e)) (he : P.underlying e = some (.int .i64)) (hsz : ∀ w, (sizeOf e).run P w = .ok 1 w) (x0 x1 y0 y1 : Int) :
    (Op.equalIn (d + 2) t (.agg #[.int .i64 x0, .int .i64 x1]) (.agg #[.int .i64 y0, .int .i64 y1])).run P w = .ok (x0 == y0 && (x1 == y1)) w := by
  rw [Op.equalIn]
  simp only [Sem.run_bind, run_underlying ht, Result.andThen_ok, hsz, Std.Legacy.Range.forIn_eq_forIn_range', Std.Legacy.Range.size, Nat.sub_zero, Nat.add_sub_cancel, Nat.div_one]
  simp only [List.range', List.forIn_cons, List.forIn_nil, Sem.run_bind]
  simp [part, isAgg, run_underlying he, run_equalIn_int _ d e .i64 .i64 _ _ he]
  by_cases h0 : x0 = y0 <;> by_cases h1 : x1 = y1 <;> simp [h0, h1]
set_option maxRecDepth 100000 in
theorem eql_array3 {P : Program} (w : World) (d : Nat) (t e : TypeId) (ht : P.underlying t = some (.array 3 e)) (he : P.underlying e = some (.int .i64)) (hsz : ∀ w, (sizeOf e).run P w = .ok 1 w) (x0 x1 x2 y0 y1 y2 : Int) :
    (Op.equalIn (d + 2) t (.agg #[.int .i64 x0, .int .i64 x1, .int .i64 x2]) (.agg #[.int .i64 y0, .int .i64 y1, .int .i64 y2])).run P w = .ok (x0 == y0 && (x1 == y1 && (x2 == y2))) w := by
  rw [Op.equalIn]
  simp only [Sem.run_bind, run_underlying ht, Result.andThen_ok, hsz, Std.Legacy.Range.forIn_eq_forIn_range', Std.Legacy.Range.size, Nat.sub_zero, Nat.add_sub_cancel, Nat.div_one]
  simp only [List.range', List.forIn_cons, List.forIn_nil, Sem.run_bind]
  simp [part, isAgg, run_underlying he, run_equalIn_int _ d e .i64 .i64 _ _ he]
  by_cases h0 : x0 = y0 <;> by_cases h1 : x1 = y1 <;> by_cases h2 : x2 = y2 <;> simp [h0, h1, h2]
/-- A whole struct or array read. -/
theorem load_agg {P : Program} {t : TypeId} {d : TypeDesc} {xs : List Value} (hu : P.underlying t = some d) (hd : (match d with | .struct _ | .array _ _ => true | _ => false) = true) (hi : (P.info? t).map (·.size) = some xs.length) (w : World) (a : Addr) (hc : ∀ j u, xs[j]? = some u → w.cell? (a.add j) = some u) :
    (Instr.loadAt t (.pointer (some a))).run P w = .ok (.agg xs.toArray) w := by
  have hl := run_loadCells_list (P := P) w a xs hc
  cases hq : P.info? t with
  | none => simp [hq] at hi
  | some i =>
    have hs : i.size = xs.length := by simpa [hq] using hi
    have hagg : (isAgg t).run P w = .ok true w := by
      unfold isAgg
      rw [Sem.run_bind, run_underlying hu w]
      cases d <;> simp_all
    simp [Instr.loadAt, Instr.sureAddr, loadVar, Sem.run_bind, hagg, sizeOf, typeInfo, hq, hs, hl]
/-- Cells set one behind the other. -/
def setL : List Value → Nat → List Value → List Value
  | xs, _, [] => xs
  | xs, o, v :: r => setL (xs.set o v) (o + 1) r
theorem setL_len : ∀ (vs xs : List Value) (o : Nat), (setL xs o vs).length = xs.length
  | [], _, _ => rfl
  | v :: r, xs, o => by rw [setL, setL_len r]; simp
theorem setL_mid : ∀ (vs a b : List Value), vs.length ≤ b.length → setL (a ++ b) a.length vs = a ++ vs ++ b.drop vs.length
  | [], a, b, _ => by simp [setL]
  | v :: r, a, b, h => by
    rcases b with _ | ⟨x, b⟩
    · simp at h
    · have := setL_mid r (a ++ [v]) b (by simpa using h)
      rw [setL, List.set_append_right _ _ (Nat.le_refl _), Nat.sub_self, List.set_cons_zero]
      rw [show a ++ v :: b = a ++ [v] ++ b by simp, show a.length + 1 = (a ++ [v]).length by simp, this]
      simp
theorem own_set1 {w : World} {B g n c k size : Nat} {e : TypeId} {l : List Value} (h : w.ownsRow B e size (.slice (some ⟨g, 0, none⟩) n c) n l) (x : Value) :
    (w.setCell ⟨g, k, none⟩ x).ownsRow B e size (.slice (some ⟨g, 0, none⟩) n c) n (l.set k x) := by
  have h0 := h.1
  rcases h.2 with ⟨h1, _⟩ | ⟨g', cap', cur, h1, hB, hh, h2, h3, h4, h5⟩
  · cases h1
  · injection h1 with h1 _ hc
    injection h1 with h1
    injection h1 with h1
    subst h1 hc
    refine ⟨by simpa using h0, .inr ⟨g, c, _, rfl, hB, set_here hh, h2, h3, by simpa using h4, ?_⟩⟩
    rw [Array.toList_setIfInBounds, List.take_set, h5]
theorem own_setL {B g n c size : Nat} {e : TypeId} : ∀ (vs : List Value) (w : World) (o : Nat) (l : List Value), w.ownsRow B e size (.slice (some ⟨g, 0, none⟩) n c) n l →
    (w.setCells g o vs).ownsRow B e size (.slice (some ⟨g, 0, none⟩) n c) n (setL l o vs)
  | [], _, _, _, h => h
  | v :: r, w, o, l, h => own_setL r (w.setCell ⟨g, o, none⟩ v) (o + 1) (l.set o v) (own_set1 h v)
theorem setCells_other {g : Nat} : ∀ (vs : List Value) (w : World) (o k : Nat), k ≠ g → (w.setCells g o vs).heap[k]? = w.heap[k]?
  | [], _, _, _, _ => rfl
  | v :: r, w, o, k, h => (setCells_other r (w.setCell ⟨g, o, none⟩ v) (o + 1) k h).trans (Below.heap_setCell _ _ _ _ h)
theorem setCells_below {g B : Nat} (hg : B ≤ g) : ∀ (vs : List Value) (w : World) (o : Nat), Below B w (w.setCells g o vs)
  | [], _, _ => Below.refl _ _
  | v :: r, w, o => ((Below.refl _ _).setCell (p := ⟨g, o, none⟩) hg v).trans (setCells_below hg r (w.setCell ⟨g, o, none⟩ v) (o + 1))
theorem setCells_only {w : World} {g : Nat} {e : TypeId} {cur : Array Value} (hg : w.heap[g]? = some (.cells cur e (0, 0))) (o : Nat) (vs : List Value) : Only [e] w (w.setCells g o vs) := by
  intro k cur2 e2 hh he
  refine setCells_other vs w o k ?_
  rintro rfl
  rw [hg] at hh
  injection hh with hh
  injection hh with _ hh
  exact he (by simp [hh])

end Go.Proofs.YtmgncoialppmpaaGreat

/-
  Lists whose rows rise by a number: what is found, where one would stand, what is put in and taken out. No code.
-/
namespace Go.Proofs.YtmgncoialppmpaaGreat
open Go.RowKit

section
variable {α β : Type} {key : α → Int}
def posK (key : α → Int) (l : List α) (x : Int) : Nat := (l.takeWhile fun a => decide (key a < x)).length
def findK (key : α → Int) (l : List α) (x : Int) : Option α := l.find? fun a => key a == x
def Rise (key : α → Int) (l : List α) : Prop := l.Pairwise fun a b => key a < key b
def restK (key : α → Int) (l : List α) (x : Int) : List α := l.drop (posK key l x + if (findK key l x).isSome = true then 1 else 0)
/-- A row put in, or in another one's place. -/
def putK (key : α → Int) (l : List α) (a : α) : List α := l.take (posK key l (key a)) ++ a :: restK key l (key a)
/-- A row taken out. -/
def dropK (key : α → Int) (l : List α) (x : Int) : List α := l.take (posK key l x) ++ restK key l x

theorem posK_le (l : List α) (x : Int) : posK key l x ≤ l.length := by unfold posK; exact (List.takeWhile_prefix _).length_le
theorem posK_cons (a : α) (l : List α) (x : Int) : posK key (a :: l) x = if key a < x then posK key l x + 1 else 0 := by
  unfold posK
  by_cases h : key a < x <;> simp [List.takeWhile_cons, h]
theorem posK_lt : ∀ (l : List α) (x : Int) (k : Nat) (a : α), k < posK key l x → l[k]? = some a → key a < x
  | [], x, k, a, _, h2 => by simp at h2
  | b :: l, x, k, a, h1, h2 => by
    rw [posK_cons] at h1
    split at h1
    · cases k with
      | zero => simp at h2; subst h2; assumption
      | succ k => exact posK_lt l x k a (by omega) (by simpa using h2)
    · omega
theorem posK_at : ∀ (l : List α) (x : Int) (a : α), l[posK key l x]? = some a → x ≤ key a
  | [], x, a, h => by simp at h
  | b :: l, x, a, h => by
    rw [posK_cons] at h
    split at h
    · exact posK_at l x a (by simpa using h)
    · simp at h; subst h; omega
theorem posK_eq {l : List α} {x : Int} {i : Nat} (hi : i ≤ l.length) (h1 : ∀ k a, k < i → l[k]? = some a → key a < x) (h2 : ∀ a, l[i]? = some a → x ≤ key a) : posK key l x = i := by
  rcases Nat.lt_trichotomy (posK key l x) i with h | h | h
  · have hl : posK key l x < l.length := by omega
    have := posK_at l x _ (List.getElem?_eq_getElem hl)
    have := h1 _ _ h (List.getElem?_eq_getElem hl)
    omega
  · exact h
  · have := posK_le (key := key) l x
    have hl : i < l.length := by omega
    have := posK_lt l x i _ h (List.getElem?_eq_getElem hl)
    have := h2 _ (List.getElem?_eq_getElem hl)
    omega
theorem Rise.lt {l : List α} (h : Rise key l) {i j : Nat} {a b : α} (hij : i < j) (hi : l[i]? = some a) (hj : l[j]? = some b) : key a < key b := by
  obtain ⟨h1, rfl⟩ := List.getElem?_eq_some_iff.1 hi
  obtain ⟨h2, rfl⟩ := List.getElem?_eq_some_iff.1 hj
  exact List.pairwise_iff_getElem.1 h i j h1 h2 hij
theorem Rise.le {l : List α} (h : Rise key l) {i j : Nat} {a b : α} (hij : i ≤ j) (hi : l[i]? = some a) (hj : l[j]? = some b) : key a ≤ key b := by
  rcases Nat.lt_or_ge i j with h1 | h1
  · have := h.lt h1 hi hj; omega
  · obtain rfl : i = j := by omega
    rw [hi] at hj
    injection hj with hj
    rw [hj]; exact Int.le_refl _
/-- In a list that rises what is found stands at its place. -/
theorem findK_at : ∀ {l : List α}, Rise key l → ∀ x, findK key l x = (l[posK key l x]?).bind fun a => if key a = x then some a else none
  | [], _, x => rfl
  | b :: l, h, x => by
    rw [posK_cons]
    unfold Rise at h
    rw [List.pairwise_cons] at h
    unfold findK
    rw [List.find?_cons]
    rcases Int.lt_trichotomy (key b) x with hb | hb | hb
    · have h1 : (key b == x) = false := by simp; omega
      rw [h1, if_pos hb]
      exact findK_at h.2 x
    · have h1 : (key b == x) = true := by simp; omega
      rw [h1, if_neg (by omega)]
      simp [hb]
    · have h1 : (key b == x) = false := by simp; omega
      rw [h1, if_neg (by omega)]
      have : l.find? (fun a => key a == x) = none := by
        rw [List.find?_eq_none]
        intro a ha
        have := h.1 a ha
        simp; omega
      rw [this]
      simp; omega
theorem findK_some {l : List α} (h : Rise key l) {x : Int} {a : α} (hf : findK key l x = some a) : l[posK key l x]? = some a ∧ key a = x := by
  rw [findK_at h] at hf
  cases hq : l[posK key l x]? with
  | none => simp [hq] at hf
  | some b =>
    rw [hq] at hf
    by_cases hb : key b = x
    · simp [hb] at hf; subst hf; exact ⟨rfl, hb⟩
    · simp [hb] at hf
theorem findK_none {l : List α} (h : Rise key l) {x : Int} (hf : findK key l x = none) {a : α} (ha : l[posK key l x]? = some a) : x < key a := by
  have h1 := posK_at l x a ha
  rw [findK_at h, ha] at hf
  by_cases hb : key a = x
  · simp [hb] at hf
  · omega
theorem findK_mem {l : List α} {x : Int} {a : α} (hf : findK key l x = some a) : a ∈ l ∧ key a = x := by
  refine ⟨List.mem_of_find?_eq_some hf, ?_⟩
  have := List.find?_some hf
  simpa using this
theorem findK_no {l : List α} {x : Int} (hf : findK key l x = none) : ∀ a ∈ l, key a ≠ x := by
  intro a ha
  have := List.find?_eq_none.1 hf a ha
  simpa using this
theorem findK_of {l : List α} (h : Rise key l) {i : Nat} {a : α} (ha : l[i]? = some a) : findK key l (key a) = some a := by
  cases hf : findK key l (key a) with
  | none => exact absurd rfl (findK_no hf a (List.mem_of_getElem? ha))
  | some b =>
    obtain ⟨h1, h2⟩ := findK_some h hf
    rcases Nat.lt_trichotomy (posK key l (key a)) i with h3 | h3 | h3
    · have := h.lt h3 h1 ha; omega
    · rw [h3, ha] at h1; exact h1.symm
    · have := h.lt h3 ha h1; omega
theorem posK_of {l : List α} (h : Rise key l) {i : Nat} {a : α} (ha : l[i]? = some a) : posK key l (key a) = i :=
  posK_eq (by have := (List.getElem?_eq_some_iff.1 ha).1; omega) (fun k b hk hb => h.lt hk hb ha) fun b hb => by rw [ha] at hb; injection hb with hb; rw [hb]; exact Int.le_refl _
theorem rest_gtK {l : List α} (h : Rise key l) (x : Int) : ∀ b ∈ restK key l x, x < key b := by
  intro b hb
  unfold restK at hb
  obtain ⟨j, hj⟩ := List.mem_iff_getElem?.1 hb
  rw [List.getElem?_drop] at hj
  have hl := (List.getElem?_eq_some_iff.1 hj).1
  have hp : posK key l x < l.length := by omega
  have hg := List.getElem?_eq_getElem hp
  cases hf : findK key l x with
  | none =>
    have h1 := findK_none h hf hg
    have h2 := h.le (by omega) hg hj
    omega
  | some a =>
    obtain ⟨h1, h2⟩ := findK_some h hf
    rw [hf] at hj
    have := h.lt (by simp; omega) h1 hj
    omega
theorem take_ltK (l : List α) (x : Int) : ∀ b ∈ l.take (posK key l x), key b < x := by
  intro b hb
  obtain ⟨j, hj⟩ := List.mem_iff_getElem?.1 hb
  rw [List.getElem?_take] at hj
  split at hj
  · exact posK_lt l _ j b ‹_› hj
  · cases hj
theorem Rise.rest {l : List α} (h : Rise key l) (x : Int) : Rise key (restK key l x) := h.sublist (List.drop_sublist _ _)
theorem Rise.put {l : List α} (h : Rise key l) (a : α) : Rise key (putK key l a) := by
  unfold putK Rise
  rw [List.pairwise_append, List.pairwise_cons]
  refine ⟨h.sublist (List.take_sublist _ _), ⟨rest_gtK h _, h.rest _⟩, fun b hb c hc => ?_⟩
  have h1 := take_ltK l (key a) b hb
  rcases List.mem_cons.1 hc with rfl | hc
  · exact h1
  · have := rest_gtK h _ c hc; omega
theorem Rise.drop {l : List α} (h : Rise key l) (x : Int) : Rise key (dropK key l x) := by
  unfold dropK Rise
  rw [List.pairwise_append]
  refine ⟨h.sublist (List.take_sublist _ _), h.rest _, fun b hb c hc => ?_⟩
  have h1 := take_ltK l x b hb
  have := rest_gtK h _ c hc; omega
theorem mem_rest {l : List α} {x : Int} {a : α} (h : a ∈ restK key l x) : a ∈ l := List.mem_of_mem_drop h
theorem mem_put {l : List α} {a b : α} (h : b ∈ putK key l a) : b = a ∨ b ∈ l := by
  unfold putK at h
  rcases List.mem_append.1 h with h | h
  · exact .inr (List.mem_of_mem_take h)
  · rcases List.mem_cons.1 h with h | h
    · exact .inl h
    · exact .inr (mem_rest h)
theorem mem_drop {l : List α} {x : Int} {b : α} (h : b ∈ dropK key l x) : b ∈ l := by
  unfold dropK at h
  rcases List.mem_append.1 h with h | h
  · exact List.mem_of_mem_take h
  · exact mem_rest h
theorem restK_some {l : List α} {x : Int} (h : (findK key l x).isSome = true) : restK key l x = l.drop (posK key l x + 1) := by unfold restK; rw [h]; rfl
theorem restK_none {l : List α} {x : Int} (h : (findK key l x).isSome = false) : restK key l x = l.drop (posK key l x) := by unfold restK; rw [h]; rfl
theorem findK_lt {l : List α} (h : Rise key l) {x : Int} (hf : (findK key l x).isSome = true) : posK key l x < l.length := by
  obtain ⟨a, ha⟩ := Option.isSome_iff_exists.1 hf
  exact (List.getElem?_eq_some_iff.1 (findK_some h ha).1).1
/-- In another one's place. -/
theorem putK_found {l : List α} (h : Rise key l) {a : α} (hf : (findK key l (key a)).isSome = true) : putK key l a = l.set (posK key l (key a)) a := by
  unfold putK
  rw [restK_some hf, List.set_eq_take_append_cons_drop, if_pos (findK_lt h hf)]
theorem putK_fresh {l : List α} {a : α} (hf : (findK key l (key a)).isSome = false) : putK key l a = l.take (posK key l (key a)) ++ a :: l.drop (posK key l (key a)) := by
  unfold putK
  rw [restK_none hf]
theorem putK_len {l : List α} (h : Rise key l) {a : α} : (putK key l a).length = if (findK key l (key a)).isSome = true then l.length else l.length + 1 := by
  split
  · rw [putK_found h ‹_›]; simp
  · have := posK_le (key := key) l (key a)
    have hn : (findK key l (key a)).isSome = false := Bool.eq_false_iff.2 ‹¬ _›
    rw [putK_fresh hn]; simp; omega
theorem dropK_found {l : List α} {x : Int} (hf : (findK key l x).isSome = true) : dropK key l x = l.take (posK key l x) ++ l.drop (posK key l x + 1) := by unfold dropK; rw [restK_some hf]
theorem dropK_none {l : List α} {x : Int} (hf : (findK key l x).isSome = false) : dropK key l x = l := by unfold dropK; rw [restK_none hf, List.take_append_drop]
/-- What is found behind a row that was put. -/
theorem find_app {l m : List α} {x : Int} : findK key (l ++ m) x = (findK key l x).or (findK key m x) := by unfold findK; rw [List.find?_append]
theorem findK_out {l : List α} {x : Int} (h : ∀ a ∈ l, key a ≠ x) : findK key l x = none := by
  unfold findK
  rw [List.find?_eq_none]
  intro a ha
  simpa using h a ha
theorem find_put_same {l : List α} (a : α) : findK key (putK key l a) (key a) = some a := by
  unfold putK
  rw [find_app, findK_out fun b hb => by have := take_ltK l (key a) b hb; omega]
  simp [findK]
theorem find_split {l : List α} (h : Rise key l) (y : Int) (x : Int) (hx : x ≠ y) : findK key l x = (findK key (l.take (posK key l y)) x).or (findK key (restK key l y) x) := by
  cases hf : findK key l y with
  | none =>
    rw [restK_none (by rw [hf]; rfl), ← find_app, List.take_append_drop]
  | some a =>
    obtain ⟨h1, h2⟩ := findK_some h hf
    have hl := (List.getElem?_eq_some_iff.1 h1).1
    rw [restK_some (by rw [hf]; rfl)]
    conv => lhs; rw [← List.take_append_drop (posK key l y) l, List.drop_eq_getElem_cons hl]
    rw [find_app]
    congr 1
    have : l[posK key l y] = a := by rw [List.getElem?_eq_getElem hl] at h1; injection h1
    unfold findK
    rw [List.find?_cons, this]
    have : (key a == x) = false := by simp; omega
    rw [this]
theorem find_put_other {l : List α} (h : Rise key l) (a : α) {x : Int} (hx : x ≠ key a) : findK key (putK key l a) x = findK key l x := by
  rw [find_split h (key a) x hx]
  unfold putK
  rw [find_app]
  congr 1
  unfold findK
  rw [List.find?_cons]
  have : (key a == x) = false := by simp; omega
  rw [this]
theorem find_drop_same {l : List α} (h : Rise key l) (x : Int) : findK key (dropK key l x) x = none := by
  refine findK_out fun b hb => ?_
  unfold dropK at hb
  rcases List.mem_append.1 hb with hb | hb
  · have := take_ltK l x b hb; omega
  · have := rest_gtK h x b hb; omega
theorem find_drop_other {l : List α} (h : Rise key l) (y : Int) {x : Int} (hx : x ≠ y) : findK key (dropK key l y) x = findK key l x := by
  rw [find_split h y x hx]
  unfold dropK
  rw [find_app]
/-- Rows under a map. -/
theorem posK_map (f : β → α) (l : List β) (x : Int) : posK key (l.map f) x = posK (fun b => key (f b)) l x := by
  induction l with
  | nil => rfl
  | cons b l ih => rw [List.map_cons, posK_cons, posK_cons, ih]
theorem findK_map (f : β → α) (l : List β) (x : Int) : findK key (l.map f) x = (findK (fun b => key (f b)) l x).map f := by
  unfold findK
  rw [List.find?_map]; rfl
theorem restK_map (f : β → α) (l : List β) (x : Int) : restK key (l.map f) x = (restK (fun b => key (f b)) l x).map f := by
  unfold restK
  rw [posK_map, findK_map, Option.isSome_map, List.map_drop]
theorem putK_map (f : β → α) (l : List β) (b : β) : putK key (l.map f) (f b) = (putK (fun b => key (f b)) l b).map f := by
  unfold putK
  rw [restK_map, posK_map, List.map_append, List.map_cons, List.map_take]
theorem dropK_map (f : β → α) (l : List β) (x : Int) : dropK key (l.map f) x = (dropK (fun b => key (f b)) l x).map f := by
  unfold dropK
  rw [restK_map, posK_map, List.map_append, List.map_take]
theorem Rise.map {f : β → α} {l : List β} : Rise key (l.map f) ↔ Rise (fun b => key (f b)) l := by
  unfold Rise
  rw [List.pairwise_map]
theorem Rise.nil : Rise key ([] : List α) := List.Pairwise.nil
theorem dropK_filter {l : List α} (h : Rise key l) (x : Int) : dropK key l x = l.filter fun a => key a != x := by
  have h1 : l.take (posK key l x) = (l.take (posK key l x)).filter fun a => key a != x := by
    rw [List.filter_eq_self.2]
    intro a ha
    have := take_ltK l x a ha
    simp; omega
  have h2 : restK key l x = (restK key l x).filter fun a => key a != x := by
    rw [List.filter_eq_self.2]
    intro a ha
    have := rest_gtK h x a ha
    simp; omega
  unfold dropK
  rw [h1, h2, ← List.filter_append]
  cases hf : findK key l x with
  | none => rw [restK_none (by rw [hf]; rfl), List.take_append_drop]
  | some a =>
    obtain ⟨h3, h4⟩ := findK_some h hf
    have hl := (List.getElem?_eq_some_iff.1 h3).1
    have he : l[posK key l x] = a := by rw [List.getElem?_eq_getElem hl] at h3; injection h3
    rw [restK_some (by rw [hf]; rfl)]
    conv => rhs; rw [← List.take_append_drop (posK key l x) l, List.drop_eq_getElem_cons hl, he]
    rw [List.filter_append, List.filter_append, List.filter_cons]
    simp [h4]
end
end Go.Proofs.YtmgncoialppmpaaGreat
