/-
  Several texts, one behind the other: what each holds stands ahead of it.
-/
import Derived.Test.YtjlokkjbdgcooaaGreatMany2
import Derived.ArgAppend
import Derived.Test.YtjlokkjbdgcooaaGreatOwn

/-
  append onto a row of one's own, said so that rows which share its block are known to stay.
-/
namespace Go.Proofs.YtjlokkjbdgcooaaGreat
open Go.RowKit

theorem setCells_here {g : Nat} {e : TypeId} : ∀ (vs : List Value) (o : Nat) (w : World) (cur : Array Value), w.heap[g]? = some (.cells cur e (0, 0)) →
    ∃ cur', (w.setCells g o vs).heap[g]? = some (.cells cur' e (0, 0)) ∧ cur'.size = cur.size ∧ ∀ j, j < o → cur'[j]? = cur[j]?
  | [], _, _, cur, h => ⟨cur, h, rfl, fun _ _ => rfl⟩
  | v :: r, o, w, cur, h => by
    obtain ⟨cur', h1, h2, h3⟩ := setCells_here r (o + 1) (w.setCell ⟨g, o, none⟩ v) _ (set_here h)
    refine ⟨cur', h1, by simpa using h2, fun j hj => ?_⟩
    rw [h3 j (by omega), Array.getElem?_setIfInBounds_ne (by omega)]

/-- A row that shares the block of another one, and is no longer than it. -/
def StaysUnder (w w' : World) (e : TypeId) (size : Nat) (v : Value) (n : Nat) : Prop :=
  ∀ (B0 : Nat) (v0 : Value) (n0 : Nat) (xs0 : List Value), w.ownsRow B0 e size v0 n0 xs0 → n0 ≤ n → v0.ownBlock = v.ownBlock → w'.ownsRow B0 e size v0 n0 xs0

theorem append_strong {P : Program} {w : World} {t ty e : TypeId} {z : Value} {size bytes : Nat} (h : (P.info? e).map (fun i => (i.zero, i.size, i.bytes)) = some (some z, size, bytes)) (ht : P.underlying t = some (.slice e)) (hzs : z.cells.size = size) (hsz : 0 < size)
    (base : Nat) (v : Value) (n : Nat) (xs : List Value) (hown : w.ownsRow base e size v n xs)
    {B : Nat} {A : Option Addr} {m c : Nat} {news : List Value} (hr : Rd w B size A m news) (h1 : ∀ u ∈ news, u.oneCell' = true)
    (h63 : n + m ≤ maxLen) (hbytes : (n + m) * bytes ≤ 140737488355328) (hbase : base ≤ w.heap.size) :
    ∃ v' w', (Builtin.append_ #[t, t] ty #[v, .slice A m c]).run P w = .ok v' w' ∧ w'.ownsRow base e size v' (n + m) (xs ++ news) ∧ w.grownBy w' v.ownBlock ∧ (v'.ownBlock = v.ownBlock ∨ v'.ownBlock = some w.heap.size) ∧ StaysUnder w w' e size v n := by
  obtain ⟨v', w', hrun, h2, h3, h4⟩ := append_fresh (ty := ty) (c := c) h ht hzs hsz base v n xs hown hr h1 h63 hbytes hbase
  refine ⟨v', w', hrun, h2, h3, h4, ?_⟩
  intro B0 v0 n0 xs0 h0 hn0 hsame
  rcases h0.2 with ⟨rfl, rfl⟩ | ⟨g, cap0, cur0, rfl, hB0, hh0, hc1, hc2, hc3, hc4⟩
  · exact ⟨h0.1, .inl ⟨rfl, rfl⟩⟩
  rcases hown.2 with ⟨rfl, rfl⟩ | ⟨g', cap, cur, rfl, hB, hh, hd1, hd2, hd3, hd4⟩
  · cases hsame
  have hg : g = g' := by simpa [Value.ownBlock] using hsame
  subst hg
  rw [hh0] at hh
  injection hh with hh
  injection hh with hh
  subst hh
  -- the block behind the call
  have key : ∃ cur', w'.heap[g]? = some (.cells cur' e (0, 0)) ∧ cur'.size = cur0.size ∧ ∀ j, j < n * size → cur'[j]? = cur0[j]? := by
    obtain ⟨i, hi, hz, hi2, hi3⟩ := info_parts h
    rcases A with _ | ad
    · have hm : m = 0 := by
        rcases Nat.eq_zero_or_pos m with h0 | h0
        · exact h0
        · obtain ⟨ad, h, _⟩ := hr.2 h0
          cases h
      subst hm
      have hrun2 : (Builtin.append_ #[t, t] ty #[.slice (some ⟨g, 0, none⟩) n cap, .slice none 0 c]).run P w = .ok (.slice (some ⟨g, 0, none⟩) n cap) w := by
        simp [Builtin.append_, run_underlying ht, sizeOf, typeInfo, hi, Builtin.lenOf, Builtin.firstCells, hd1, storeCells]
      rw [hrun2] at hrun
      injection hrun with _ hw
      subst hw
      exact ⟨cur0, hh0, rfl, fun _ _ => rfl⟩
    · have hcells : ∀ j u, news[j]? = some u → w.cell? (ad.add j) = some u := by
        intro j u hu
        rcases Nat.eq_zero_or_pos m with h0 | h0
        · subst h0
          have hn : news = [] := List.eq_nil_of_length_eq_zero (by simpa using hr.1)
          subst hn
          simp at hu
        · obtain ⟨ad', h, _, hc⟩ := hr.2 h0
          injection h with h
          subst h
          exact hc j u hu
      have hnl : news.length = m * size := hr.1
      by_cases hroom : n + m ≤ cap
      · have hlt : ∀ j, j < news.length → n * size + j < cur0.size := by
          intro j hj
          have : (n + m) * size ≤ cap * size := Nat.mul_le_mul_right _ hroom
          rw [Nat.add_mul] at this
          omega
        have hrun2 := run_append_room_cells (P := P) w t ty e i ht hi g 0 n cap ad m c news (by rw [hi2]; exact hnl) hcells h1 hroom
          (fun j hj => by rw [hi2, Nat.zero_add, cell_of hh0, Array.getElem?_eq_getElem (hlt j hj)]; rfl)
          (fun j hj => warm_of hh0 _)
        rw [hrun2] at hrun
        injection hrun with _ hw
        subst hw
        rw [hi2, Nat.zero_add]
        exact setCells_here news (n * size) w cur0 hh0
      · have holds : ∀ j u, xs[j]? = some u → w.cell? (Addr.add ⟨g, 0, none⟩ j) = some u := hown.cells (g := g) rfl
        obtain ⟨v2, w2, hrun2, _, hg2⟩ := run_append_arg_grows (P := P) w t ty e i z size bytes ht hi hz hi2 hi3 hzs hsz ⟨g, 0, none⟩ n cap xs hown.1 holds ad m c news hnl hcells (by omega) h63 hbytes
        rw [hrun2] at hrun
        injection hrun with _ hw
        subst hw
        exact ⟨cur0, (hg2.block g (lt_of_blk hh0) (by simp)).trans hh0, rfl, fun _ _ => rfl⟩
  obtain ⟨cur', k1, k2, k3⟩ := key
  refine ⟨h0.1, .inr ⟨g, cap0, cur', rfl, hB0, k1, hc1, hc2, by omega, ?_⟩⟩
  rw [← hc4]
  apply List.ext_getElem?
  intro j
  by_cases hj : j < n0 * size
  · have : n0 * size ≤ n * size := Nat.mul_le_mul_right _ hn0
    rw [List.getElem?_take_of_lt hj, List.getElem?_take_of_lt hj, Array.getElem?_toList, Array.getElem?_toList, k3 j (by omega)]
  · rw [List.getElem?_eq_none (by rw [List.length_take]; omega), List.getElem?_eq_none (by rw [List.length_take]; omega)]
end Go.Proofs.YtjlokkjbdgcooaaGreat

/-
  The book's own block. No code.
-/
namespace Go.Proofs.YtjlokkjbdgcooaaGreat
open Go.RowKit

/-- The book's variable: its twenty lists of lists. -/
def BookAt (w : World) (b : Nat) (F : Nat → Value) : Prop :=
  w.heap[b]? = some (.cells #[F 0, F 1, F 2, F 3, F 4, F 5, F 6, F 7, F 8, F 9, F 10, F 11, F 12, F 13, F 14, F 15, F 16, F 17, F 18, F 19] 45 (0, 0))
theorem BookAt.cell {w : World} {b : Nat} {F : Nat → Value} (h : BookAt w b F) {i : Nat} (hi : i < 20) : w.cell? ⟨b, i, none⟩ = some (F i) := by
  rw [cell_of h]
  rcases (show i = 0 ∨ i = 1 ∨ i = 2 ∨ i = 3 ∨ i = 4 ∨ i = 5 ∨ i = 6 ∨ i = 7 ∨ i = 8 ∨ i = 9 ∨ i = 10 ∨ i = 11 ∨ i = 12 ∨ i = 13 ∨ i = 14 ∨ i = 15 ∨ i = 16 ∨ i = 17 ∨ i = 18 ∨ i = 19 by omega) with rfl | rfl | rfl | rfl | rfl | rfl | rfl | rfl | rfl | rfl | rfl | rfl | rfl | rfl | rfl | rfl | rfl | rfl | rfl | rfl <;> rfl
theorem BookAt.warm {w : World} {b : Nat} {F : Nat → Value} (h : BookAt w b F) (i : Nat) : w.frozen? ⟨b, i, none⟩ = false := warm_of h i
theorem BookAt.lt {w : World} {b : Nat} {F : Nat → Value} (h : BookAt w b F) : b < w.heap.size := lt_of_blk h
theorem BookAt.set {w : World} {b : Nat} {F : Nat → Value} (h : BookAt w b F) {i : Nat} (hi : i < 20) (v : Value) : BookAt (w.setCell ⟨b, i, none⟩ v) b (upd F i v) := by
  unfold BookAt
  rw [set_here h]
  rcases (show i = 0 ∨ i = 1 ∨ i = 2 ∨ i = 3 ∨ i = 4 ∨ i = 5 ∨ i = 6 ∨ i = 7 ∨ i = 8 ∨ i = 9 ∨ i = 10 ∨ i = 11 ∨ i = 12 ∨ i = 13 ∨ i = 14 ∨ i = 15 ∨ i = 16 ∨ i = 17 ∨ i = 18 ∨ i = 19 by omega) with rfl | rfl | rfl | rfl | rfl | rfl | rfl | rfl | rfl | rfl | rfl | rfl | rfl | rfl | rfl | rfl | rfl | rfl | rfl | rfl <;> rfl
theorem BookAt.kept {w w' : World} {b : Nat} {F : Nat → Value} (h : BookAt w b F) (hk : w'.heap[b]? = w.heap[b]?) : BookAt w' b F := hk.trans h

theorem Only.book {S : List TypeId} {w w' : World} {b : Nat} {F : Nat → Value} (h : Only S w w') (hb : BookAt w b F) (he : ¬ 45 ∈ S) : BookAt w' b F := hb.kept (h b _ _ hb he)
end Go.Proofs.YtjlokkjbdgcooaaGreat

/-
  A book's kinds of lists, all at once: what it keeps of a kind, one more list, marks put into them. No code.
-/
namespace Go.Proofs.YtjlokkjbdgcooaaGreat
open Go.RowKit

/-- A kind of lists: the place of its field in the book, the types of a list and of an element, how many cells an element has, the marks. -/
structure Kind where
  f : Nat
  t : TypeId
  e : TypeId
  size : Nat
  mark : Nat → Nat → List Value
  hf : f < 19
  hs : 0 < size
  hte : t ≠ e
  htb : t ≠ 45
  heb : e ≠ 45
  hm : ∀ i k, (mark i k).length = size

/-- n marks of list i, from place a. -/
def Kind.marks (K : Kind) (i a n : Nat) : List Value := (List.range n).flatMap fun k => K.mark i (a + k)
theorem Kind.marks_zero (K : Kind) (i a : Nat) : K.marks i a 0 = [] := rfl
theorem Kind.marks_succ (K : Kind) (i a n : Nat) : K.marks i a (n + 1) = K.marks i a n ++ K.mark i (a + n) := by simp [Kind.marks, List.range_succ]
theorem Kind.marks_len (K : Kind) (i a : Nat) : ∀ n, (K.marks i a n).length = n * K.size
  | 0 => by simp [Kind.marks]
  | n + 1 => by rw [K.marks_succ, List.length_append, K.marks_len i a n, K.hm, Nat.succ_mul]
theorem Kind.marks_add (K : Kind) (i n : Nat) : ∀ m, K.marks i 0 (n + m) = K.marks i 0 n ++ K.marks i n m
  | 0 => by simp [Kind.marks]
  | m + 1 => by rw [← Nat.add_assoc, K.marks_succ, K.marks_add i n m, K.marks_succ, List.append_assoc, Nat.zero_add]


/-- A table of lists: the i-th is V i. -/
def Kind.Tab (K : Kind) (w : World) (B : Nat) (v : Value) (m : Nat) (V : Nat → Value) : Prop := w.ownsRow B K.t 1 v m ((List.range m).map V)
/-- The lists themselves, each in a block of its own: N i elements, whose cells are L i. -/
def Kind.Rows (K : Kind) (w : World) (B m : Nat) (V : Nat → Value) (N : Nat → Nat) (L : Nat → List Value) : Prop :=
  (∀ i, i < m → w.ownsRow B K.e K.size (V i) (N i) (L i)) ∧ ∀ i j, i < m → j < m → i ≠ j → (V i).ownBlock ≠ none → (V i).ownBlock ≠ (V j).ownBlock
/-- What the book keeps of a kind: m lists V that read as L, and their copies U, that read as LU. -/
def Kind.KeptD (K : Kind) (w : World) (B b : Nat) (F : Nat → Value) (m : Nat) (V U : Nat → Value) (N : Nat → Nat) (L LU : Nat → List Value) : Prop :=
  BookAt w b F ∧ B ≤ b ∧ K.Tab w B (F K.f) m V ∧ K.Tab w B (F (K.f + 1)) m U ∧ (∀ k, (F K.f).ownBlock = some k → (F (K.f + 1)).ownBlock ≠ some k) ∧ K.Rows w B m V N L ∧ K.Rows w B m U N LU
/-- The same, of copies that read as the lists do. -/
def Kind.Kept (K : Kind) (w : World) (B b : Nat) (F : Nat → Value) (m : Nat) (V U : Nat → Value) (N : Nat → Nat) (L : Nat → List Value) : Prop := K.KeptD w B b F m V U N L L

section
variable {K : Kind} {w w' : World} {B b m : Nat} {F V U : Nat → Value} {N : Nat → Nat} {L : Nat → List Value}
theorem Kind.Rows.kept (h : K.Rows w B m V N L) (hk : ∀ i k, i < m → k < w.heap.size → (V i).ownBlock = some k → w'.heap[k]? = w.heap[k]?) : K.Rows w' B m V N L :=
  ⟨fun i hi => own_kept (h.1 i hi) fun k hk1 hk2 => hk i k hi hk1 hk2, h.2⟩
theorem Kind.Rows.only {S : List TypeId} (h : K.Rows w B m V N L) (ho : Only S w w') (he : ¬ K.e ∈ S) : K.Rows w' B m V N L := ⟨fun i hi => ho.own (h.1 i hi) he, h.2⟩
theorem Kind.Rows.congr {N' : Nat → Nat} {L' : Nat → List Value} (h : K.Rows w B m V N L) (e1 : ∀ i, i < m → N i = N' i) (e2 : ∀ i, i < m → L i = L' i) : K.Rows w B m V N' L' :=
  ⟨fun i hi => by rw [← e1 i hi, ← e2 i hi]; exact h.1 i hi, h.2⟩
theorem Kind.Kept.below (h : K.Kept w B b F m V U N L) (hb : Below w.heap.size w w') : K.Kept w' B b F m V U N L := by
  obtain ⟨h1, h2, h3, h4, h5, h6, h7⟩ := h
  exact ⟨h1.kept (hb.block b h1.lt), h2, own_kept h3 fun k hk _ => hb.block k hk, own_kept h4 fun k hk _ => hb.block k hk, h5, h6.kept fun _ k _ hk _ => hb.block k hk, h7.kept fun _ k _ hk _ => hb.block k hk⟩
theorem Kind.KeptD.below {LU : Nat → List Value} (h : K.KeptD w B b F m V U N L LU) (hb : Below w.heap.size w w') : K.KeptD w' B b F m V U N L LU := by
  obtain ⟨h1, h2, h3, h4, h5, h6, h7⟩ := h
  exact ⟨h1.kept (hb.block b h1.lt), h2, own_kept h3 fun k hk _ => hb.block k hk, own_kept h4 fun k hk _ => hb.block k hk, h5, h6.kept fun _ k _ hk _ => hb.block k hk, h7.kept fun _ k _ hk _ => hb.block k hk⟩
theorem Kind.KeptD.congr {N' : Nat → Nat} {L' LU LU' : Nat → List Value} (h : K.KeptD w B b F m V U N L LU) (e1 : ∀ i, i < m → N i = N' i) (e2 : ∀ i, i < m → L i = L' i) (e3 : ∀ i, i < m → LU i = LU' i) : K.KeptD w B b F m V U N' L' LU' :=
  ⟨h.1, h.2.1, h.2.2.1, h.2.2.2.1, h.2.2.2.2.1, h.2.2.2.2.2.1.congr e1 e2, h.2.2.2.2.2.2.congr e1 e3⟩
theorem Kind.KeptD.other {S : List TypeId} {F' : Nat → Value} {LU : Nat → List Value} (h : K.KeptD w B b F m V U N L LU) (ho : Only S w w') (hb : BookAt w' b F') (hF : F' K.f = F K.f) (hF' : F' (K.f + 1) = F (K.f + 1)) (ht : ¬ K.t ∈ S) (he : ¬ K.e ∈ S) : K.KeptD w' B b F' m V U N L LU := by
  obtain ⟨h1, h2, h3, h4, h5, h6, h7⟩ := h
  refine ⟨hb, h2, ?_, ?_, ?_, h6.only ho he, h7.only ho he⟩
  · rw [hF]; exact ho.own h3 ht
  · rw [hF']; exact ho.own h4 ht
  · rw [hF, hF']; exact h5
theorem Kind.KeptD.rows {LU : Nat → List Value} {S : List TypeId} (h : K.KeptD w B b F m V U N L LU) (ho : Only S w w') (hB : ¬ 45 ∈ S) (ht : ¬ K.t ∈ S)
    (hr : ∀ i k, i < m → k < w.heap.size → ((V i).ownBlock = some k ∨ (U i).ownBlock = some k) → w'.heap[k]? = w.heap[k]?) : K.KeptD w' B b F m V U N L LU := by
  obtain ⟨h1, h2, h3, h4, h5, h6, h7⟩ := h
  exact ⟨ho.book h1 hB, h2, ho.own h3 ht, ho.own h4 ht, h5, h6.kept fun i k hi hk hv => hr i k hi hk (.inl hv), h7.kept fun i k hi hk hv => hr i k hi hk (.inr hv)⟩
theorem Kind.Kept.drew (h : K.Kept w B b F m V U N L) (hd : Drew w w') : K.Kept w' B b F m V U N L := h.below hd.below
theorem Kind.Kept.congr {N' : Nat → Nat} {L' : Nat → List Value} (h : K.Kept w B b F m V U N L) (e1 : ∀ i, i < m → N i = N' i) (e2 : ∀ i, i < m → L i = L' i) : K.Kept w B b F m V U N' L' :=
  ⟨h.1, h.2.1, h.2.2.1, h.2.2.2.1, h.2.2.2.2.1, h.2.2.2.2.2.1.congr e1 e2, h.2.2.2.2.2.2.congr e1 e2⟩
/-- What another kind's calls leave of it: its tables and lists; the book's block may have changed in other fields. -/
theorem Kind.Kept.other {S : List TypeId} {F' : Nat → Value} (h : K.Kept w B b F m V U N L) (ho : Only S w w') (hb : BookAt w' b F') (hF : F' K.f = F K.f) (hF' : F' (K.f + 1) = F (K.f + 1)) (ht : ¬ K.t ∈ S) (he : ¬ K.e ∈ S) : K.Kept w' B b F' m V U N L := by
  obtain ⟨h1, h2, h3, h4, h5, h6, h7⟩ := h
  refine ⟨hb, h2, ?_, ?_, ?_, h6.only ho he, h7.only ho he⟩
  · rw [hF]; exact ho.own h3 ht
  · rw [hF']; exact ho.own h4 ht
  · rw [hF, hF']; exact h5
theorem Kind.Kept.new (K : Kind) (w : World) (B b : Nat) (F : Nat → Value) (hB : BookAt w b F) (hb : B ≤ b) (h1 : F K.f = .slice none 0 0) (h2 : F (K.f + 1) = .slice none 0 0) (V U : Nat → Value) (N : Nat → Nat) (L : Nat → List Value) : K.Kept w B b F 0 V U N L := by
  refine ⟨hB, hb, ?_, ?_, ?_, ⟨(fun i h => by omega), (fun i j h => by omega)⟩, ⟨(fun i h => by omega), (fun i j h => by omega)⟩⟩
  · rw [h1]; exact World.ownsRow_nil _ _ _ _
  · rw [h2]; exact World.ownsRow_nil _ _ _ _
  · rw [h1]; intro k h; cases h
end

theorem Kind.Rows.more {K : Kind} {w : World} {B m n : Nat} {V : Nat → Value} {N : Nat → Nat} {L : Nat → List Value} {v : Value} {l : List Value} (h : K.Rows w B m V N L) (hv : w.ownsRow B K.e K.size v n l) (hd : ∀ i, i < m → ∀ k, v.ownBlock = some k → (V i).ownBlock ≠ some k) :
    K.Rows w B (m + 1) (upd V m v) (fun k => if k = m then n else N k) (fun k => if k = m then l else L k) := by
  refine ⟨fun i hi => ?_, fun i j hi hj hij hnn => ?_⟩
  · by_cases e : i = m
    · subst e; rw [upd_same]; simpa using hv
    · rw [upd_other V v e]; simp only [e, if_false]; exact h.1 i (by omega)
  · by_cases ei : i = m
    · have ej : j ≠ m := by omega
      subst ei
      rw [upd_same] at hnn ⊢
      rw [upd_other V v ej]
      cases hv2 : v.ownBlock with
      | none => exact absurd hv2 hnn
      | some k => exact fun e => hd j (by omega) k hv2 e.symm
    · rw [upd_other V v ei] at hnn ⊢
      by_cases ej : j = m
      · subst ej
        rw [upd_same]
        cases hv2 : (V i).ownBlock with
        | none => exact absurd hv2 hnn
        | some k => exact fun e => hd i (by omega) k e.symm hv2
      · rw [upd_other V v ej]
        exact h.2 i j (by omega) (by omega) hij hnn

/-- One more list in a table: T is the type of a table. -/
theorem Kind.push {K : Kind} {w : World} {B m : Nat} {T : TypeId} {v : Value} {V : Nat → Value} (hT : K.Tab w B v m V) (hinfo : (Tryz.prog.info? K.t).map (fun i => (i.zero, i.size, i.bytes)) = some (some (.slice none 0 0), 1, 24)) (hu : Tryz.prog.underlying T = some (.slice K.t)) (x : Value) (hx : x.oneCell' = true) (hm : m < 1000000) (hB : B ≤ w.heap.size) :
    ∃ v' w', (Builtin.append_ #[T, T] T #[v, .slice (some ⟨w.heap.size, 0, none⟩) 1 1]).run Tryz.prog (w.alloc (.cells #[x] K.t)) = .ok v' w' ∧ K.Tab w' B v' (m + 1) (upd V m x) ∧
      w.heap.size + 1 ≤ w'.heap.size ∧ (∀ k, k < w.heap.size → v.ownBlock ≠ some k → w'.heap[k]? = w.heap[k]?) ∧ (v'.ownBlock = v.ownBlock ∨ v'.ownBlock = some (w.heap.size + 1)) ∧
      w'.os = w.os ∧ w'.tape = w.tape ∧ w'.output = w.output := by
  have hT' : (w.alloc (.cells #[x] K.t)).ownsRow B K.t 1 v m ((List.range m).map V) := own_kept hT fun k hk _ => Below.heap_alloc _ _ _ hk
  obtain ⟨v', w', hrun, h1, h2, h3, _⟩ := append_strong (P := Tryz.prog) (ty := T) (c := 1) hinfo hu rfl (by omega) B v m _ hT' (rd_one w x K.t) (fun u hu => by simp at hu; subst hu; exact hx) (by unfold maxLen; omega) (by omega) (by simp; omega)
  refine ⟨v', w', hrun, ?_, by have := h2.size; simpa using this, fun k hk hne => ?_, by simpa using h3, h2.os, h2.tape, h2.output⟩
  · unfold Kind.Tab
    rw [range_upd]
    exact h1
  · rw [h2.block k (by simp; omega) (fun e => hne e.symm), Below.heap_alloc _ _ _ hk]

/-- The first half of a push: the list itself. -/
theorem Kind.first {K : Kind} {w w1 : World} {B b m : Nat} {F V U : Nat → Value} {N : Nat → Nat} {L LU : Nat → List Value} {v1 : Value} (h : K.KeptD w B b F m V U N L LU) (lv : Value)
    (ht : K.Tab w1 B v1 (m + 1) (upd V m lv)) (hk : ∀ k, k < w.heap.size → (F K.f).ownBlock ≠ some k → w1.heap[k]? = w.heap[k]?) (hc : v1.ownBlock = (F K.f).ownBlock ∨ v1.ownBlock = some (w.heap.size + 1)) :
    BookAt (w1.setCell ⟨b, K.f, none⟩ v1) b (upd F K.f v1) ∧ K.Tab (w1.setCell ⟨b, K.f, none⟩ v1) B v1 (m + 1) (upd V m lv) ∧ K.Tab (w1.setCell ⟨b, K.f, none⟩ v1) B (F (K.f + 1)) m U ∧ (∀ k, v1.ownBlock = some k → (F (K.f + 1)).ownBlock ≠ some k) ∧
      K.Rows (w1.setCell ⟨b, K.f, none⟩ v1) B m V N L ∧ K.Rows (w1.setCell ⟨b, K.f, none⟩ v1) B m U N LU ∧ w1.cell? ⟨b, K.f, none⟩ = some (F K.f) ∧ w1.frozen? ⟨b, K.f, none⟩ = false ∧
      Only [K.t, 45] w (w1.setCell ⟨b, K.f, none⟩ v1) := by
  obtain ⟨h1, h2, h3, h4, h5, h6, h7⟩ := h
  have hf := K.hf
  have hb1 : w1.heap[b]? = w.heap[b]? := hk b h1.lt (own_ne h3 h1 K.htb)
  have hB1 := h1.kept hb1
  have hO : Only [K.t, 45] w (w1.setCell ⟨b, K.f, none⟩ v1) := by
    intro k cur e hh he
    have hkb : k ≠ b := by
      rintro rfl
      rw [h1] at hh
      injection hh with hh
      injection hh with _ hh
      exact he (by simp [hh])
    rw [Below.heap_setCell _ _ _ _ hkb]
    refine hk k (lt_of_blk hh) fun hx => ?_
    obtain ⟨cur2, h8⟩ := own_block h3 hx
    rw [h8] at hh
    injection hh with hh
    injection hh with _ hh
    exact he (by simp [hh])
  have hne : ¬ K.e ∈ [K.t, 45] := by
    simp only [List.mem_cons, List.not_mem_nil, or_false, not_or]
    exact ⟨fun e => K.hte e.symm, K.heb⟩
  refine ⟨hB1.set (by omega) v1, ?_, ?_, ?_, h6.only hO hne, h7.only hO hne, hB1.cell (by omega), hB1.warm _, hO⟩
  · exact own_kept ht fun k _ hk2 => Below.heap_setCell _ _ _ _ (fun e => own_ne ht hB1 K.htb (by rw [hk2]; exact congrArg some e))
  · refine own_kept h4 fun k hk1 hk2 => ?_
    rw [Below.heap_setCell _ _ _ _ (fun e => own_ne h4 h1 K.htb (by rw [hk2]; exact congrArg some e))]
    exact hk k hk1 (fun e => h5 k e hk2)
  · intro k hk1 hk2
    rcases hc with hc | hc
    · exact h5 k (by rw [← hc]; exact hk1) hk2
    · have := own_lt h4 k hk2
      rw [hc] at hk1
      injection hk1 with hk1
      omega

/-- What the second half leaves alone. -/
theorem Kind.second_only {K : Kind} {w3 w4 : World} {B b m f : Nat} {F3 U : Nat → Value} {v v4 : Value} (hB3 : BookAt w3 b F3) (ht : K.Tab w3 B v m U) (hk : ∀ k, k < w3.heap.size → v.ownBlock ≠ some k → w4.heap[k]? = w3.heap[k]?) : Only [K.t, 45] w3 (w4.setCell ⟨b, f, none⟩ v4) := by
  intro k cur e hh he
  have hkb : k ≠ b := by
    rintro rfl
    rw [hB3] at hh
    injection hh with hh
    injection hh with _ hh
    exact he (by simp [hh])
  rw [Below.heap_setCell _ _ _ _ hkb]
  refine hk k (lt_of_blk hh) fun hx => ?_
  obtain ⟨cur2, h8⟩ := own_block ht hx
  rw [h8] at hh
  injection hh with hh
  injection hh with _ hh
  exact he (by simp [hh])

/-- The second half of a push: the copy. -/
theorem Kind.second {K : Kind} {w2 w3 w4 : World} {B b m n : Nat} {F V U : Nat → Value} {N : Nat → Nat} {L LU : Nat → List Value} {lv cv v1 v4 : Value} {l l2 : List Value}
    (hBA : BookAt w2 b (upd F K.f v1)) (hBb : B ≤ b) (ht1 : K.Tab w2 B v1 (m + 1) (upd V m lv)) (ht2 : K.Tab w2 B (F (K.f + 1)) m U) (hsep : ∀ k, v1.ownBlock = some k → (F (K.f + 1)).ownBlock ≠ some k) (hLV : K.Rows w2 B m V N L) (hLU : K.Rows w2 B m U N LU)
    (hlv : w2.ownsRow B K.e K.size lv n l) (hd : ∀ i, i < m → ∀ k, lv.ownBlock = some k → (V i).ownBlock ≠ some k)
    (hb3 : Below w2.heap.size w2 w3) (hcv : w3.ownsRow w2.heap.size K.e K.size cv n l2)
    (ht4 : K.Tab w4 B v4 (m + 1) (upd U m cv)) (hk : ∀ k, k < w3.heap.size → (F (K.f + 1)).ownBlock ≠ some k → w4.heap[k]? = w3.heap[k]?) (hc : v4.ownBlock = (F (K.f + 1)).ownBlock ∨ v4.ownBlock = some (w3.heap.size + 1)) (hBs : B ≤ w2.heap.size) :
    K.KeptD (w4.setCell ⟨b, K.f + 1, none⟩ v4) B b (upd (upd F K.f v1) (K.f + 1) v4) (m + 1) (upd V m lv) (upd U m cv) (fun k => if k = m then n else N k) (fun k => if k = m then l else L k) (fun k => if k = m then l2 else LU k) ∧ w4.cell? ⟨b, K.f + 1, none⟩ = some (F (K.f + 1)) ∧ w4.frozen? ⟨b, K.f + 1, none⟩ = false ∧
      Only [K.t, 45] w2 (w4.setCell ⟨b, K.f + 1, none⟩ v4) := by
  have hz := hb3.size
  have hf := K.hf
  have hbl := hBA.lt
  have ht2b : K.Tab w3 B (F (K.f + 1)) m U := own_kept ht2 fun k hk _ => hb3.block k hk
  have ht1b : K.Tab w3 B v1 (m + 1) (upd V m lv) := own_kept ht1 fun k hk _ => hb3.block k hk
  have hB3 : BookAt w3 b (upd F K.f v1) := hBA.kept (hb3.block b hbl)
  have hB4 : BookAt w4 b (upd F K.f v1) := hB3.kept (hk b (by omega) (own_ne ht2b hB3 K.htb))
  have hO3 : Only [K.t, 45] w3 (w4.setCell ⟨b, K.f + 1, none⟩ v4) := by
    intro k cur e hh he
    have hkb : k ≠ b := by
      rintro rfl
      rw [hB3] at hh
      injection hh with hh
      injection hh with _ hh
      exact he (by simp [hh])
    rw [Below.heap_setCell _ _ _ _ hkb]
    refine hk k (lt_of_blk hh) fun hx => ?_
    obtain ⟨cur2, h8⟩ := own_block ht2b hx
    rw [h8] at hh
    injection hh with hh
    injection hh with _ hh
    exact he (by simp [hh])
  have hO : Only [K.t, 45] w2 (w4.setCell ⟨b, K.f + 1, none⟩ v4) := (Only.below hb3).trans hO3
  have hne : ¬ K.e ∈ [K.t, 45] := by
    simp only [List.mem_cons, List.not_mem_nil, or_false, not_or]
    exact ⟨fun e => K.hte e.symm, K.heb⟩
  refine ⟨⟨hB4.set (by omega) v4, hBb, ?_, ?_, ?_, (hLV.only hO hne).more (hO.own hlv hne) hd, (hLU.only hO hne).more (hO3.own (own_base hcv hBs) hne) ?_⟩, ?_, hB4.warm _, hO⟩
  · show K.Tab _ B (upd (upd F K.f v1) (K.f + 1) v4 K.f) (m + 1) _
    rw [upd_other _ _ (by omega), upd_same]
    refine own_kept ht1b fun k hk1 hk2 => ?_
    rw [Below.heap_setCell _ _ _ _ (fun e => own_ne ht1b hB3 K.htb (by rw [hk2]; exact congrArg some e))]
    exact hk k hk1 (fun e => hsep k hk2 e)
  · show K.Tab _ B (upd (upd F K.f v1) (K.f + 1) v4 (K.f + 1)) (m + 1) _
    rw [upd_same]
    exact own_kept ht4 fun k _ hk2 => Below.heap_setCell _ _ _ _ (fun e => own_ne ht4 hB4 K.htb (by rw [hk2]; exact congrArg some e))
  · intro k hk1
    rw [upd_other _ _ (by omega), upd_same] at hk1
    rw [upd_same]
    intro hk2
    rcases hc with hc | hc
    · exact hsep k hk1 (by rw [← hc]; exact hk2)
    · have := own_lt ht1b k hk1
      rw [hc] at hk2
      injection hk2 with hk2
      omega
  · intro i hi k hk1 hk2
    have h1 := own_ge hcv k hk1
    have h2 := own_lt (hLU.1 i hi) k hk2
    omega
  · have := hB4.cell (i := K.f + 1) (by omega)
    rwa [upd_other _ _ (by omega)] at this
end Go.Proofs.YtjlokkjbdgcooaaGreat
