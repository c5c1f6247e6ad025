/-
  Several texts, one behind the other: what each holds stands ahead of it.
-/
import Derived.Test.YtjlokkjbdgcooaaGreatMany25
import Derived.Test.YtjlokkjbdgcooaaGreatBookEmpty
import Derived.Deep.RegionLaw

/-
  A book's kinds of lists: marks put into them; lists that are grown. No code.
-/
namespace Go.Proofs.YtjlokkjbdgcooaaGreat
open Go.RowKit

/-- The lists that are kept, without their copies. -/
def Kind.KeptV (K : Kind) (w : World) (B b : Nat) (F : Nat → Value) (m : Nat) (V : Nat → Value) (N : Nat → Nat) (L : Nat → List Value) : Prop := BookAt w b F ∧ B ≤ b ∧ K.Tab w B (F K.f) m V ∧ K.Rows w B m V N L
section
variable {K : Kind} {w w' : World} {B b m : Nat} {F V U : Nat → Value} {N : Nat → Nat} {L : Nat → List Value}
theorem Kind.KeptD.lists {LU : Nat → List Value} (h : K.KeptD w B b F m V U N L LU) : K.KeptV w B b F m V N L := ⟨h.1, h.2.1, h.2.2.1, h.2.2.2.2.2.1⟩
theorem Kind.Kept.lists (h : K.Kept w B b F m V U N L) : K.KeptV w B b F m V N L := ⟨h.1, h.2.1, h.2.2.1, h.2.2.2.2.2.1⟩
theorem Kind.KeptV.below (h : K.KeptV w B b F m V N L) (hb : Below w.heap.size w w') : K.KeptV w' B b F m V N L := by
  obtain ⟨h1, h2, h3, h4⟩ := h
  exact ⟨h1.kept (hb.block b h1.lt), h2, own_kept h3 fun k hk _ => hb.block k hk, h4.kept fun _ k _ hk _ => hb.block k hk⟩
theorem Kind.KeptV.congr {N' : Nat → Nat} {L' : Nat → List Value} (h : K.KeptV w B b F m V N L) (e1 : ∀ i, i < m → N i = N' i) (e2 : ∀ i, i < m → L i = L' i) : K.KeptV w B b F m V N' L' :=
  ⟨h.1, h.2.1, h.2.2.1, h.2.2.2.congr e1 e2⟩
theorem Kind.KeptV.other {S : List TypeId} (h : K.KeptV w B b F m V N L) (ho : Only S w w') (hB : ¬ 45 ∈ S) (ht : ¬ K.t ∈ S) (he : ¬ K.e ∈ S) : K.KeptV w' B b F m V N L :=
  ⟨ho.book h.1 hB, h.2.1, ho.own h.2.2.1 ht, h.2.2.2.only ho he⟩
end

theorem Kind.KeptV.put {K : Kind} {w : World} {B b m i g c o : Nat} {F V : Nat → Value} {N : Nat → Nat} {L : Nat → List Value} (h : K.KeptV w B b F m V N L) (hi : i < m) (hv : V i = .slice (some ⟨g, 0, none⟩) (N i) c) (vs : List Value) :
    K.KeptV (w.setCells g o vs) B b F m V N (fun j => if j = i then setL (L i) o vs else L j) := by
  obtain ⟨h1, h2, h3, h4⟩ := h
  have hr := h4.1 i hi
  rw [hv] at hr
  have hgb : b ≠ g := fun e => own_ne hr h1 K.heb (by rw [e]; rfl)
  refine ⟨h1.kept (setCells_other _ _ _ _ hgb), h2, own_kept h3 fun q _ hq => setCells_other _ _ _ _ (fun e => own_own_ne h3 hr K.hte q hq (by rw [e]; rfl)), ⟨fun j hj => ?_, h4.2⟩⟩
  by_cases e : j = i
  · subst e
    simp only [if_true]
    rw [hv]
    exact own_setL vs w o _ hr
  · simp only [e, if_false]
    refine own_kept (h4.1 j hj) fun q _ hq => setCells_other _ _ _ _ (fun e2 => ?_)
    have := h4.2 i j hi hj (fun h => e h.symm) (by rw [hv]; simp [Value.ownBlock])
    rw [hv, hq] at this
    exact this (by rw [e2]; rfl)

/-- The lists, the first i of them marked. -/
def Kind.markTo (K : Kind) (N : Nat → Nat) (L : Nat → List Value) (i : Nat) (j : Nat) : List Value := if j < i then K.marks j 0 (N j) else L j
/-- List i, its first k elements marked. -/
def Kind.markAt (K : Kind) (N : Nat → Nat) (L : Nat → List Value) (i k : Nat) (j : Nat) : List Value := if j = i then K.marks i 0 k ++ (L i).drop (k * K.size) else K.markTo N L i j
theorem Kind.markAt_zero (K : Kind) (N : Nat → Nat) (L : Nat → List Value) (i j : Nat) : K.markTo N L i j = K.markAt N L i 0 j := by
  unfold Kind.markAt Kind.markTo
  by_cases e : j = i
  · subst e; simp [Kind.marks]
  · simp [e]
theorem Kind.markAt_end (K : Kind) (N : Nat → Nat) (L : Nat → List Value) (i j : Nat) (h : (L i).length = N i * K.size) : K.markAt N L i (N i) j = K.markTo N L (i + 1) j := by
  unfold Kind.markAt Kind.markTo
  by_cases e : j = i
  · subst e; simp [h]
  · simp only [e, if_false]
    by_cases h : j < i
    · rw [if_pos h, if_pos (by omega)]
    · rw [if_neg h, if_neg (by omega)]
theorem Kind.markAt_step (K : Kind) (N : Nat → Nat) (L : Nat → List Value) (i k : Nat) (hl : (L i).length = N i * K.size) (h : k < N i) (j : Nat) : (if j = i then setL (K.markAt N L i k i) (k * K.size) (K.mark i k) else K.markAt N L i k j) = K.markAt N L i (k + 1) j := by
  by_cases e : j = i
  · subst e
    simp only [if_true]
    unfold Kind.markAt
    simp only [if_true]
    have hk : (k + 1) * K.size ≤ N j * K.size := Nat.mul_le_mul_right _ h
    rw [Nat.succ_mul] at hk
    have := setL_mid (K.mark j k) (K.marks j 0 k) ((L j).drop (k * K.size)) (by rw [K.hm, List.length_drop, hl]; omega)
    rw [K.marks_len] at this
    rw [this, K.marks_succ, Nat.zero_add, List.drop_drop, K.hm, Nat.succ_mul]
  · simp [Kind.markAt, e]

/-- While list i is grown: what is kept; the table of those that are grown already. w0: the world when growing began. -/
structure Kind.GInv (K : Kind) (w0 wr : World) (B b : Nat) (F : Nat → Value) (m : Nat) (V : Nat → Value) (N : Nat → Nat) (i : Nat) (ov : Value) (G : Nat → Value) : Prop where
  book : BookAt wr b F
  low : B ≤ b
  old : b < w0.heap.size
  tab : K.Tab wr B (F K.f) m V
  tabold : ∀ k, (F K.f).ownBlock = some k → k < w0.heap.size
  lists : K.Rows wr B m V N (fun j => K.marks j 0 (N j))
  listsold : ∀ j, j < m → ∀ k, (V j).ownBlock = some k → k < w0.heap.size
  out : K.Tab wr B ov i G
  outnew : ∀ k, ov.ownBlock = some k → w0.heap.size ≤ k
  grown : ∀ j, j < i → wr.ownsRow B K.e K.size (G j) (N j + 72) (K.marks j 0 (N j + 72))
  far : ∀ j, j < i → ∀ k, (G j).ownBlock = some k → (V j).ownBlock = some k ∨ w0.heap.size ≤ k
  below : Below B w0 wr
  only : Only [K.e] w0 wr

section
variable {K : Kind} {w0 wr w' : World} {B b m i : Nat} {F V G : Nat → Value} {N : Nat → Nat} {ov : Value}
theorem Kind.GInv.more (h : K.GInv w0 wr B b F m V N i ov G) (hb : Below wr.heap.size wr w') : K.GInv w0 w' B b F m V N i ov G :=
  { h with
    book := h.book.kept (hb.block b h.book.lt)
    tab := own_kept h.tab fun k hk _ => hb.block k hk
    lists := h.lists.kept fun _ k _ hk _ => hb.block k hk
    out := own_kept h.out fun k hk _ => hb.block k hk
    grown := fun j hj => own_kept (h.grown j hj) fun k hk _ => hb.block k hk
    below := h.below.trans (hb.mono (Nat.le_trans (Nat.le_of_lt (Nat.lt_of_le_of_lt h.low h.book.lt)) (Nat.le_refl _)))
    only := h.only.trans (Only.below hb) }
/-- What has been grown, behind another kind's calls. -/
structure Kind.Grown (K : Kind) (w : World) (B b : Nat) (F : Nat → Value) (m : Nat) (V : Nat → Value) (N : Nat → Nat) (ov : Value) (G : Nat → Value) : Prop where
  book : BookAt w b F
  tab : K.Tab w B (F K.f) m V
  lists : K.Rows w B m V N (fun j => K.marks j 0 (N j))
  out : K.Tab w B ov m G
  grown : ∀ j, j < m → w.ownsRow B K.e K.size (G j) (N j + 72) (K.marks j 0 (N j + 72))
theorem Kind.GInv.done (h : K.GInv w0 wr B b F m V N m ov G) : K.Grown wr B b F m V N ov G := ⟨h.book, h.tab, h.lists, h.out, h.grown⟩
theorem Kind.Grown.other {S : List TypeId} (h : K.Grown wr B b F m V N ov G) (ho : Only S wr w') (hB : ¬ 45 ∈ S) (ht : ¬ K.t ∈ S) (he : ¬ K.e ∈ S) : K.Grown w' B b F m V N ov G :=
  ⟨ho.book h.book hB, ho.own h.tab ht, h.lists.only ho he, ho.own h.out ht, fun j hj => ho.own (h.grown j hj) he⟩
theorem Kind.Grown.below (h : K.Grown wr B b F m V N ov G) (hb : Below wr.heap.size wr w') : K.Grown w' B b F m V N ov G := h.other (S := []) (Only.below hb) (by simp) (by simp) (by simp)
end

/-- The list that is being grown. -/
structure Kind.LInv (K : Kind) (w0 wr : World) (B b : Nat) (F : Nat → Value) (m : Nat) (V : Nat → Value) (N : Nat → Nat) (i : Nat) (ov : Value) (G : Nat → Value) (H : Nat) (v : Value) (len : Nat) : Prop where
  inv : K.GInv w0 wr B b F m V N i ov G
  own : wr.ownsRow B K.e K.size v len (K.marks i 0 len)
  place : ∀ k, v.ownBlock = some k → (V i).ownBlock = some k ∨ H ≤ k
  before : ∀ j, j < i → ∀ k, (G j).ownBlock = some k → k < H
  later : w0.heap.size ≤ H ∧ H ≤ wr.heap.size
  long : N i ≤ len

theorem Kind.linv_step {K : Kind} {w0 wr w1 w2 : World} {B b m i H len q : Nat} {F V G : Nat → Value} {N : Nat → Nat} {ov v v' : Value} (hi : i < m) (h : K.LInv w0 wr B b F m V N i ov G H v len) (hb1 : Below wr.heap.size wr w1)
    (hown : w2.ownsRow B K.e K.size v' (len + q) (K.marks i 0 len ++ K.marks i len q)) (hg : w1.grownBy w2 v.ownBlock) (hp : v'.ownBlock = v.ownBlock ∨ v'.ownBlock = some w1.heap.size) (hst : StaysUnder w1 w2 K.e K.size v len) :
    K.LInv w0 w2 B b F m V N i ov G H v' (len + q) := by
  have hz1 := hb1.size
  have hz2 := hg.size
  have h1 := h.inv.more hb1
  have hv1 : w1.ownsRow B K.e K.size v len (K.marks i 0 len) := own_kept h.own fun k hk _ => hb1.block k hk
  have hblk : ∀ k, k < w1.heap.size → v.ownBlock ≠ some k → w2.heap[k]? = w1.heap[k]? := fun k hk hne => hg.block k hk (fun e => hne e.symm)
  have hw0 : w0.heap.size ≤ w1.heap.size := h1.below.size
  refine ⟨?_, ?_, ?_, h.before, ⟨h.later.1, by have := h.later.2; omega⟩, by have := h.long; omega⟩
  · refine { h1 with book := ?_, tab := ?_, lists := ?_, out := ?_, grown := ?_, below := ?_, only := ?_ }
    · exact h1.book.kept (hblk b h1.book.lt (own_ne hv1 h1.book K.heb))
    · exact own_kept h1.tab fun k hk hk2 => hblk k hk (own_own_ne h1.tab hv1 K.hte k hk2)
    · refine ⟨fun j hj => ?_, h1.lists.2⟩
      by_cases e : (V j).ownBlock = v.ownBlock ∧ (V j).ownBlock ≠ none
      · by_cases ej : j = i
        · subst ej
          exact hst B (V j) (N j) (K.marks j 0 (N j)) (h1.lists.1 j hj) h.long e.1
        · exfalso
          cases hvj : (V j).ownBlock with
          | none => exact e.2 hvj
          | some k =>
            have hvk : v.ownBlock = some k := by rw [← e.1]; exact hvj
            have hlt := h1.listsold j hj k hvj
            rcases h.place k hvk with hp1 | hp1
            · exact h1.lists.2 j i hj hi ej e.2 (by rw [hvj, hp1])
            · have := h.later.1; omega
      · refine own_kept (h1.lists.1 j hj) fun k hk hk2 => hblk k hk (fun hv => e ⟨by rw [hk2, hv], by rw [hk2]; simp⟩)
    · exact own_kept h1.out fun k hk hk2 => hblk k hk (own_own_ne h1.out hv1 K.hte k hk2)
    · intro j hj
      refine own_kept (h1.grown j hj) fun k hk hk2 => hblk k hk (fun hv => ?_)
      have hkH := h.before j hj k hk2
      rcases h.place k hv with hp1 | hp1
      · rcases h1.far j hj k hk2 with hf | hf
        · exact h1.lists.2 i j hi (by omega) (by omega) (by rw [hp1]; simp) (by rw [hp1, hf])
        · have := h1.listsold i hi k hp1; omega
      · omega
    · refine h1.below.trans ⟨hg.os, hg.tape, hg.output, hg.size, fun k hk => hblk k (by have := h1.book.lt; have := h1.low; omega) (fun hv => ?_)⟩
      have := own_ge hv1 k hv; omega
    · exact h1.only.trans (Only.of_but hblk fun k hk => own_block hv1 hk)
  · rw [K.marks_add]
    exact hown
  · intro k hk
    rcases hp with hp | hp
    · rw [hp] at hk; exact h.place k hk
    · rw [hp] at hk
      injection hk with hk
      right
      have := h.later.2; omega
theorem Kind.linv_start {K : Kind} {w0 wr : World} {B b m i : Nat} {F V G : Nat → Value} {N : Nat → Nat} {ov : Value} (hi : i < m) (h : K.GInv w0 wr B b F m V N i ov G) : K.LInv w0 wr B b F m V N i ov G wr.heap.size (V i) (N i) :=
  ⟨h, h.lists.1 i hi, fun _ hk => .inl hk, fun j hj k hk => own_lt (h.grown j hj) k hk, ⟨h.below.size, Nat.le_refl _⟩, Nat.le_refl _⟩

/-- The list, grown, goes into the table. -/
theorem Kind.linv_done {K : Kind} {w0 w1 w2 : World} {B b m i H : Nat} {F V G : Nat → Value} {N : Nat → Nat} {ov ov' v : Value} (_hi : i < m) (h : K.LInv w0 w1 B b F m V N i ov G H v (N i + 72))
    (ht : K.Tab w2 B ov' (i + 1) (upd G i v)) (hsz : w1.heap.size ≤ w2.heap.size) (hk : ∀ k, k < w1.heap.size → ov.ownBlock ≠ some k → w2.heap[k]? = w1.heap[k]?) (hc : ov'.ownBlock = ov.ownBlock ∨ ov'.ownBlock = some (w1.heap.size + 1))
    (h1 : w2.os = w1.os) (h2 : w2.tape = w1.tape) (h3 : w2.output = w1.output) : K.GInv w0 w2 B b F m V N (i + 1) ov' (upd G i v) := by
  have g := h.inv
  have hw0 : w0.heap.size ≤ w1.heap.size := g.below.size
  have hint : ∀ (v : Value) (n : Nat) (xs : List Value), w1.ownsRow B K.e K.size v n xs → w2.ownsRow B K.e K.size v n xs := fun v n xs hv =>
    own_kept hv fun k hk1 hk2 => hk k hk1 (fun e => own_own_ne g.out hv K.hte k e hk2)
  refine { g with book := ?_, tab := ?_, lists := ?_, out := ht, outnew := ?_, grown := ?_, far := ?_, below := ?_, only := ?_ }
  · exact g.book.kept (hk b g.book.lt (own_ne g.out g.book K.htb))
  · exact own_kept g.tab fun k hk1 hk2 => hk k hk1 (fun e => by have := g.outnew k e; have := g.tabold k hk2; omega)
  · exact ⟨fun j hj => hint _ _ _ (g.lists.1 j hj), g.lists.2⟩
  · intro k hk2
    rcases hc with hc | hc
    · rw [hc] at hk2; exact g.outnew k hk2
    · rw [hc] at hk2; injection hk2 with hk2; omega
  · intro j hj
    by_cases e : j = i
    · subst e; rw [upd_same]; exact hint _ _ _ h.own
    · rw [upd_other _ _ e]; exact hint _ _ _ (g.grown j (by omega))
  · intro j hj k hk2
    by_cases e : j = i
    · subst e
      rw [upd_same] at hk2
      rcases h.place k hk2 with hp | hp
      · exact .inl hp
      · exact .inr (by have := h.later.1; omega)
    · rw [upd_other _ _ e] at hk2; exact g.far j (by omega) k hk2
  · refine g.below.trans ⟨h1, h2, h3, hsz, fun k hk1 => hk k (by have := g.book.lt; have := g.low; omega) (fun e => ?_)⟩
    have := own_ge g.out k e; omega
  · intro k cur e hh he
    have hlt := lt_of_blk hh
    have h5 := g.only k cur e hh he
    rw [hk k (by omega) (fun hx => by have := g.outnew k hx; omega), h5]
theorem Kind.ginv_start {K : Kind} {w : World} {B b m : Nat} {F V : Nat → Value} {N : Nat → Nat} (h : K.KeptV w B b F m V N (fun j => K.marks j 0 (N j))) (G : Nat → Value) : K.GInv w w B b F m V N 0 (.slice none 0 0) G :=
  ⟨h.1, h.2.1, h.1.lt, h.2.2.1, own_lt h.2.2.1, h.2.2.2, fun j hj => own_lt (h.2.2.2.1 j hj), World.ownsRow_nil _ _ _ _, (fun k h => by cases h), (fun j h => by omega), (fun j h => by omega), Below.refl _ _, Only.refl _ _⟩
theorem Kind.tab_at {K : Kind} {w : World} {B m i : Nat} {v : Value} {V : Nat → Value} (h : K.Tab w B v m V) (hi : i < m) : ∃ G c, v = .slice (some ⟨G, 0, none⟩) m c ∧ w.cell? ⟨G, i, none⟩ = some (V i) ∧ G < w.heap.size ∧ B ≤ G ∧ m ≤ c := by
  unfold Kind.Tab at h
  rcases h.2 with ⟨_, h1⟩ | ⟨g, cap, cur, h1, hB, hh, hc, _⟩
  · omega
  · refine ⟨g, cap, h1, ?_, lt_of_blk hh, hB, hc⟩
    subst h1
    have := h.cells (g := g) rfl i (V i) (by simp [hi])
    rwa [Addr.add_lit, Nat.zero_add] at this
end Go.Proofs.YtjlokkjbdgcooaaGreat

/-
  The statements' book: lists of ints that are kept; contracts of markInts and Ints.
-/
namespace Go.Proofs.YtjlokkjbdgcooaaGreat
open Go.RowKit

/-- The marks of list i, from a place on. -/
def markL (i a n : Nat) : List Int := (List.range n).map fun k => -1000000 * (i : Int) - ((a + k : Nat) : Int) - 7
theorem markL_len (i a n : Nat) : (markL i a n).length = n := by simp [markL]
theorem markL_succ (i a n : Nat) : markL i a (n + 1) = markL i a n ++ [-1000000 * (i : Int) - ((a + n : Nat) : Int) - 7] := by simp [markL, List.range_succ]
theorem markL_add (i n : Nat) : ∀ m, markL i 0 (n + m) = markL i 0 n ++ markL i n m
  | 0 => by simp [markL]
  | m + 1 => by rw [← Nat.add_assoc, markL_succ, markL_add i n m, markL_succ, List.append_assoc, Nat.zero_add]

set_option maxRecDepth 100000 in
set_option maxHeartbeats 1000000 in
theorem markInts_any (i a n : Nat) (w : World) (hi : i ≤ 1000) (ha : a ≤ 2000000) (hn : n ≤ 2000000) :
    Calls Tryz.prog 150 #[.int .i64 i, .int .i64 a, .int .i64 n] w fun e w' => ∃ A c, e = .returned (.slice A n c) ∧ w'.ownsRow w.heap.size 3 1 (.slice A n c) n (ints .i64 (markL i a n)) ∧ Below w.heap.size w w' := by
  obtain ⟨i0, hi0, hz0, hz1, hz2⟩ := info_parts infoInt
  have hI := Lib.hid hi0; have hZ0 := Lib.hid hz0; have hZ1 := Lib.hid hz1; have hZ2 := Lib.hid hz2
  clear hi0 hz0 hz1 hz2
  go_enter Tryz.func150, Tryz.ntmps150
  go_wp2_with fail
  go_loopw [7, 8] (fun lv kv wr => ∃ (k : Nat) (A : Option Addr) (c : Nat), k ≤ n ∧ kv = .int .i64 ((a : Int) + (k : Int)) ∧ lv = .slice A k c ∧ wr.ownsRow w.heap.size 3 1 (.slice A k c) k (ints .i64 (markL i a k)) ∧ Below w.heap.size w wr) (fun _ kv _ => a + n - (intOf kv).toNat)
  case atStart => exact ⟨0, none, 0, Nat.zero_le _, by simp, rfl, World.ownsRow_nil _ _ _ _, Below.refl _ _⟩
  case round =>
    obtain ⟨k, A, c, hk, rfl, rfl, hown, hbel⟩ := hrel
    have hsz := hbel.size
    by_cases hlt : k < n
    · have HX : Hid (-1000000 * (i : Int) - ((a : Int) + (k : Int)) - 7 = -1000000 * (i : Int) - ((a + k : Nat) : Int) - 7) := by unfold Hid; omega
      obtain ⟨x, hx⟩ : ∃ x, x = -1000000 * (i : Int) - ((a : Int) + (k : Int)) - 7 := ⟨_, rfl⟩
      go_wp2_with (at_builtin; refine wpList_append_lies _ rfl _ _ 22 rfl w.heap.size 3 i0 (.int .i64 0) 1 8 Tryz.underlying22 hI.out hZ0.out hZ1.out hZ2.out rfl (by decide) _ k _ rfl (own_kept hown fun q hq _ => Below.heap_alloc _ _ _ hq) ⟨wr.heap.size, 0, none⟩ 1 1 [.int .i64 (-1000000 * (i : Int) - ((a : Int) + (k : Int)) - 7)] rfl rfl (cell_one_new _ _ _) (by simp [Value.oneCell']) (by omega) (by unfold maxLen; omega) (by omega) (by simp; omega) _ rfl ?_)
      intro g cap w2 hown2 hg2 hat2 hlt2
      have hB2 : Hid (Below w.heap.size w w2) := (hbel.alloc hsz _).grown hg2 (by simp; omega) (own_ge hown)
      have HO2 := Lib.hid hown2
      clear hown2 hg2 hown hbel
      go_wp2
      refine ⟨⟨k + 1, some ⟨g, 0, none⟩, cap, by omega, by go_num, rfl, ?_, hB2.out⟩, by simp [intOf]; omega⟩
      have := HO2.out
      rw [HX.out] at this
      rw [markL_succ]
      simpa [ints] using this
    · obtain rfl : k = n := by omega
      have HO := Lib.hid hown
      clear hown
      go_wp2
      go_ret
      exact ⟨A, c, rfl, HO.out, hbel⟩
end Go.Proofs.YtjlokkjbdgcooaaGreat

/-
  Ints as a kind of a book's lists: marks.
-/
namespace Go.Proofs.YtjlokkjbdgcooaaGreat
open Go.RowKit

def intMark (i k : Nat) : Int := -1000000 * (i : Int) - (k : Int) - 7
def kInts : Kind where
  f := 2
  t := 22
  e := 3
  size := 1
  mark := fun i k => [.int .i64 (intMark i k)]
  hf := by decide
  hs := by decide
  hte := by decide
  htb := by decide
  heb := by decide
  hm := fun _ _ => rfl
theorem infoKInts : (Tryz.prog.info? kInts.t).map (fun i => (i.zero, i.size, i.bytes)) = some (some (.slice none 0 0), 1, 24) := by kernel_rfl
theorem marks_ints (i a : Nat) : ∀ n, kInts.marks i a n = ints .i64 (markL i a n)
  | 0 => rfl
  | n + 1 => by rw [Kind.marks_succ, marks_ints i a n, markL_succ]; simp [ints, kInts, intMark]
theorem markL_same (i n : Nat) : (markL i 0 n == markL i 0 n) = true := by simp
theorem marks_oneInt (i a n : Nat) : ∀ u ∈ kInts.marks i a n, u.oneCell' = true := by rw [marks_ints]; exact ints_one _ _
theorem markKInts_any (i a n : Nat) (w : World) (hi : i ≤ 1000) (ha : a ≤ 2000000) (hn : n ≤ 2000000) :
    Calls Tryz.prog 150 #[.int .i64 i, .int .i64 a, .int .i64 n] w fun e w' => ∃ A c, e = .returned (.slice A n c) ∧ w'.ownsRow w.heap.size 3 1 (.slice A n c) n (kInts.marks i a n) ∧ Below w.heap.size w w' := by
  rw [marks_ints]; exact markInts_any i a n w hi ha hn
end Go.Proofs.YtjlokkjbdgcooaaGreat
