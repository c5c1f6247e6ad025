/-
  Several texts, one behind the other: what each holds stands ahead of it.
-/
import Derived.Test.YthjpknipnmagkaaEntryCheck2
import Derived.Test.YthjpknipnmagkaaKeyMath
import Derived.Test.YthjpknipnmagkaaJrRow
import Derived.Test.YthjpknipnmagkaaMany2
import Derived.Test.YthjpknipnmagkaaInsertRun

/-
  Contracts of slices.Equal over lines, of entry.Same and of the reference's Same.
-/
namespace Go.Proofs.Ythjpknipnmagkaa
open Go.RowKit

theorem str_inj {a b : ByteArray} : a.toList = b.toList ↔ a = b := by
  rw [ByteArray.toList_eq, ByteArray.toList_eq]
  constructor
  · intro h
    exact ByteArray.ext (Array.toList_inj.1 h)
  · intro h; rw [h]
theorem str_eq {a b : ByteArray} : (a.toList == b.toList) = true ↔ a = b := by rw [beq_iff_eq, str_inj]
def sameJ (a b : Jrn) : Bool := a.id == b.id && a.ent == b.ent && a.per == b.per && (a.ref.toList == b.ref.toList) && a.void == b.void && a.lines == b.lines
theorem sameJ_iff {a b : Jrn} : sameJ a b = true ↔ a = b := by
  obtain ⟨a1, a2, a3, a4, a5, a6⟩ := a
  obtain ⟨b1, b2, b3, b4, b5, b6⟩ := b
  unfold sameJ
  simp only [Bool.and_eq_true, beq_iff_eq, str_inj, Jrn.mk.injEq]
  constructor
  · rintro ⟨⟨⟨⟨⟨rfl, rfl⟩, rfl⟩, rfl⟩, rfl⟩, rfl⟩; exact ⟨rfl, rfl, rfl, rfl, rfl, rfl⟩
  · rintro ⟨rfl, rfl, rfl, rfl, rfl, rfl⟩; exact ⟨⟨⟨⟨⟨rfl, rfl⟩, rfl⟩, rfl⟩, rfl⟩, rfl⟩
theorem sameJ_self (a : Jrn) : sameJ a a = true := sameJ_iff.2 rfl

end Go.Proofs.Ythjpknipnmagkaa

/-
  Journals as rows of a list, their lines elsewhere; a book in memory; what its calls answer. No code.
-/
namespace Go.Proofs.Ythjpknipnmagkaa
open Go.RowKit

/-- A book: its variable, its rows in a row of its own, their lines in rows of their own. -/
structure TomeAt (w : World) (B c : Nat) (v : Value) (l : List JR) : Prop where
  blk : w.heap[c]? = some (.cells #[v] 138 (0, 0))
  low : B ≤ c
  own : w.ownsRow B 38 6 v l.length (jrs l)
  lines : ∀ a ∈ l, w.ownsRow B 40 3 a.lv a.j.lines.length (lins a.j.lines)
  rise : Rise JR.id l
  len : l.length ≤ 200
  ok : ∀ a ∈ l, checkE a.j = 0
/-- The blocks of a book. -/
def InTome (c : Nat) (v : Value) (l : List JR) (k : Nat) : Prop := k = c ∨ v.ownBlock = some k ∨ ∃ a ∈ l, a.lv.ownBlock = some k
section
variable {w w' : World} {B c : Nat} {v : Value} {l : List JR}
theorem TomeAt.cell (h : TomeAt w B c v l) : w.cell? ⟨c, 0, none⟩ = some v := by rw [cell_of h.blk]; rfl
theorem TomeAt.warm (h : TomeAt w B c v l) : w.frozen? ⟨c, 0, none⟩ = false := warm_of h.blk 0
theorem TomeAt.lt (h : TomeAt w B c v l) : c < w.heap.size := lt_of_blk h.blk
theorem TomeAt.kept (h : TomeAt w B c v l) (hk : ∀ k, k < w.heap.size → InTome c v l k → w'.heap[k]? = w.heap[k]?) : TomeAt w' B c v l :=
  ⟨(hk c h.lt (.inl rfl)).trans h.blk, h.low, own_kept h.own fun k hk1 hk2 => hk k hk1 (.inr (.inl hk2)), fun a ha => own_kept (h.lines a ha) fun k hk1 hk2 => hk k hk1 (.inr (.inr ⟨a, ha, hk2⟩)), h.rise, h.len, h.ok⟩
theorem TomeAt.below (h : TomeAt w B c v l) (hb : Below w.heap.size w w') : TomeAt w' B c v l := h.kept fun k hk _ => hb.block k hk
theorem TomeAt.but {S : Nat → Prop} (h : TomeAt w B c v l) (hb : But S w w') (hs : ∀ k, InTome c v l k → ¬ S k) : TomeAt w' B c v l := h.kept fun k hk hi => hb.block k hk (hs k hi)
theorem TomeAt.form (h : TomeAt w B c v l) : ∃ A cap, v = .slice A l.length cap := own_form h.own
theorem TomeAt.ge (h : TomeAt w B c v l) : ∀ k, InTome c v l k → B ≤ k := by
  rintro k (rfl | hk | ⟨a, ha, hk⟩)
  · exact h.low
  · exact own_ge h.own k hk
  · exact own_ge (h.lines a ha) k hk
theorem TomeAt.ltB (h : TomeAt w B c v l) : ∀ k, InTome c v l k → k < w.heap.size := by
  rintro k (rfl | hk | ⟨a, ha, hk⟩)
  · exact h.lt
  · exact own_lt h.own k hk
  · exact own_lt (h.lines a ha) k hk
theorem TomeAt.apart (h : TomeAt w B c v l) : v.ownBlock ≠ some c := own_ne h.own h.blk (by decide)
theorem TomeAt.apartL (h : TomeAt w B c v l) {a : JR} (ha : a ∈ l) : a.lv.ownBlock ≠ some c := own_ne (h.lines a ha) h.blk (by decide)
theorem TomeAt.apartR (h : TomeAt w B c v l) {a : JR} (ha : a ∈ l) : ∀ k, v.ownBlock = some k → a.lv.ownBlock ≠ some k := own_own_ne h.own (h.lines a ha) (by decide)
theorem TomeAt.rd (h : TomeAt w B c v l) {a : JR} (ha : a ∈ l) : Rd w w.heap.size 3 a.A a.j.lines.length (lins a.j.lines) := rd_of_own (h.lines a ha)
theorem checkE_len {j : Jrn} (h : checkE j = 0) : j.lines.length ≤ 8 ∧ 1 ≤ j.id ∧ j.id ≤ 999999 ∧ j.ref.size ≤ 8 := by
  unfold checkE at h
  split at h
  · rename_i h1
    rw [Bool.and_eq_true] at h1
    obtain ⟨h2, h3⟩ := h1
    have h4 := linesOk_len h3
    unfold frontOk refOk at h2
    simp only [Bool.and_eq_true] at h2
    have h5 := inB_iff.1 h2.1.1.1
    have h6 : j.ref.data.toList.length ≤ 8 := by simpa using h2.2.1
    rw [Array.length_toList] at h6
    exact ⟨h4.2, h5.1, h5.2, h6⟩
  · omega
/-- A row at a place, as a walk reads it. -/
theorem TomeAt.at {p : Nat} {a : JR} (h : TomeAt w B c v l) (hp : l[p]? = some a) : ∃ g cap, v = .slice (some ⟨g, 0, none⟩) l.length cap ∧ p < l.length ∧ g < w.heap.size ∧ B ≤ g ∧ (∀ i u, a.cells[i]? = some u → w.cell? ⟨g, p * 6 + i, none⟩ = some u) ∧ ∀ j, w.frozen? ⟨g, j, none⟩ = false := by
  have hl := (List.getElem?_eq_some_iff.1 hp).1
  rcases h.own.2 with ⟨_, h1⟩ | ⟨g, cap, cur, rfl, hB, hh, _⟩
  · omega
  · exact ⟨g, cap, rfl, hl, lt_of_blk hh, hB, fun i u hu => own_cell h.own (jrs_at l p a hp i u hu), fun j => warm_of hh j⟩
end
/-- A book that was v, l, and has become M. -/
def TomeTo (w : World) (B c : Nat) (v : Value) (l : List JR) (M : List Jrn) (w' : World) : Prop :=
  ∃ v' l', TomeAt w' B c v' l' ∧ l'.map JR.j = M ∧ But (fun k => k = c ∨ v.ownBlock = some k) w w' ∧ ∀ k, InTome c v' l' k → InTome c v l k ∨ w.heap.size ≤ k
theorem TomeTo.same {w w' : World} {B c : Nat} {v : Value} {l : List JR} (h : TomeAt w B c v l) (hb : Below w.heap.size w w') : TomeTo w B c v l (l.map JR.j) w' :=
  ⟨v, l, h.below hb, rfl, But.of_below hb, fun _ hk => .inl hk⟩
theorem TomeTo.on {w w1 w' : World} {B c : Nat} {v : Value} {l : List JR} {M : List Jrn} (hb : Below w.heap.size w w1) (h : TomeTo w1 B c v l M w') : TomeTo w B c v l M w' := by
  obtain ⟨v', l', h1, h2, h3, h4⟩ := h
  refine ⟨v', l', h1, h2, (But.of_below hb).trans h3, fun k hk => ?_⟩
  rcases h4 k hk with h | h
  · exact .inl h
  · exact .inr (Nat.le_trans hb.size h)
/-- A zero book. -/
theorem tome_new (w : World) : TomeAt (w.alloc (.cells #[.slice none 0 0] 138)) w.heap.size w.heap.size (.slice none 0 0) [] :=
  ⟨heap_new _ _, Nat.le_refl _, World.ownsRow_nil _ _ _ _, by simp, Rise.nil, by simp, by simp⟩
/-- A book, and all that was there ahead of it as it was. -/
def TomeOn (B : Nat) (w : World) (c : Nat) (M : List Jrn) (w' : World) : Prop := ∃ v l, TomeAt w' B c v l ∧ l.map JR.j = M ∧ Below B w w'
theorem TomeOn.set {B c : Nat} {w w1 w2 : World} {v : Value} {l : List JR} {M : List Jrn} (hw : B ≤ w1.heap.size) (h : TomeAt w1 B c v l) (hb : Below B w w1) (ht : TomeTo w1 B c v l M w2) : TomeOn B w c M w2 := by
  obtain ⟨v', l', h1, h2, h3, _⟩ := ht
  exact ⟨v', l', h1, h2, hb.trans (h3.below (fun k _ hk => h.ge k (hk.elim .inl fun e => .inr (.inl e))) hw)⟩
theorem TomeOn.same {B c : Nat} {w w1 w2 : World} {v : Value} {l : List JR} (hw : B ≤ w1.heap.size) (h : TomeAt w1 B c v l) (hb : Below B w w1) (hb2 : Below w1.heap.size w1 w2) : TomeOn B w c (l.map JR.j) w2 :=
  ⟨v, l, h.below hb2, rfl, hb.trans (hb2.mono hw)⟩

/-- What a book's calls answer. -/
def holdsRef (s : ByteArray) (b : Jrn) : Bool := !(s.toList == []) && !b.void && (b.ref.toList == s.toList)
def leavesRef (c b : Jrn) : Bool := c.void || b.id == c.id || !(b.ent == c.ent) || !holdsRef c.ref b
def takenJ (M : List Jrn) (j : Jrn) : Bool := !(M.all (leavesRef j))
def hasId (M : List Jrn) (x : Int) : Bool := (findK Jrn.id M x).isSome
def postE (M : List Jrn) (j : Jrn) : Int := if checkE j = 0 then (if hasId M j.id = true then 7 else if takenJ M j = true then 8 else if 200 ≤ M.length then 13 else 0) else checkE j
def postL (M : List Jrn) (j : Jrn) : List Jrn := if postE M j = 0 then putK Jrn.id M j else M
def liveE (M : List Jrn) (x : Int) : Int := match findK Jrn.id M x with | none => 9 | some b => if b.void = true then 11 else 0
def amendE (M : List Jrn) (j : Jrn) : Int := if checkE j = 0 then (if liveE M j.id = 0 then (if takenJ M j = true then 8 else 0) else liveE M j.id) else checkE j
def amendL (M : List Jrn) (j : Jrn) : List Jrn := if amendE M j = 0 then putK Jrn.id M j else M
def voidJ (j : Jrn) : Jrn := { j with void := true }
def voidL (M : List Jrn) (x : Int) : List Jrn := if liveE M x = 0 then (match findK Jrn.id M x with | none => M | some b => putK Jrn.id M (voidJ b)) else M
def refJ (M : List Jrn) (s : ByteArray) : Int := match M.find? (holdsRef s) with | none => 0 | some b => b.id
theorem hasId_map (l : List JR) (x : Int) : hasId (l.map JR.j) x = (findK JR.id l x).isSome := by
  unfold hasId
  rw [findK_map, Option.isSome_map]; rfl
end Go.Proofs.Ythjpknipnmagkaa
