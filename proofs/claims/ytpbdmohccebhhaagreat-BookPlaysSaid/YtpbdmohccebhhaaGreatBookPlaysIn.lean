/-
  BookPlays: what stands at the head of a round; how it goes on where the book, or the reference's list, changes. No code.
-/
import Derived.Test.YtpbdmohccebhhaaGreatMany14
import Derived.Test.YtpbdmohccebhhaaGreatMany15
import Derived.Test.YtpbdmohccebhhaaGreatMany10
namespace Go.Proofs.YtpbdmohccebhhaaGreat
open Go.RowKit

/-- Something that is done. -/
structure BOp where
  k : Int
  id : Int
  j : Jrn
  A : Option Addr
  c : Nat
instance : Inhabited BOp := ⟨⟨0, 0, zeroJ, none, 0⟩⟩
def BOp.cells (o : BOp) : List Value := [.int .i64 o.k, .int .i64 o.id, .int .i64 o.j.id, .int .i64 o.j.ent, .int .i64 o.j.per, .string o.j.ref, .slice o.A o.j.lines.length o.c, .bool o.j.void]
/-- An op's block. -/
def BOpAt (w : World) (ob : Nat) (o : BOp) : Prop := w.heap[ob]? = some (.cells #[.int .i64 o.k, .int .i64 o.id, .int .i64 o.j.id, .int .i64 o.j.ent, .int .i64 o.j.per, .string o.j.ref, .slice o.A o.j.lines.length o.c, .bool o.j.void] 45 (0, 0))
theorem BOpAt.only {w w' : World} {ob : Nat} {o : BOp} {S : List TypeId} (h : BOpAt w ob o) (ho : Only S w w') (hs : ¬ 45 ∈ S) : BOpAt w' ob o := (ho ob _ _ h hs).trans h
theorem BOpAt.below {w w' : World} {ob : Nat} {o : BOp} (h : BOpAt w ob o) (hb : Below w.heap.size w w') : BOpAt w' ob o := (hb.block ob (lt_of_blk h)).trans h
theorem BOpAt.all {w : World} {ob : Nat} {o : BOp} (h : BOpAt w ob o) : w.cell? ⟨ob, 0, none⟩ = some (.int .i64 o.k) ∧ w.cell? ⟨ob, 1, none⟩ = some (.int .i64 o.id) ∧ w.cell? ⟨ob, 2, none⟩ = some (.int .i64 o.j.id) ∧ w.cell? ⟨ob, 3, none⟩ = some (.int .i64 o.j.ent) ∧ w.cell? ⟨ob, 4, none⟩ = some (.int .i64 o.j.per) ∧ w.cell? ⟨ob, 5, none⟩ = some (.string o.j.ref) ∧ w.cell? ⟨ob, 6, none⟩ = some (.slice o.A o.j.lines.length o.c) ∧ w.cell? ⟨ob, 7, none⟩ = some (.bool o.j.void) := by
  refine ⟨?_, ?_, ?_, ?_, ?_, ?_, ?_, ?_⟩ <;> (rw [cell_of h]; rfl)

/-- The book, the reference's list, what is kept. -/
structure BIn (w0 wr : World) (b c : Nat) (v : Value) (l : List JR) (A : Option Addr) (cp : Nat) (r : List JR) (m1 m2 : Nat) : Prop where
  bel : Below w0.heap.size w0 wr
  tome : TomeAt wr w0.heap.size c v l
  ref : OwnJl wr w0.heap.size A r.length cp r
  out : ∀ k, (Value.slice A r.length cp).ownBlock = some k → ¬ InTome c v l k
  kept : KeptLJ wr w0.heap.size b (InTome c v l) m1 m2
  rise : Rise JR.id r
  size : ∀ a ∈ r, a.j.ref.size ≤ maxLen ∧ a.j.lines.length ≤ 1000
  few : r.length ≤ 200
/-- The head of the statement's loop. -/
def BPlay (w0 wr : World) (b : Nat) (bv rv : Value) (m : Nat) : Prop :=
  ∃ (c : Nat) (v : Value) (l : List JR) (A : Option Addr) (cp : Nat) (r : List JR), bv = .pointer (some ⟨c, 0, none⟩) ∧ rv = .slice A r.length cp ∧ BIn w0 wr b c v l A cp r m m ∧ r.map JR.j = l.map JR.j

section
variable {w0 wr w' : World} {b c : Nat} {v : Value} {l : List JR} {A : Option Addr} {cp : Nat} {r : List JR} {m1 m2 : Nat}
theorem BIn.below (h : BIn w0 wr b c v l A cp r m1 m2) (hb : Below wr.heap.size wr w') : BIn w0 w' b c v l A cp r m1 m2 :=
  ⟨h.bel.trans (hb.mono h.bel.size), h.tome.below hb, h.ref.kept hb, h.out, h.kept.below hb, h.rise, h.size, h.few⟩
theorem BIn.sizes (h : BIn w0 wr b c v l A cp r m1 m2) : ∀ a ∈ r, a.j.ref.size ≤ maxLen ∧ a.j.lines.length ≤ maxLen := fun a ha => ⟨(h.size a ha).1, by have := (h.size a ha).2; unfold maxLen; omega⟩
theorem BIn.jl (h : BIn w0 wr b c v l A cp r m1 m2) : JlRd wr wr.heap.size A r.length r := h.ref.rd h.sizes
/-- The book goes on. -/
theorem BIn.step {M : List Jrn} (h : BIn w0 wr b c v l A cp r m1 m2) (ht : TomeTo wr w0.heap.size c v l M w') : ∃ v' l', l'.map JR.j = M ∧ BIn w0 w' b c v' l' A cp r m1 m2 ∧ Only [27, 43] wr w' ∧ (∀ k, k < wr.heap.size → ¬ InTome c v l k → w'.heap[k]? = wr.heap[k]? ∧ ¬ InTome c v' l' k) := by
  obtain ⟨v', l', h1, h2, h3, h4⟩ := ht
  have ho := Only.tome h.tome h3
  have hk : ∀ k, k < wr.heap.size → ¬ InTome c v l k → w'.heap[k]? = wr.heap[k]? ∧ ¬ InTome c v' l' k := fun k hk hn => ⟨h3.block k hk fun e => hn (e.elim .inl fun e => .inr (.inl e)), fun e => by
    rcases h4 k e with h | h
    · exact hn h
    · omega⟩
  refine ⟨v', l', h2, ⟨?_, h1, ⟨own_kept h.ref.own fun k hk1 hk2 => (hk k hk1 (h.out k hk2)).1, fun a ha => ho.own (h.ref.lines a ha) (by decide)⟩, fun k hk1 => (hk k (own_lt h.ref.own k hk1) (h.out k hk1)).2, ?_, h.rise, h.size, h.few⟩, ho, hk⟩
  · exact h.bel.trans (h3.below (fun k _ hk => h.tome.ge k (hk.elim .inl fun e => .inr (.inl e))) h.bel.size)
  · have k1 : KeptLJ wr w0.heap.size b (fun k => InTome c v l k ∨ wr.heap.size ≤ k) m1 m2 := h.kept.more fun k hk => hk
    exact (k1.tome h.tome h3 fun k hk => .inl (.inr (.inl hk))).more fun k hk => .inl (h4 k hk)
/-- The same, and what else the lists that are kept avoid. -/
theorem BIn.step' {M : List Jrn} (h : BIn w0 wr b c v l A cp r m1 m2) (ht : TomeTo wr w0.heap.size c v l M w') : ∃ v' l', l'.map JR.j = M ∧ BIn w0 w' b c v' l' A cp r m1 m2 ∧ Only [27, 43] wr w' ∧ (∀ k, k < wr.heap.size → ¬ InTome c v l k → w'.heap[k]? = wr.heap[k]? ∧ ¬ InTome c v' l' k) ∧ wr.heap.size ≤ w'.heap.size ∧
    ∀ T : Nat → Prop, KeptLJ wr w0.heap.size b (fun k => InTome c v l k ∨ T k) m1 m2 → KeptLJ w' w0.heap.size b (fun k => InTome c v' l' k ∨ T k) m1 m2 := by
  obtain ⟨v', l', h1, h2, h3, h4⟩ := ht
  have ho := Only.tome h.tome h3
  have hk : ∀ k, k < wr.heap.size → ¬ InTome c v l k → w'.heap[k]? = wr.heap[k]? ∧ ¬ InTome c v' l' k := fun k hk hn => ⟨h3.block k hk fun e => hn (e.elim .inl fun e => .inr (.inl e)), fun e => by
    rcases h4 k e with h | h
    · exact hn h
    · omega⟩
  have kT : ∀ T : Nat → Prop, KeptLJ wr w0.heap.size b (fun k => InTome c v l k ∨ T k) m1 m2 → KeptLJ w' w0.heap.size b (fun k => InTome c v' l' k ∨ T k) m1 m2 := fun T hT => by
    have k1 : KeptLJ wr w0.heap.size b (fun k => (InTome c v l k ∨ T k) ∨ wr.heap.size ≤ k) m1 m2 := hT.more fun k hk => hk
    exact (k1.tome h.tome h3 fun k hk => .inl (.inl (.inr (.inl hk)))).more fun k hk => .inl (by
      rcases hk with hk | hk
      · rcases h4 k hk with h | h
        · exact .inl (.inl h)
        · exact .inr h
      · exact .inl (.inr hk))
  refine ⟨v', l', h2, ⟨?_, h1, ⟨own_kept h.ref.own fun k hk1 hk2 => (hk k hk1 (h.out k hk2)).1, fun a ha => ho.own (h.ref.lines a ha) (by decide)⟩, fun k hk1 => (hk k (own_lt h.ref.own k hk1) (h.out k hk1)).2, ?_, h.rise, h.size, h.few⟩, ho, hk, h3.size, kT⟩
  · exact h.bel.trans (h3.below (fun k _ hk => h.tome.ge k (hk.elim .inl fun e => .inr (.inl e))) h.bel.size)
  · exact (kT (fun _ => False) (h.kept.more fun k hk => hk.elim .inl fun e => e.elim)).more fun k hk => .inl (.inl hk)
/-- The reference's list goes on. -/
theorem BIn.put {j : Jrn} {rv : Value} (h : BIn w0 wr b c v l A cp r m1 m2) (hp : PutEnd wr r j rv w') (hj : j.ref.size ≤ maxLen ∧ j.lines.length ≤ 1000) (hl : (putK Jrn.id (r.map JR.j) j).length ≤ 200) : ∃ A' cp' r', rv = .slice A' r'.length cp' ∧ r'.map JR.j = putK Jrn.id (r.map JR.j) j ∧ BIn w0 w' b c v l A' cp' r' m1 m2 := by
  obtain ⟨A2, c2, h1, h2, h3⟩ := hp
  have hz := h.bel.size
  obtain ⟨A', cp', rfl⟩ := own_form h1
  have hm : (putK JR.id r ⟨j, A2, c2⟩).map JR.j = putK Jrn.id (r.map JR.j) j := put_jr r ⟨j, A2, c2⟩
  refine ⟨A', cp', putK JR.id r ⟨j, A2, c2⟩, rfl, hm, ⟨h.bel.trans (h3.mono hz), h.tome.below h3, ⟨own_base h1 hz, fun a ha => ?_⟩, fun k hk hi => ?_, h.kept.below h3, h.rise.put _, fun a ha => ?_, ?_⟩⟩
  · rcases mem_put ha with rfl | ha
    · exact own_base h2 hz
    · exact own_kept (h.ref.lines a ha) fun k hk _ => h3.block k hk
  · have e1 := own_ge h1 k hk
    have e2 := h.tome.ltB k hi
    omega
  · rcases mem_put ha with rfl | ha
    · exact hj
    · exact h.size a ha
  · rw [← hm, List.length_map] at hl; exact hl
theorem BIn.drop {x : Int} {rv : Value} (h : BIn w0 wr b c v l A cp r m1 m2) (hp : DropEnd wr r x rv w') : ∃ A' cp' r', rv = .slice A' r'.length cp' ∧ r'.map JR.j = dropK Jrn.id (r.map JR.j) x ∧ BIn w0 w' b c v l A' cp' r' m1 m2 := by
  obtain ⟨h1, h3⟩ := hp
  have hz := h.bel.size
  obtain ⟨A', cp', rfl⟩ := own_form h1
  have hm : (dropK JR.id r x).map JR.j = dropK Jrn.id (r.map JR.j) x := (dropK_map (key := Jrn.id) JR.j r x).symm
  refine ⟨A', cp', dropK JR.id r x, rfl, hm, ⟨h.bel.trans (h3.mono hz), h.tome.below h3, ⟨own_base h1 hz, fun a ha => own_kept (h.ref.lines a (mem_drop ha)) fun k hk _ => h3.block k hk⟩, fun k hk hi => ?_, h.kept.below h3, h.rise.drop _, fun a ha => h.size a (mem_drop ha), ?_⟩⟩
  · have e1 := own_ge h1 k hk
    have e2 := h.tome.ltB k hi
    omega
  · rw [dropK_filter h.rise]
    exact Nat.le_trans (List.length_filter_le _ _) h.few
/-- Another book, that came since, takes its place. -/
theorem BIn.other {w1 : World} {d : Nat} {vd : Value} {ld : List JR} {B2 : Nat} (h : BIn w0 wr b c v l A cp r m1 m2) (hk : KeptLJ wr w0.heap.size b (fun k => InTome c v l k ∨ w1.heap.size ≤ k) m1 m2) (ho : ∀ k, (Value.slice A r.length cp).ownBlock = some k → k < w1.heap.size) (hd : TomeAt wr B2 d vd ld) (hB : w0.heap.size ≤ w1.heap.size) (hB2 : w1.heap.size ≤ B2) : BIn w0 wr b d vd ld A cp r m1 m2 :=
  ⟨h.bel, ⟨hd.blk, Nat.le_trans (Nat.le_trans hB hB2) hd.low, own_base hd.own (Nat.le_trans hB hB2), fun a ha => own_base (hd.lines a ha) (Nat.le_trans hB hB2), hd.rise, hd.len, hd.ok⟩, h.ref, fun k hk hi => by have := ho k hk; have := hd.ge k hi; omega, hk.more fun k hi => .inl (.inr (by have := hd.ge k hi; omega)), h.rise, h.size, h.few⟩

/-- What a round has beside: the op, the journal that is handed in, its lines lent. -/
structure BMid (wr : World) (ob mb g cap : Nat) (o : BOp) (c : Nat) (v : Value) (l : List JR) : Prop where
  op : BOpAt wr ob o
  box : JAt wr mb o.j (some ⟨g, 0, none⟩) o.j.lines.length cap
  out : ¬ InTome c v l mb
  lent : LentLins wr 0 g cap o.j.lines
theorem BMid.below {ob mb g cap : Nat} {o : BOp} (h : BMid wr ob mb g cap o c v l) (hb : Below wr.heap.size wr w') : BMid w' ob mb g cap o c v l :=
  ⟨h.op.below hb, (hb.block _ (lt_of_blk h.box)).trans h.box, h.out, own_kept h.lent fun k hk _ => hb.block k hk⟩
theorem BMid.step {ob mb g cap : Nat} {o : BOp} {v' : Value} {l' : List JR} (h : BMid wr ob mb g cap o c v l) (ho : Only [27, 43] wr w') (hk : ∀ k, k < wr.heap.size → ¬ InTome c v l k → w'.heap[k]? = wr.heap[k]? ∧ ¬ InTome c v' l' k) : BMid w' ob mb g cap o c v' l' :=
  ⟨h.op.only ho (by decide), (hk mb (lt_of_blk h.box) h.out).1.trans h.box, (hk mb (lt_of_blk h.box) h.out).2, ho.own h.lent (by decide)⟩
end
theorem BIn.riseM {w0 wr : World} {b c : Nat} {v : Value} {l : List JR} {A : Option Addr} {cp : Nat} {r : List JR} {m1 m2 : Nat} (h : BIn w0 wr b c v l A cp r m1 m2) : Rise Jrn.id (r.map JR.j) := Rise.map.2 h.rise
theorem put_len_there {M : List Jrn} {j : Jrn} (hr : Rise Jrn.id M) (h : (findK Jrn.id M j.id).isSome = true) : (putK Jrn.id M j).length = M.length := by
  have h1 := findK_lt hr h
  unfold putK restK
  rw [show Jrn.id j = j.id from rfl, h, List.length_append, List.length_cons, List.length_take, List.length_drop]
  simp only [if_true]
  omega
theorem live_there {M : List Jrn} {x : Int} (h : liveE M x = 0) : (findK Jrn.id M x).isSome = true := by
  unfold liveE at h
  cases hf : findK Jrn.id M x with
  | none => rw [hf] at h; simp at h
  | some b => rfl
theorem amend_there {M : List Jrn} {j : Jrn} (h : amendE M j = 0) : (findK Jrn.id M j.id).isSome = true := by
  unfold amendE at h
  split at h
  · split at h
    · rename_i h2; exact live_there h2
    · omega
  · omega
theorem posted {M : List Jrn} {j : Jrn} (h : postE M j = 0) : postL M j = putK Jrn.id M j := by unfold postL; rw [if_pos h]
theorem posted_not {M : List Jrn} {j : Jrn} (h : postE M j ≠ 0) : postL M j = M := by unfold postL; rw [if_neg h]
theorem voided {M : List Jrn} {x : Int} {b : Jrn} (h : liveE M x = 0) (hf : findK Jrn.id M x = some b) : voidL M x = putK Jrn.id M (voidJ b) := by unfold voidL; rw [if_pos h, hf]
theorem voided_not {M : List Jrn} {x : Int} (h : liveE M x ≠ 0) : voidL M x = M := by unfold voidL; rw [if_neg h]
theorem amended {M : List Jrn} {j : Jrn} (h : amendE M j = 0) : amendL M j = putK Jrn.id M j := by unfold amendL; rw [if_pos h]
theorem amended_not {M : List Jrn} {j : Jrn} (h : amendE M j ≠ 0) : amendL M j = M := by unfold amendL; rw [if_neg h]
end Go.Proofs.YtpbdmohccebhhaaGreat
