/-
  Several texts, one behind the other: what each holds stands ahead of it.
-/
import Derived.Test.YtafloaabjinkfaaGreatKeyMath
import Derived.Test.YtafloaabjinkfaaGreatMany2
import Derived.Test.YtafloaabjinkfaaGreatMany4
import Derived.Deep.QuietTactic
import Derived.StillTail
import Derived.Lib.QuietBelow

/-
  Journals as rows of a list, their lines elsewhere; a book in memory; what its calls answer. No code.
-/
namespace Go.Proofs.YtafloaabjinkfaaGreat
open Go.RowKit

/-- A journal as a row: its lines lie at A. -/
structure JR where
  j : Jrn
  A : Option Addr
  c : Nat
def JR.lv (a : JR) : Value := .slice a.A a.j.lines.length a.c
def JR.val (a : JR) : Value := a.j.val a.A a.j.lines.length a.c
def JR.id (a : JR) : Int := a.j.id
def JR.cells (a : JR) : List Value := [.int .i64 a.j.id, .int .i64 a.j.ent, .int .i64 a.j.per, .string a.j.ref, .slice a.A a.j.lines.length a.c, .bool a.j.void]
def jrs (l : List JR) : List Value := l.flatMap JR.cells
theorem jrs_len : ∀ l : List JR, (jrs l).length = l.length * 6
  | [] => rfl
  | a :: l => by have := jrs_len l; unfold jrs at this ⊢; simp [JR.cells, this]; omega
theorem jrs_append (l m : List JR) : jrs (l ++ m) = jrs l ++ jrs m := by simp [jrs]
theorem jrs_at : ∀ (l : List JR) (k : Nat) (a : JR), l[k]? = some a → ∀ i u, a.cells[i]? = some u → (jrs l)[k * 6 + i]? = some u
  | [], k, a, h, _, _, _ => by simp at h
  | b :: l, 0, a, h, i, u, hu => by
    simp at h; subst h
    have hi : i < b.cells.length := (List.getElem?_eq_some_iff.1 hu).1
    unfold jrs
    rw [List.flatMap_cons, Nat.zero_mul, Nat.zero_add, List.getElem?_append_left hi]
    exact hu
  | b :: l, k + 1, a, h, i, u, hu => by
    have := jrs_at l k a (by simpa using h) i u hu
    unfold jrs at this ⊢
    rw [List.flatMap_cons, show (k + 1) * 6 + i = b.cells.length + (k * 6 + i) by simp [JR.cells]; omega, List.getElem?_append_right (by omega), Nat.add_sub_cancel_left]
    exact this
theorem Rd.jrs_len {w : World} {B n : Nat} {A : Option Addr} {l : List JR} (h : Rd w B 6 A n (jrs l)) : l.length = n := by
  have := h.1; rw [Go.Proofs.YtafloaabjinkfaaGreat.jrs_len] at this; omega
/-- A row of a list that can be read, as a walk spells its cells. -/
theorem Rd.jr {w : World} {B n i : Nat} {A : Option Addr} {l : List JR} (h : Rd w B 6 A n (jrs l)) (hi : i < n) :
    ∃ ad a, A = some ad ∧ ad.block < B ∧ l[i]? = some a ∧ w.cell? (ad.add (i * 6)) = some (.int .i64 a.j.id) ∧ w.cell? ⟨(ad.add (i * 6)).block, (ad.add (i * 6)).off + 1, none⟩ = some (.int .i64 a.j.ent) ∧ w.cell? ⟨(ad.add (i * 6)).block, (ad.add (i * 6)).off + 2, none⟩ = some (.int .i64 a.j.per) ∧
      w.cell? ⟨(ad.add (i * 6)).block, (ad.add (i * 6)).off + 3, none⟩ = some (.string a.j.ref) ∧ w.cell? ⟨(ad.add (i * 6)).block, (ad.add (i * 6)).off + 4, none⟩ = some (.slice a.A a.j.lines.length a.c) ∧ w.cell? ⟨(ad.add (i * 6)).block, (ad.add (i * 6)).off + 5, none⟩ = some (.bool a.j.void) := by
  obtain ⟨ad, e, hb, hc⟩ := h.2 (by omega)
  have hl := h.jrs_len
  have hg : l[i]? = some l[i] := List.getElem?_eq_getElem (by omega)
  have hk := fun k u hu => hc _ _ (jrs_at l i _ hg k u hu)
  exact ⟨ad, _, e, hb, hg, hk 0 _ rfl, cell_behind (hk 1 _ rfl) (by omega), cell_behind (hk 2 _ rfl) (by omega), cell_behind (hk 3 _ rfl) (by omega), cell_behind (hk 4 _ rfl) (by omega), cell_behind (hk 5 _ rfl) (by omega)⟩
theorem infoJrn : (Tryz.prog.info? 29).map (fun i => (i.zero, i.size, i.bytes)) = some (some (.agg #[.int .i64 0, .int .i64 0, .int .i64 0, .string ⟨#[]⟩, .slice none 0 0, .bool false]), 6, 72) := by kernel_rfl
theorem cells_oneJ (a : JR) : ∀ u ∈ a.cells, u.oneCell' = true := by
  intro u hu
  simp [JR.cells] at hu
  rcases hu with rfl | rfl | rfl | rfl | rfl | rfl <;> rfl
theorem jrs_one (l : List JR) : ∀ u ∈ jrs l, u.oneCell' = true := by
  intro u hu
  obtain ⟨a, _, hu⟩ := List.mem_flatMap.1 hu
  exact cells_oneJ a u hu
theorem jrs_take : ∀ (l : List JR) (i : Nat), (jrs l).take (i * 6) = jrs (l.take i)
  | [], i => by simp [jrs]
  | a :: l, 0 => by simp [jrs]
  | a :: l, i + 1 => by
    have := jrs_take l i
    unfold jrs at this ⊢
    rw [List.take_succ_cons, List.flatMap_cons, List.flatMap_cons, ← this, show (i + 1) * 6 = (JR.cells a).length + i * 6 by simp [JR.cells]; omega, List.take_length_add_append]
theorem jrs_drop : ∀ (l : List JR) (i : Nat), (jrs l).drop (i * 6) = jrs (l.drop i)
  | [], i => by simp [jrs]
  | a :: l, 0 => by simp [jrs]
  | a :: l, i + 1 => by
    have := jrs_drop l i
    unfold jrs at this ⊢
    rw [List.drop_succ_cons, List.flatMap_cons, ← this, show (i + 1) * 6 = (JR.cells a).length + i * 6 by simp [JR.cells]; omega, List.drop_length_add_append]
theorem jrs_ins (l : List JR) (i : Nat) (a : JR) : jrs (l.take i ++ a :: l.drop i) = (jrs l).take (i * 6) ++ (a.cells ++ (jrs l).drop (i * 6)) := by
  rw [jrs_take, jrs_drop, jrs_append]
  rfl
theorem cons_form {l : List JR} {p : Nat} {a : JR} (h : l[p]? = some a) : l = l.take p ++ a :: l.drop (p + 1) := by
  have hl := (List.getElem?_eq_some_iff.1 h).1
  have he : l[p] = a := by rw [List.getElem?_eq_getElem hl] at h; injection h
  conv => lhs; rw [← List.take_append_drop p l, List.drop_eq_getElem_cons hl, he]
/-- A row that gets another one's cells. -/
theorem jrs_setAll {l : List JR} {p : Nat} {a : JR} (b : JR) (h : l[p]? = some a) : setL (jrs l) (p * 6) b.cells = jrs (l.set p b) := by
  have hl := (List.getElem?_eq_some_iff.1 h).1
  have e1 : jrs l = jrs (l.take p) ++ (a.cells ++ jrs (l.drop (p + 1))) := by
    conv => lhs; rw [cons_form h]
    rw [jrs_append]; rfl
  have hlen : (jrs (l.take p)).length = p * 6 := by rw [jrs_len]; simp; omega
  rw [e1, setL_off (jrs (l.take p)) (a.cells ++ jrs (l.drop (p + 1))) b.cells hlen (by simp [JR.cells]), List.set_eq_take_append_cons_drop, if_pos hl, jrs_append, List.append_assoc]
  congr 1
theorem jrs_setVoid {l : List JR} {p : Nat} {a : JR} (x : Bool) (h : l[p]? = some a) : (jrs l).set (p * 6 + 5) (.bool x) = jrs (l.set p ⟨{ a.j with void := x }, a.A, a.c⟩) := by
  have hl := (List.getElem?_eq_some_iff.1 h).1
  have e1 : jrs l = jrs (l.take p) ++ (a.cells ++ jrs (l.drop (p + 1))) := by
    conv => lhs; rw [cons_form h]
    rw [jrs_append]; rfl
  have hlen : (jrs (l.take p)).length = p * 6 := by rw [jrs_len]; simp; omega
  have e2 : ∀ b : JR, l.set p b = l.take p ++ b :: l.drop (p + 1) := fun b => by rw [List.set_eq_take_append_cons_drop, if_pos hl]
  rw [e1, List.set_append_right _ _ (by omega), hlen, e2, jrs_append]
  congr 1
  rw [show p * 6 + 5 - p * 6 = 5 by omega]
  rfl

/-- A book: its variable, its rows in a row of its own, their lines in rows of their own. -/
structure TomeAt (w : World) (B c : Nat) (v : Value) (l : List JR) : Prop where
  blk : w.heap[c]? = some (.cells #[v] 62 (0, 0))
  low : B ≤ c
  own : w.ownsRow B 29 6 v l.length (jrs l)
  lines : ∀ a ∈ l, w.ownsRow B 72 3 a.lv a.j.lines.length (lins a.j.lines)
  rise : Rise JR.id l
  len : l.length ≤ 200
  ok : ∀ a ∈ l, checkE a.j = 0
/-- The blocks of a book. -/
def InTome (c : Nat) (v : Value) (l : List JR) (k : Nat) : Prop := k = c ∨ v.ownBlock = some k ∨ ∃ a ∈ l, a.lv.ownBlock = some k
section
variable {w w' : World} {B c : Nat} {v : Value} {l : List JR}
theorem TomeAt.cell (h : TomeAt w B c v l) : w.cell? ⟨c, 0, none⟩ = some v := by rw [cell_of h.blk]; rfl
theorem TomeAt.warm (h : TomeAt w B c v l) : w.frozen? ⟨c, 0, none⟩ = false := warm_of h.blk 0
theorem TomeAt.lt (h : TomeAt w B c v l) : c < w.heap.size := lt_of_blk h.blk
theorem TomeAt.kept (h : TomeAt w B c v l) (hk : ∀ k, k < w.heap.size → InTome c v l k → w'.heap[k]? = w.heap[k]?) : TomeAt w' B c v l :=
  ⟨(hk c h.lt (.inl rfl)).trans h.blk, h.low, own_kept h.own fun k hk1 hk2 => hk k hk1 (.inr (.inl hk2)), fun a ha => own_kept (h.lines a ha) fun k hk1 hk2 => hk k hk1 (.inr (.inr ⟨a, ha, hk2⟩)), h.rise, h.len, h.ok⟩
theorem TomeAt.below (h : TomeAt w B c v l) (hb : Below w.heap.size w w') : TomeAt w' B c v l := h.kept fun k hk _ => hb.block k hk
theorem TomeAt.but {S : Nat → Prop} (h : TomeAt w B c v l) (hb : But S w w') (hs : ∀ k, InTome c v l k → ¬ S k) : TomeAt w' B c v l := h.kept fun k hk hi => hb.block k hk (hs k hi)
theorem TomeAt.form (h : TomeAt w B c v l) : ∃ A cap, v = .slice A l.length cap := own_form h.own
theorem TomeAt.ge (h : TomeAt w B c v l) : ∀ k, InTome c v l k → B ≤ k := by
  rintro k (rfl | hk | ⟨a, ha, hk⟩)
  · exact h.low
  · exact own_ge h.own k hk
  · exact own_ge (h.lines a ha) k hk
theorem TomeAt.ltB (h : TomeAt w B c v l) : ∀ k, InTome c v l k → k < w.heap.size := by
  rintro k (rfl | hk | ⟨a, ha, hk⟩)
  · exact h.lt
  · exact own_lt h.own k hk
  · exact own_lt (h.lines a ha) k hk
theorem TomeAt.apart (h : TomeAt w B c v l) : v.ownBlock ≠ some c := own_ne h.own h.blk (by decide)
theorem TomeAt.apartL (h : TomeAt w B c v l) {a : JR} (ha : a ∈ l) : a.lv.ownBlock ≠ some c := own_ne (h.lines a ha) h.blk (by decide)
theorem TomeAt.apartR (h : TomeAt w B c v l) {a : JR} (ha : a ∈ l) : ∀ k, v.ownBlock = some k → a.lv.ownBlock ≠ some k := own_own_ne h.own (h.lines a ha) (by decide)
theorem TomeAt.rd (h : TomeAt w B c v l) {a : JR} (ha : a ∈ l) : Rd w w.heap.size 3 a.A a.j.lines.length (lins a.j.lines) := rd_of_own (h.lines a ha)
theorem checkE_len {j : Jrn} (h : checkE j = 0) : j.lines.length ≤ 8 ∧ 1 ≤ j.id ∧ j.id ≤ 999999 ∧ j.ref.size ≤ 8 := by
  unfold checkE at h
  split at h
  · rename_i h1
    rw [Bool.and_eq_true] at h1
    obtain ⟨h2, h3⟩ := h1
    have h4 := linesOk_len h3
    unfold frontOk refOk at h2
    simp only [Bool.and_eq_true] at h2
    have h5 := inB_iff.1 h2.1.1.1
    have h6 : j.ref.data.toList.length ≤ 8 := by simpa using h2.2.1
    rw [Array.length_toList] at h6
    exact ⟨h4.2, h5.1, h5.2, h6⟩
  · omega
/-- A row at a place, as a walk reads it. -/
theorem TomeAt.at {p : Nat} {a : JR} (h : TomeAt w B c v l) (hp : l[p]? = some a) : ∃ g cap, v = .slice (some ⟨g, 0, none⟩) l.length cap ∧ p < l.length ∧ g < w.heap.size ∧ B ≤ g ∧ (∀ i u, a.cells[i]? = some u → w.cell? ⟨g, p * 6 + i, none⟩ = some u) ∧ ∀ j, w.frozen? ⟨g, j, none⟩ = false := by
  have hl := (List.getElem?_eq_some_iff.1 hp).1
  rcases h.own.2 with ⟨_, h1⟩ | ⟨g, cap, cur, rfl, hB, hh, _⟩
  · omega
  · exact ⟨g, cap, rfl, hl, lt_of_blk hh, hB, fun i u hu => own_cell h.own (jrs_at l p a hp i u hu), fun j => warm_of hh j⟩
end
/-- A book that was v, l, and has become M. -/
def TomeTo (w : World) (B c : Nat) (v : Value) (l : List JR) (M : List Jrn) (w' : World) : Prop :=
  ∃ v' l', TomeAt w' B c v' l' ∧ l'.map JR.j = M ∧ But (fun k => k = c ∨ v.ownBlock = some k) w w' ∧ ∀ k, InTome c v' l' k → InTome c v l k ∨ w.heap.size ≤ k
theorem TomeTo.same {w w' : World} {B c : Nat} {v : Value} {l : List JR} (h : TomeAt w B c v l) (hb : Below w.heap.size w w') : TomeTo w B c v l (l.map JR.j) w' :=
  ⟨v, l, h.below hb, rfl, But.of_below hb, fun _ hk => .inl hk⟩
theorem TomeTo.on {w w1 w' : World} {B c : Nat} {v : Value} {l : List JR} {M : List Jrn} (hb : Below w.heap.size w w1) (h : TomeTo w1 B c v l M w') : TomeTo w B c v l M w' := by
  obtain ⟨v', l', h1, h2, h3, h4⟩ := h
  refine ⟨v', l', h1, h2, (But.of_below hb).trans h3, fun k hk => ?_⟩
  rcases h4 k hk with h | h
  · exact .inl h
  · exact .inr (Nat.le_trans hb.size h)
/-- A zero book. -/
theorem tome_new (w : World) : TomeAt (w.alloc (.cells #[.slice none 0 0] 62)) w.heap.size w.heap.size (.slice none 0 0) [] :=
  ⟨heap_new _ _, Nat.le_refl _, World.ownsRow_nil _ _ _ _, by simp, Rise.nil, by simp, by simp⟩
/-- A book, and all that was there ahead of it as it was. -/
def TomeOn (B : Nat) (w : World) (c : Nat) (M : List Jrn) (w' : World) : Prop := ∃ v l, TomeAt w' B c v l ∧ l.map JR.j = M ∧ Below B w w'
theorem TomeOn.set {B c : Nat} {w w1 w2 : World} {v : Value} {l : List JR} {M : List Jrn} (hw : B ≤ w1.heap.size) (h : TomeAt w1 B c v l) (hb : Below B w w1) (ht : TomeTo w1 B c v l M w2) : TomeOn B w c M w2 := by
  obtain ⟨v', l', h1, h2, h3, _⟩ := ht
  exact ⟨v', l', h1, h2, hb.trans (h3.below (fun k _ hk => h.ge k (hk.elim .inl fun e => .inr (.inl e))) hw)⟩
theorem TomeOn.same {B c : Nat} {w w1 w2 : World} {v : Value} {l : List JR} (hw : B ≤ w1.heap.size) (h : TomeAt w1 B c v l) (hb : Below B w w1) (hb2 : Below w1.heap.size w1 w2) : TomeOn B w c (l.map JR.j) w2 :=
  ⟨v, l, h.below hb2, rfl, hb.trans (hb2.mono hw)⟩

/-- What a book's calls answer. -/
def holdsRef (s : ByteArray) (b : Jrn) : Bool := !(s.toList == []) && !b.void && (b.ref.toList == s.toList)
def leavesRef (c b : Jrn) : Bool := c.void || b.id == c.id || !(b.ent == c.ent) || !holdsRef c.ref b
def takenJ (M : List Jrn) (j : Jrn) : Bool := !(M.all (leavesRef j))
def hasId (M : List Jrn) (x : Int) : Bool := (findK Jrn.id M x).isSome
def postE (M : List Jrn) (j : Jrn) : Int := if checkE j = 0 then (if hasId M j.id = true then 7 else if takenJ M j = true then 8 else if 200 ≤ M.length then 13 else 0) else checkE j
def postL (M : List Jrn) (j : Jrn) : List Jrn := if postE M j = 0 then putK Jrn.id M j else M
def liveE (M : List Jrn) (x : Int) : Int := match findK Jrn.id M x with | none => 9 | some b => if b.void = true then 11 else 0
def amendE (M : List Jrn) (j : Jrn) : Int := if checkE j = 0 then (if liveE M j.id = 0 then (if takenJ M j = true then 8 else 0) else liveE M j.id) else checkE j
def amendL (M : List Jrn) (j : Jrn) : List Jrn := if amendE M j = 0 then putK Jrn.id M j else M
def voidJ (j : Jrn) : Jrn := { j with void := true }
def voidL (M : List Jrn) (x : Int) : List Jrn := if liveE M x = 0 then (match findK Jrn.id M x with | none => M | some b => putK Jrn.id M (voidJ b)) else M
def refJ (M : List Jrn) (s : ByteArray) : Int := match M.find? (holdsRef s) with | none => 0 | some b => b.id
theorem hasId_map (l : List JR) (x : Int) : hasId (l.map JR.j) x = (findK JR.id l x).isSome := by
  unfold hasId
  rw [findK_map, Option.isSome_map]; rfl
end Go.Proofs.YtafloaabjinkfaaGreat

/-
  A region that draws its order: operations that are quiet in a class of worlds, behind them a tail whose order is forced. Of no program.
-/
namespace Go.Proofs.YtafloaabjinkfaaGreat
open Go Go.RowKit Go.Sort

section
variable {P : Program} {ops : Array Oper} {md : Region.Mode} {C : World → Prop}

/-- So many of the first n operations are still to come, each quiet, whichever comes next; then L. -/
def Heads (P : Program) (md : Region.Mode) (ops : Array Oper) (C : World → Prop) (n : Nat) (L : Array Bool → Act → Prop) : Nat → Array Bool → Act → Prop
  | 0, done, a => L done a
  | f + 1, done, a => Region.ready md ops done ≠ [] ∧ ∀ i ∈ Region.ready md ops done, i < n ∧ qOp P ops C i (Heads P md ops C n L f (done.setIfInBounds i true)) a

theorem Heads.any {n g : Nat} {L : Array Bool → Act → Prop} {Q : Exit → Act → World → Prop} (hL : ∀ done a w, C w → L done a → wpAny P md ops Q g done a w) : ∀ (f : Nat) (done : Array Bool) (a : Act) (w : World), C w → Heads P md ops C n L f done a → wpAny P md ops Q (f + g) done a w
  | 0, done, a, w, hw, h => by rw [Nat.zero_add]; exact hL _ _ _ hw h
  | f + 1, done, a, w, hw, h => by
    rw [show f + 1 + g = (f + g) + 1 by omega]
    exact ⟨fun h0 => absurd h0 h.1, fun i hi => wpOp_of_qOp hw (fun a' w' hw' h' => Heads.any hL f _ a' w' hw' h') (h.2 i hi).2⟩

theorem Heads.first {n i : Nat} {oi : Oper} {v : Value} {L : Array Bool → Act → Prop} (hi : ops[i]? = some oi) (hsel : ∀ (j : Nat) (o : Oper) cs b, ops[j]? = some o → o.op ≠ .select cs b)
    (hs : Region.sinkB md ops n = true) (hc : Region.chainB md ops n = true) (hn : n < ops.size) (hin : i < n) (hend : ∀ done a, L done a → ∀ j ∈ Region.ready md ops done, n ≤ j) (f : Nat) :
    ∀ (done : Array Bool) (a : Act), HeadInv md ops n done →
      (∀ j oj, ops[j]? = some oj → j ≠ i → done.getD j true = false → (∀ e ∈ oj.after, Region.binds md e = true → e.on ≠ i) → oi.apart ops oj = true) →
      i ∈ Region.ready md ops done → YieldsIn P ops C oi v a →
      Heads P md ops C n L f (done.setIfInBounds i true) (a.put oi.dst v) → Heads P md ops C n L (f + 1) done a := by
  induction f with
  | zero =>
    intro done a inv _ hr hy H
    have hun := (mem_ready.1 hr).1
    refine ⟨List.ne_nil_of_mem hr, fun j hj => ?_⟩
    have hjn : j < n := Nat.lt_of_not_le fun h => tail_waits hs hc hn inv _ i rfl hin hun j h hj
    refine ⟨hjn, ?_⟩
    by_cases e : j = i
    · rw [e]; exact hy.qOp hi H
    · exact absurd (hend _ _ H j (ready_mono hj e)) (by omega)
  | succ f ih =>
    intro done a inv hfree hr hy H
    have hun := (mem_ready.1 hr).1
    refine ⟨List.ne_nil_of_mem hr, fun j hj => ?_⟩
    have hjn : j < n := Nat.lt_of_not_le fun h => tail_waits hs hc hn inv _ i rfl hin hun j h hj
    refine ⟨hjn, ?_⟩
    by_cases e : j = i
    · rw [e]; exact hy.qOp hi H
    have h1 := (H.2 j (ready_mono hj e)).2
    obtain ⟨hjun, oj, hoj, hall⟩ := mem_ready.1 hj
    have hap := hfree j oj hoj e hjun fun x hx hb hxi => by
      have h2 := hall x hx hb
      rw [hxi, getD_both hun] at h2
      cases h2
    refine qOp_mono (fun a' h3 => ih _ a' (inv.set hj hjn) (fun k ok hk hki hku hno => hfree k ok hk hki ?_ hno) (ready_mono hr (Ne.symm e)) h3.1 ?_) (qOp_put hoj hap (fun cs b => hsel i oi cs b hi) (fun cs b => hsel j oj cs b hoj) hy h1)
    · by_cases hjk : j = k
      · rw [← hjk]; exact hjun
      · rwa [getD_set_ne true hjk] at hku
    · rw [Array.setIfInBounds_comm _ _ e]
      exact h3.2

theorem Heads.lex {n g : Nat} {R : Act → Prop} (hsel : Region.noSelect ops = true) (hs : Region.sinkB md ops n = true) (hc : Region.chainB md ops n = true) (hn : n < ops.size) :
    ∀ (l : List Oper) (k : Nat) (done : Array Bool) (a : Act), (∀ j, j < l.length → l[j]? = ops[k + j]?) → k + l.length = n → HeadInv md ops n done → Region.lexHead md ops g l.length k done = true → wpQuiet P ops C R l a →
    Heads P md ops C n (fun done' a' => Region.seqB md ops g n done' = true ∧ R a') l.length done a
  | [], k, done, a, _, hk, _, hB, h => by
    obtain rfl : k = n := by simpa using hk
    exact ⟨by simpa [Region.lexHead] using hB, h⟩
  | o :: l, k, done, a, hl, hk, inv, hB, h => by
    rw [List.length_cons] at hk
    have h0 : ops[k]? = some o := by simpa using (hl 0 (by simp)).symm
    simp only [List.length_cons, Region.lexHead, Bool.and_eq_true] at hB
    have hr : k ∈ Region.ready md ops done := by simpa using hB.1.1
    have hq : qOp P ops C k (wpQuiet P ops C R l) a := by unfold qOp; simp only [h0]; exact h
    obtain ⟨v, hy, hK⟩ := yieldsIn_of_qOp h0 hq
    refine Heads.first h0 (Region.noSelect_spec hsel) hs hc hn (by omega) (fun _ _ hL => seqB_ready hL.1) l.length done a inv (Region.free_spec h0 hB.1.2) hr hy (Heads.lex hsel hs hc hn l (k + 1) _ _ (fun j hj => ?_) (by omega) (inv.set hr (by omega)) hB.2 hK)
    have := hl (j + 1) (by simp; omega)
    rw [show k + 1 + j = k + (j + 1) by omega]
    simpa using this

/-- The first n operations are quiet in the class, what stands behind them goes in its order from whatever world of the class. -/
theorem wp_region_quiet_tail {id : Nat} {Q : Exit → Act → World → Prop} {a : Act} {w : World} {l : List Oper} (n : Nat) (hm : P.follows .mixedOrders = true) (hB : Region.lexTailB .any l.toArray n = true) (hC : C { w with drawn := w.drawn + 1 })
    (h : wpQuiet P l.toArray C (fun a' => ∀ w', C w' → wpList P l.toArray Q (l.drop n) a' w') (l.take n) a) : (Code.region id l.toArray true).wp P Q a w := by
  simp only [Region.lexTailB, Bool.and_eq_true, decide_eq_true_eq] at hB
  obtain ⟨⟨⟨⟨hsel, hn⟩, hs⟩, hc⟩, hlex⟩ := hB
  have hn' : n < l.length := by simpa using hn
  have htl : (l.take n).length = n := by simp; omega
  have hdl : (l.drop n).length = l.toArray.size - n := by simp
  have inv : HeadInv .any l.toArray n (Array.replicate l.toArray.size false) :=
    ⟨by simp, fun j oj _ hl => (by rw [getD_replicate_false] at hl; cases hl), fun t _ ht => getD_in (by simpa using ht) (getD_replicate_false _ _)⟩
  have H := Heads.lex (g := l.toArray.size - n) hsel hs hc hn (l.take n) 0 _ a (fun j hj => by rw [htl] at hj; simp [hj]) (by simpa using htl) inv (by rw [htl]; exact hlex) h
  refine wp_region_any hm ?_
  have := Heads.any (Q := Q) (g := l.toArray.size - n) (fun done a' w' hw' hL => by
    have := wpAny_of_seq (md := .any) (Q' := Q) (l.drop n) n done a' w' (fun j => by simp [List.getElem?_drop]) (by rw [hdl]; exact hL.1) (hL.2 w' hw')
    rwa [hdl] at this) _ _ _ _ hC H
  rw [htl, show n + (l.toArray.size - n) = l.toArray.size by omega] at this
  exact this
end

/-- At the class 'blocks laid behind, draws'. -/
theorem wp_region_below_tail {P : Program} {id : Nat} {Q : Exit → Act → World → Prop} {a : Act} {w : World} {l : List Oper} (n : Nat) (hm : P.follows .mixedOrders = true) (hB : Region.lexTailB .any l.toArray n = true)
    (h : wpQuiet P l.toArray (fun w' => ∃ p : Regrown, w' = grow (redrawn w p.d) p.os) (fun a' => ∀ w', (∃ p : Regrown, w' = grow (redrawn w p.d) p.os) → wpList P l.toArray Q (l.drop n) a' w') (l.take n) a) : (Code.region id l.toArray true).wp P Q a w :=
  wp_region_quiet_tail (C := fun w' => ∃ p : Regrown, w' = grow (redrawn w p.d) p.os) n hm hB ⟨⟨w.drawn + 1, #[]⟩, by rw [grow_empty]; rfl⟩ h
/-- At the class 'draws'. -/
theorem wp_region_drew_tail {P : Program} {id : Nat} {Q : Exit → Act → World → Prop} {a : Act} {w : World} {l : List Oper} (n : Nat) (hm : P.follows .mixedOrders = true) (hB : Region.lexTailB .any l.toArray n = true)
    (h : wpQuiet P l.toArray (fun w' => ∃ q, w' = w.drewN q) (fun a' => ∀ w', (∃ q, w' = w.drewN q) → wpList P l.toArray Q (l.drop n) a' w') (l.take n) a) : (Code.region id l.toArray true).wp P Q a w :=
  wp_region_quiet_tail (C := fun w' => ∃ q, w' = w.drewN q) n hm hB ⟨1, rfl⟩ h
/-- A callee's contract that ends in 'Below', in whatever world of the class. -/
theorem regrown_calls {P : Program} {f : FuncId} {args : Array Value} {w : World} {v : Value} (h : ∀ w1, Below w.heap.size w w1 → Calls P f args w1 fun e w' => e = .returned v ∧ Below w1.heap.size w1 w') (d : Nat) (os : Array Obj) :
    Calls P f args (grow (redrawn w d) os) fun e w'' => e = .returned v ∧ ∃ p : Regrown, w'' = grow (redrawn w p.d) p.os :=
  Calls.regrown_of (h _ (below_regrown w d os))
end Go.Proofs.YtafloaabjinkfaaGreat
