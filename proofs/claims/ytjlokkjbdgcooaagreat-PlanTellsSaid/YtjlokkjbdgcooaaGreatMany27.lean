/-
  Several texts, one behind the other: what each holds stands ahead of it.
-/
import Derived.Test.YtjlokkjbdgcooaaGreatMany16
import Derived.Test.YtjlokkjbdgcooaaGreatKeyMath
import Derived.Test.YtjlokkjbdgcooaaGreatMany15
import Derived.Test.YtjlokkjbdgcooaaGreatMany8
import Derived.Test.YtjlokkjbdgcooaaGreatMany14

/-
  Contracts of slices.Equal over lines, of entry.Same and of the reference's Same.
-/
namespace Go.Proofs.YtjlokkjbdgcooaaGreat
open Go.RowKit

theorem str_inj {a b : ByteArray} : a.toList = b.toList ↔ a = b := by
  rw [ByteArray.toList_eq, ByteArray.toList_eq]
  constructor
  · intro h
    exact ByteArray.ext (Array.toList_inj.1 h)
  · intro h; rw [h]
theorem str_eq {a b : ByteArray} : (a.toList == b.toList) = true ↔ a = b := by rw [beq_iff_eq, str_inj]
def sameJ (a b : Jrn) : Bool := a.id == b.id && a.ent == b.ent && a.per == b.per && (a.ref.toList == b.ref.toList) && a.void == b.void && a.lines == b.lines
theorem sameJ_iff {a b : Jrn} : sameJ a b = true ↔ a = b := by
  obtain ⟨a1, a2, a3, a4, a5, a6⟩ := a
  obtain ⟨b1, b2, b3, b4, b5, b6⟩ := b
  unfold sameJ
  simp only [Bool.and_eq_true, beq_iff_eq, str_inj, Jrn.mk.injEq]
  constructor
  · rintro ⟨⟨⟨⟨⟨rfl, rfl⟩, rfl⟩, rfl⟩, rfl⟩, rfl⟩; exact ⟨rfl, rfl, rfl, rfl, rfl, rfl⟩
  · rintro ⟨rfl, rfl, rfl, rfl, rfl, rfl⟩; exact ⟨⟨⟨⟨⟨rfl, rfl⟩, rfl⟩, rfl⟩, rfl⟩, rfl⟩
theorem sameJ_self (a : Jrn) : sameJ a a = true := sameJ_iff.2 rfl

set_option maxRecDepth 100000 in
set_option maxHeartbeats 2000000 in
theorem refSame_any (a b : Jrn) (A1 A2 : Option Addr) (n1 n2 c1 c2 B1 B2 : Nat) (w : World) (h1 : Rd w B1 3 A1 n1 (lins a.lines)) (h2 : Rd w B2 3 A2 n2 (lins b.lines)) (hB1 : B1 ≤ w.heap.size) (hB2 : B2 ≤ w.heap.size) (hn1 : n1 ≤ maxLen) (hn2 : n2 ≤ maxLen) :
    Calls Tryz.prog 61 #[a.val A1 n1 c1, b.val A2 n2 c2] w fun e w' => e = .returned (.bool (sameJ a b)) ∧ Below w.heap.size w w' := by
  obtain ⟨a1, a2, a3, a4, a5, a6⟩ := a
  obtain ⟨b1, b2, b3, b4, b5, b6⟩ := b
  unfold Jrn.val sameJ
  unfold maxLen at hn1 hn2
  dsimp only at *
  have HB : Hid (∀ o1 o2, Below w.heap.size w ((w.alloc o1).alloc o2)) := fun o1 o2 => ((Below.refl _ _).alloc (Nat.le_refl _) o1).alloc (by simp) o2
  have L1 := Lib.hid h1.lins_len
  have L2 := Lib.hid h2.lins_len
  cases t1 : (a1 == b1)
  · have u1 : (a1 != b1) = true := by simp [bne, t1]
    clear t1
    go_enter Tryz.func61, Tryz.ntmps61
    go_wp2_with fail
    go_ret
    exact ⟨rfl, HB.out _ _⟩
  have u1 : (a1 != b1) = false := by simp [bne, t1]
  clear t1
  cases t2 : (a2 == b2)
  · have u2 : (a2 != b2) = true := by simp [bne, t2]
    clear t2
    go_enter Tryz.func61, Tryz.ntmps61
    go_wp2_with fail
    go_ret
    exact ⟨rfl, HB.out _ _⟩
  have u2 : (a2 != b2) = false := by simp [bne, t2]
  clear t2
  cases t3 : (a3 == b3)
  · have u3 : (a3 != b3) = true := by simp [bne, t3]
    clear t3
    go_enter Tryz.func61, Tryz.ntmps61
    go_wp2_with fail
    go_ret
    exact ⟨rfl, HB.out _ _⟩
  have u3 : (a3 != b3) = false := by simp [bne, t3]
  clear t3
  cases t4 : (a4.toList == b4.toList)
  · go_enter Tryz.func61, Tryz.ntmps61
    go_wp2_with fail
    go_ret
    exact ⟨rfl, HB.out _ _⟩
  by_cases h6 : a6 = b6
  rotate_left
  · have t5 : (a6 == b6) = false := by simpa using h6
    rw [t5]
    obtain ⟨rfl, rfl⟩ | ⟨rfl, rfl⟩ : (a6 = true ∧ b6 = false) ∨ (a6 = false ∧ b6 = true) := by cases a6 <;> cases b6 <;> simp_all
    all_goals
      clear t5 h6
      go_enter Tryz.func61, Tryz.ntmps61
      go_wp2_with fail
      go_ret
      exact ⟨rfl, HB.out _ _⟩
  subst h6
  rw [show (a6 == a6) = true by simp]
  by_cases hne : n1 = n2
  rotate_left
  · have u6 : ((n1 : Int) != (n2 : Int)) = true := by rw [bne_iff_ne]; omega
    have HN : Hid ((a5 == b5) = false) := by
      unfold Hid
      rw [beq_eq_false_iff_ne]
      intro e
      have := L1.out; have := L2.out
      rw [e] at *
      omega
    simp only [Bool.true_and]
    rw [HN.out]
    clear hne
    go_enter Tryz.func61, Tryz.ntmps61
    go_wp2_with fail
    go_ret
    exact ⟨rfl, HB.out _ _⟩
  · subst hne
    have u6 : ((n1 : Int) != (n1 : Int)) = false := by simp
    simp only [Bool.true_and]
    have hr1 := Lib.hid (fun o1 o2 => h1.far (HB.out o1 o2) hB1)
    have hr2 := Lib.hid (fun o1 o2 => h2.far (HB.out o1 o2) hB2)
    clear h1 h2
    obtain ⟨W1, hW1⟩ : ∃ W1, w.alloc (.cells #[.int .i64 a1, .int .i64 a2, .int .i64 a3, .string a4, .slice A1 n1 c1, .bool a6] 111) = W1 := ⟨_, rfl⟩
    obtain ⟨W2, hW2⟩ : ∃ W2, W1.alloc (.cells #[.int .i64 b1, .int .i64 b2, .int .i64 b3, .string b4, .slice A2 n1 c2, .bool a6] 111) = W2 := ⟨_, rfl⟩
    have s1 : W1.heap.size = w.heap.size + 1 := by rw [← hW1]; simp
    have g1 : Hid (W2.cell? ⟨w.heap.size, 4, none⟩ = some (.slice A1 n1 c1)) := by
      have hb : Below W1.heap.size W1 W2 := by rw [← hW2]; exact (Below.refl _ _).alloc (Nat.le_refl _) _
      exact (box6 hW1 hb).2.2.2.2.1
    have g2 : Hid (W2.cell? ⟨w.heap.size + 1, 4, none⟩ = some (.slice A2 n1 c2)) := by
      have := (box6 hW2 (Below.refl _ _)).2.2.2.2.1
      rw [s1] at this; exact this
    have r1 : Hid (Rd W2 B1 3 A1 n1 (lins a5)) := by rw [← hW2, ← hW1]; exact hr1.out _ _
    have r2 : Hid (Rd W2 B2 3 A2 n1 (lins b5)) := by rw [← hW2, ← hW1]; exact hr2.out _ _
    have HBW : Hid (Below w.heap.size w W2) := by rw [← hW2, ← hW1]; exact HB.out _ _
    rw [← hW1] at hW2
    have HW2 := Lib.hid hW2
    clear hW1 hW2 hr1 hr2 s1
    go_enter Tryz.func61, Tryz.ntmps61
    go_wp2_with fail
    rw [HW2.out]
    go_loopw [5] (fun i wr => ∃ k : Nat, k ≤ n1 ∧ i = .int .i64 k ∧ Hid (a5.take k = b5.take k) ∧ Drew W2 wr) (fun i _ => n1 - (intOf i).toNat)
    case atStart => exact ⟨0, Nat.zero_le _, rfl, by simp [Hid], Drew.refl _⟩
    case round =>
      obtain ⟨k, hk, rfl, hs, q, rfl⟩ := hrel
      have v1 := g1.out
      have v2 := g2.out
      by_cases hlt : k < n1
      · obtain ⟨d1, x, rfl, hb1, hx, p1, p2, p3⟩ := r1.out.lin hlt
        obtain ⟨d2, y, rfl, hb2, hy, q1, q2, q3⟩ := r2.out.lin hlt
        have hkn : (k : Int) < (n1 : Int) := by omega
        have p2' := cell_behind p2 (by omega)
        have p3' := cell_behind p3 (by omega)
        have q2' := cell_behind q2 (by omega)
        have q3' := cell_behind q3 (by omega)
        have HX : Hid (x = y → a5.take (k + 1) = b5.take (k + 1)) := fun h => lin_step (by have := L1.out; have := L2.out; omega) hs.out (by rw [hx, hy, h])
        have HY : Hid (x ≠ y → (a5 == b5) = false) := by
          intro h
          rw [beq_eq_false_iff_ne]
          intro e
          rw [e, hy] at hx
          exact h (by injection hx with hx; exact hx.symm)
        clear hx hy p2 p3 q2 q3
        obtain ⟨x1, x2, x3⟩ := x
        obtain ⟨y1, y2, y3⟩ := y
        by_cases e1 : x1 = y1
        · subst e1
          by_cases e2 : x2 = y2
          · subst e2
            by_cases e3 : x3 = y3
            · subst e3
              go_wp2_with fail
              go_big_quiet (fail)
              go_wp2
              exact ⟨⟨k + 1, by omega, by go_num, HX.out (by first | rfl | trivial), Drew.add _ _⟩, by simp [intOf]; omega⟩
            · skip
              go_wp2_with fail
              go_big_quiet (fail)
              go_wp2
              go_ret
              exact ⟨ret_bool (HY.out (by simp [e3])).symm, HBW.out.trans (Drew.below ⟨_, World.drewN_drewN _ _ _⟩)⟩
          · skip
            go_wp2_with fail
            go_big_quiet (fail)
            go_wp2
            go_ret
            exact ⟨ret_bool (HY.out (by simp [e2])).symm, HBW.out.trans (Drew.below ⟨_, World.drewN_drewN _ _ _⟩)⟩
        · skip
          go_wp2_with fail
          go_big_quiet (fail)
          go_wp2
          go_ret
          exact ⟨ret_bool (HY.out (by simp [e1])).symm, HBW.out.trans (Drew.below ⟨_, World.drewN_drewN _ _ _⟩)⟩
      · go_wp2
        go_ret
        refine ⟨ret_bool ?_, HBW.out.trans (Drew.below ⟨_, rfl⟩)⟩
        have := hs.out
        rw [List.take_of_length_le (by have := L1.out; omega), List.take_of_length_le (by have := L2.out; omega)] at this
        rw [this]; simp
end Go.Proofs.YtjlokkjbdgcooaaGreat

/-
  Journals as rows of a list, their lines elsewhere; a book in memory; what its calls answer. No code.
-/
namespace Go.Proofs.YtjlokkjbdgcooaaGreat
open Go.RowKit

/-- A book: its variable, its rows in a row of its own, their lines in rows of their own. -/
structure TomeAt (w : World) (B c : Nat) (v : Value) (l : List JR) : Prop where
  blk : w.heap[c]? = some (.cells #[v] 270 (0, 0))
  low : B ≤ c
  own : w.ownsRow B 111 6 v l.length (jrs l)
  lines : ∀ a ∈ l, w.ownsRow B 113 3 a.lv a.j.lines.length (lins a.j.lines)
  rise : Rise JR.id l
  len : l.length ≤ 200
  ok : ∀ a ∈ l, checkE a.j = 0
/-- The blocks of a book. -/
def InTome (c : Nat) (v : Value) (l : List JR) (k : Nat) : Prop := k = c ∨ v.ownBlock = some k ∨ ∃ a ∈ l, a.lv.ownBlock = some k
section
variable {w w' : World} {B c : Nat} {v : Value} {l : List JR}
theorem TomeAt.cell (h : TomeAt w B c v l) : w.cell? ⟨c, 0, none⟩ = some v := by rw [cell_of h.blk]; rfl
theorem TomeAt.warm (h : TomeAt w B c v l) : w.frozen? ⟨c, 0, none⟩ = false := warm_of h.blk 0
theorem TomeAt.lt (h : TomeAt w B c v l) : c < w.heap.size := lt_of_blk h.blk
theorem TomeAt.kept (h : TomeAt w B c v l) (hk : ∀ k, k < w.heap.size → InTome c v l k → w'.heap[k]? = w.heap[k]?) : TomeAt w' B c v l :=
  ⟨(hk c h.lt (.inl rfl)).trans h.blk, h.low, own_kept h.own fun k hk1 hk2 => hk k hk1 (.inr (.inl hk2)), fun a ha => own_kept (h.lines a ha) fun k hk1 hk2 => hk k hk1 (.inr (.inr ⟨a, ha, hk2⟩)), h.rise, h.len, h.ok⟩
theorem TomeAt.below (h : TomeAt w B c v l) (hb : Below w.heap.size w w') : TomeAt w' B c v l := h.kept fun k hk _ => hb.block k hk
theorem TomeAt.but {S : Nat → Prop} (h : TomeAt w B c v l) (hb : But S w w') (hs : ∀ k, InTome c v l k → ¬ S k) : TomeAt w' B c v l := h.kept fun k hk hi => hb.block k hk (hs k hi)
theorem TomeAt.form (h : TomeAt w B c v l) : ∃ A cap, v = .slice A l.length cap := own_form h.own
theorem TomeAt.ge (h : TomeAt w B c v l) : ∀ k, InTome c v l k → B ≤ k := by
  rintro k (rfl | hk | ⟨a, ha, hk⟩)
  · exact h.low
  · exact own_ge h.own k hk
  · exact own_ge (h.lines a ha) k hk
theorem TomeAt.ltB (h : TomeAt w B c v l) : ∀ k, InTome c v l k → k < w.heap.size := by
  rintro k (rfl | hk | ⟨a, ha, hk⟩)
  · exact h.lt
  · exact own_lt h.own k hk
  · exact own_lt (h.lines a ha) k hk
theorem TomeAt.apart (h : TomeAt w B c v l) : v.ownBlock ≠ some c := own_ne h.own h.blk (by decide)
theorem TomeAt.apartL (h : TomeAt w B c v l) {a : JR} (ha : a ∈ l) : a.lv.ownBlock ≠ some c := own_ne (h.lines a ha) h.blk (by decide)
theorem TomeAt.apartR (h : TomeAt w B c v l) {a : JR} (ha : a ∈ l) : ∀ k, v.ownBlock = some k → a.lv.ownBlock ≠ some k := own_own_ne h.own (h.lines a ha) (by decide)
theorem TomeAt.rd (h : TomeAt w B c v l) {a : JR} (ha : a ∈ l) : Rd w w.heap.size 3 a.A a.j.lines.length (lins a.j.lines) := rd_of_own (h.lines a ha)
theorem checkE_len {j : Jrn} (h : checkE j = 0) : j.lines.length ≤ 8 ∧ 1 ≤ j.id ∧ j.id ≤ 999999 ∧ j.ref.size ≤ 8 := by
  unfold checkE at h
  split at h
  · rename_i h1
    rw [Bool.and_eq_true] at h1
    obtain ⟨h2, h3⟩ := h1
    have h4 := linesOk_len h3
    unfold frontOk refOk at h2
    simp only [Bool.and_eq_true] at h2
    have h5 := inB_iff.1 h2.1.1.1
    have h6 : j.ref.data.toList.length ≤ 8 := by simpa using h2.2.1
    rw [Array.length_toList] at h6
    exact ⟨h4.2, h5.1, h5.2, h6⟩
  · omega
/-- A row at a place, as a walk reads it. -/
theorem TomeAt.at {p : Nat} {a : JR} (h : TomeAt w B c v l) (hp : l[p]? = some a) : ∃ g cap, v = .slice (some ⟨g, 0, none⟩) l.length cap ∧ p < l.length ∧ g < w.heap.size ∧ B ≤ g ∧ (∀ i u, a.cells[i]? = some u → w.cell? ⟨g, p * 6 + i, none⟩ = some u) ∧ ∀ j, w.frozen? ⟨g, j, none⟩ = false := by
  have hl := (List.getElem?_eq_some_iff.1 hp).1
  rcases h.own.2 with ⟨_, h1⟩ | ⟨g, cap, cur, rfl, hB, hh, _⟩
  · omega
  · exact ⟨g, cap, rfl, hl, lt_of_blk hh, hB, fun i u hu => own_cell h.own (jrs_at l p a hp i u hu), fun j => warm_of hh j⟩
end
/-- A book that was v, l, and has become M. -/
def TomeTo (w : World) (B c : Nat) (v : Value) (l : List JR) (M : List Jrn) (w' : World) : Prop :=
  ∃ v' l', TomeAt w' B c v' l' ∧ l'.map JR.j = M ∧ But (fun k => k = c ∨ v.ownBlock = some k) w w' ∧ ∀ k, InTome c v' l' k → InTome c v l k ∨ w.heap.size ≤ k
theorem TomeTo.same {w w' : World} {B c : Nat} {v : Value} {l : List JR} (h : TomeAt w B c v l) (hb : Below w.heap.size w w') : TomeTo w B c v l (l.map JR.j) w' :=
  ⟨v, l, h.below hb, rfl, But.of_below hb, fun _ hk => .inl hk⟩
theorem TomeTo.on {w w1 w' : World} {B c : Nat} {v : Value} {l : List JR} {M : List Jrn} (hb : Below w.heap.size w w1) (h : TomeTo w1 B c v l M w') : TomeTo w B c v l M w' := by
  obtain ⟨v', l', h1, h2, h3, h4⟩ := h
  refine ⟨v', l', h1, h2, (But.of_below hb).trans h3, fun k hk => ?_⟩
  rcases h4 k hk with h | h
  · exact .inl h
  · exact .inr (Nat.le_trans hb.size h)
/-- A zero book. -/
theorem tome_new (w : World) : TomeAt (w.alloc (.cells #[.slice none 0 0] 270)) w.heap.size w.heap.size (.slice none 0 0) [] :=
  ⟨heap_new _ _, Nat.le_refl _, World.ownsRow_nil _ _ _ _, by simp, Rise.nil, by simp, by simp⟩
/-- A book, and all that was there ahead of it as it was. -/
def TomeOn (B : Nat) (w : World) (c : Nat) (M : List Jrn) (w' : World) : Prop := ∃ v l, TomeAt w' B c v l ∧ l.map JR.j = M ∧ Below B w w'
theorem TomeOn.set {B c : Nat} {w w1 w2 : World} {v : Value} {l : List JR} {M : List Jrn} (hw : B ≤ w1.heap.size) (h : TomeAt w1 B c v l) (hb : Below B w w1) (ht : TomeTo w1 B c v l M w2) : TomeOn B w c M w2 := by
  obtain ⟨v', l', h1, h2, h3, _⟩ := ht
  exact ⟨v', l', h1, h2, hb.trans (h3.below (fun k _ hk => h.ge k (hk.elim .inl fun e => .inr (.inl e))) hw)⟩
theorem TomeOn.same {B c : Nat} {w w1 w2 : World} {v : Value} {l : List JR} (hw : B ≤ w1.heap.size) (h : TomeAt w1 B c v l) (hb : Below B w w1) (hb2 : Below w1.heap.size w1 w2) : TomeOn B w c (l.map JR.j) w2 :=
  ⟨v, l, h.below hb2, rfl, hb.trans (hb2.mono hw)⟩

/-- What a book's calls answer. -/
def holdsRef (s : ByteArray) (b : Jrn) : Bool := !(s.toList == []) && !b.void && (b.ref.toList == s.toList)
def leavesRef (c b : Jrn) : Bool := c.void || b.id == c.id || !(b.ent == c.ent) || !holdsRef c.ref b
def takenJ (M : List Jrn) (j : Jrn) : Bool := !(M.all (leavesRef j))
def hasId (M : List Jrn) (x : Int) : Bool := (findK Jrn.id M x).isSome
def postE (M : List Jrn) (j : Jrn) : Int := if checkE j = 0 then (if hasId M j.id = true then 7 else if takenJ M j = true then 8 else if 200 ≤ M.length then 13 else 0) else checkE j
def postL (M : List Jrn) (j : Jrn) : List Jrn := if postE M j = 0 then putK Jrn.id M j else M
def liveE (M : List Jrn) (x : Int) : Int := match findK Jrn.id M x with | none => 9 | some b => if b.void = true then 11 else 0
def amendE (M : List Jrn) (j : Jrn) : Int := if checkE j = 0 then (if liveE M j.id = 0 then (if takenJ M j = true then 8 else 0) else liveE M j.id) else checkE j
def amendL (M : List Jrn) (j : Jrn) : List Jrn := if amendE M j = 0 then putK Jrn.id M j else M
def voidJ (j : Jrn) : Jrn := { j with void := true }
def voidL (M : List Jrn) (x : Int) : List Jrn := if liveE M x = 0 then (match findK Jrn.id M x with | none => M | some b => putK Jrn.id M (voidJ b)) else M
def refJ (M : List Jrn) (s : ByteArray) : Int := match M.find? (holdsRef s) with | none => 0 | some b => b.id
theorem hasId_map (l : List JR) (x : Int) : hasId (l.map JR.j) x = (findK JR.id l x).isSome := by
  unfold hasId
  rw [findK_map, Option.isSome_map]; rfl
end Go.Proofs.YtjlokkjbdgcooaaGreat
