/-
  Several texts, one behind the other: what each holds stands ahead of it.
-/
import Derived.Test.YthjpknipnmagkaaMany4
import Derived.Test.YthjpknipnmagkaaKeyMath
import Derived.Test.YthjpknipnmagkaaJrRow
import Derived.Test.YthjpknipnmagkaaMany3
import Derived.Test.YthjpknipnmagkaaInsertRun

/-
  Contract of entry.Check.
-/
namespace Go.Proofs.Ythjpknipnmagkaa
open Go.RowKit

/-- A journal's block, read later. -/
theorem box6 {w W1 w1 : World} {a0 a1 a2 a3 a4 a5 : Value} {T : TypeId} (hW : w.alloc (.cells #[a0, a1, a2, a3, a4, a5] T) = W1) (hb : Below W1.heap.size W1 w1) :
    w1.cell? ⟨w.heap.size, 0, none⟩ = some a0 ∧ w1.cell? ⟨w.heap.size, 1, none⟩ = some a1 ∧ w1.cell? ⟨w.heap.size, 2, none⟩ = some a2 ∧ w1.cell? ⟨w.heap.size, 3, none⟩ = some a3 ∧ w1.cell? ⟨w.heap.size, 4, none⟩ = some a4 ∧ w1.cell? ⟨w.heap.size, 5, none⟩ = some a5 := by
  subst hW
  have hz : ∀ i, (⟨w.heap.size, i, none⟩ : Addr).block < (w.alloc (.cells #[a0, a1, a2, a3, a4, a5] T)).heap.size := fun i => by simp
  exact ⟨(hb.cell (hz 0)).trans (box_cell 0), (hb.cell (hz 1)).trans (box_cell 1), (hb.cell (hz 2)).trans (box_cell 2), (hb.cell (hz 3)).trans (box_cell 3), (hb.cell (hz 4)).trans (box_cell 4), (hb.cell (hz 5)).trans (box_cell 5)⟩
theorem fits_two (p : Int) (W : World) (o : Obj) (T : TypeId) : Calls Try.prog 91 #[.slice (some ⟨W.heap.size + 1, 0, none⟩) 1 1] ((W.alloc o).alloc (.cells #[.int .i64 p] T)) fun e w' => e = .returned (.bool (fits1 p)) ∧ (W.alloc o).alloc (.cells #[.int .i64 p] T) = w' := by
  have := fits_one p (W.alloc o) (T := T)
  rw [show (W.alloc o).heap.size = W.heap.size + 1 by simp] at this
  exact this
theorem checkE_front {j : Jrn} (h : frontOk j = false) : checkE j = 1 := by unfold checkE; rw [h]; rfl
theorem checkE_lines {j : Jrn} (h : linesOk j = false) : checkE j = 1 := by unfold checkE; rw [h, Bool.and_false]; rfl
theorem checkE_rest {j : Jrn} (h : frontOk j = true) (h2 : linesOk j = true) : checkE j = if fitsL j.lines = true then if sumA j.lines = 0 then 0 else 3 else 2 := by unfold checkE; rw [h, h2]; rfl
theorem linesOk_len {j : Jrn} (h : linesOk j = true) : 2 ≤ j.lines.length ∧ j.lines.length ≤ 8 := by
  unfold linesOk at h
  rw [Bool.and_eq_true] at h
  have := inB_iff.1 h.1
  omega

set_option maxRecDepth 100000 in
set_option maxHeartbeats 2000000 in
theorem check_any (j : Jrn) (A : Option Addr) (n c B : Nat) (w : World) (h : Rd w B 3 A n (lins j.lines)) (hB : B ≤ w.heap.size) (hn : n ≤ maxLen) (hs : j.ref.size ≤ maxLen) :
    Calls Try.prog 64 #[j.val A n c] w fun e w' => e = .returned (.int .i64 (checkE j)) ∧ Below w.heap.size w w' := by
  have HL := Lib.hid h.lins_len
  obtain ⟨W1, hW⟩ : ∃ W1, w.alloc (.cells #[.int .i64 j.id, .int .i64 j.ent, .int .i64 j.per, .string j.ref, .slice A n c, .bool j.void] 38) = W1 := ⟨_, rfl⟩
  have hb1 : Below w.heap.size w W1 := by rw [← hW]; exact (Below.refl _ _).alloc (Nat.le_refl _) _
  have hz1 : w.heap.size < W1.heap.size := by rw [← hW]; simp
  have HW := Lib.hid hW
  have kf := Lib.hid (frontMayBe_any j A n c W1 hs)
  have kl : Hid (∀ w1, Below W1.heap.size W1 w1 → Calls Try.prog 90 #[j.val A n c] w1 fun e w' => e = .returned (.bool (linesOk j)) ∧ Below w1.heap.size w1 w') := fun w1 hb => linesMayBe_any j A n c B w1 (h.far (hb1.trans (hb.mono hb1.size)) hB) (by have := hb.size; omega) hn
  have HR : Hid (∀ w1, Below W1.heap.size W1 w1 → Rd w1 B 3 A n (lins j.lines)) := fun w1 hb => h.far (hb1.trans (hb.mono hb1.size)) hB
  have HB1 := Lib.hid hb1
  have HZ := Lib.hid hz1
  have HH : Hid (frontOk j = false ∨ frontOk j = true ∧ (linesOk j = false ∨ linesOk j = true)) := by
    unfold Hid
    cases frontOk j <;> cases linesOk j <;> simp
  have e0 : Hid (frontOk j = false → checkE j = 1) := checkE_front
  have e1 : Hid (linesOk j = false → checkE j = 1) := checkE_lines
  have e2 : Hid (frontOk j = true → linesOk j = true → checkE j = if fitsL j.lines = true then if sumA j.lines = 0 then 0 else 3 else 2) := checkE_rest
  have e3 : Hid (linesOk j = true → 2 ≤ j.lines.length ∧ j.lines.length ≤ 8) := linesOk_len
  clear hb1 hz1 h hs hW
  unfold Jrn.val at kf kl ⊢
  obtain ⟨id, ent, per, ref, L, void⟩ := j
  dsimp only at *
  generalize frontOk ⟨id, ent, per, ref, L, void⟩ = F at *
  generalize linesOk ⟨id, ent, per, ref, L, void⟩ = G at *
  generalize checkE ⟨id, ent, per, ref, L, void⟩ = E at *
  unfold maxLen at hn
  rcases HH.out with rfl | ⟨rfl, rfl | rfl⟩
  · obtain rfl := e0.out rfl
    go_enter Try.func64, Try.ntmps64
    go_wp2_with fail
    rw [HW.out]
    refine kf.out.mono ?_
    rintro e w1 ⟨rfl, hb⟩
    go_wp2
    go_ret
    exact ⟨rfl, HB1.out.trans (hb.mono HB1.out.size)⟩
  · obtain rfl := e1.out rfl
    go_enter Try.func64, Try.ntmps64
    go_wp2_with fail
    rw [HW.out]
    refine kf.out.mono ?_
    rintro e w1 ⟨rfl, hb⟩
    obtain ⟨b0, b1, b2, b3, b4, b5⟩ := box6 HW.out hb
    have kl1 := Lib.hid (kl.out w1 hb)
    have HB2 := Lib.hid hb
    clear hb
    go_wp2_with fail
    refine kl1.out.mono ?_
    rintro e w2 ⟨rfl, hb2⟩
    have HB3 := Lib.hid hb2
    clear hb2
    go_wp2
    go_ret
    exact ⟨rfl, HB1.out.trans ((HB2.out.trans (HB3.out.mono HB2.out.size)).mono HB1.out.size)⟩
  · have hE := e2.out rfl rfl
    obtain ⟨hn2, hn8⟩ := e3.out rfl
    have HE := Lib.hid hE
    rw [HL.out] at hn2 hn8
    clear hE
    go_enter Try.func64, Try.ntmps64
    go_wp2_with fail
    rw [HW.out]
    refine kf.out.mono ?_
    rintro e w1 ⟨rfl, hb⟩
    obtain ⟨b0, b1, b2, b3, b4, b5⟩ := box6 HW.out hb
    have kl1 := Lib.hid (kl.out w1 hb)
    have HB2 := Lib.hid hb
    clear hb
    go_wp2_with fail
    refine kl1.out.mono ?_
    rintro e w2 ⟨rfl, hb2⟩
    have HB3 : Hid (Below W1.heap.size W1 w2) := HB2.out.trans (hb2.mono HB2.out.size)
    clear hb2 b0 b1 b2 b3 b4 b5 HB2 kl1 kf kl
    obtain ⟨_, _, _, _, b4, _⟩ := box6 HW.out HB3.out
    go_wp2_with fail
    clear b4
    go_loopw [17, 3, 5] (fun iv sv _ wr => ∃ k : Nat, k ≤ n ∧ iv = .int .i64 k ∧ sv = .int .i64 (sumA (L.take k)) ∧ Hid (fitsL (L.take k) = true) ∧ Below w2.heap.size w2 wr) (fun iv _ _ _ => n - (intOf iv).toNat)
    case atStart => exact ⟨0, Nat.zero_le _, rfl, rfl, rfl, Below.refl _ _⟩
    case round =>
      obtain ⟨k, hk, rfl, rfl, hf, hbel⟩ := hrel
      have hzr := hbel.size
      have HBr : Hid (Below w.heap.size w wr) := HB1.out.trans ((HB3.out.trans (hbel.mono HB3.out.size)).mono HB1.out.size)
      by_cases hlt : k < n
      · obtain ⟨ad, x, rfl, hbk, hx, p1, p2, p3⟩ := (HR.out wr (HB3.out.trans (hbel.mono HB3.out.size))).lin hlt
        have hkn : (k : Int) < (n : Int) := by omega
        have p2' := cell_behind p2 (by omega)
        have p3' := cell_behind p3 (by omega)
        have HX := Lib.hid hx
        have hbd := sumA_bound k (by have := HL.out; omega) hf.out
        have HST := Lib.hid (sumA_step hx)
        have HBL : Hid (∀ o o2, Below w2.heap.size w2 ((wr.alloc o).alloc o2)) := fun o o2 => (hbel.alloc hzr o).alloc (by simp; omega) o2
        have HBW : Hid (∀ o o2, Below w.heap.size w ((wr.alloc o).alloc o2)) := fun o o2 => (HBr.out.alloc HBr.out.size o).alloc (by have := HBr.out.size; simp; omega) o2
        clear hx p2 p3 hbel
        obtain ⟨x1, x2, x3⟩ := x
        dsimp only at HST p2'
        have kx := Lib.hid (fits_two x2 wr)
        generalize sumA (L.take k) = S at *
        cases c1 : fits1 x2
        · go_wp2_with (go_at_call 91; refine (kx.out _ _).mono ?_; rintro e w' ⟨rfl, rfl⟩)
          go_ret
          exact ⟨ret_int (by rw [HE.out, if_neg (by rw [fitsL_no HX.out c1]; decide)]), HBW.out _ _⟩
        · have hfit := fits1_iff.1 c1
          go_wp2_with (go_at_call 91; refine (kx.out _ _).mono ?_; rintro e w' ⟨rfl, rfl⟩)
          refine ⟨⟨k + 1, by omega, by go_num, ?_, fitsL_step hf.out HX.out c1, HBL.out _ _⟩, by simp [intOf]; omega⟩
          rw [HST.out]
      · obtain rfl : k = n := by omega
        have hfe := fitsL_end hf.out (Nat.le_of_eq HL.out)
        have hE := HE.out
        rw [hfe, if_pos rfl] at hE
        rw [List.take_of_length_le (Nat.le_of_eq HL.out)]
        have HE2 := Lib.hid hE
        clear hE hf hfe
        generalize sumA L = S at *
        cases c1 : (S != 0)
        · go_wp2
          go_ret
          exact ⟨ret_int (by rw [HE2.out, if_pos (by simpa using c1)]), HBr.out⟩
        · go_wp2
          go_ret
          exact ⟨ret_int (by rw [HE2.out, if_neg (by simpa using c1)]), HBr.out⟩
end Go.Proofs.Ythjpknipnmagkaa

/-
  Contracts of slices.Equal over lines, of entry.Same and of the reference's Same.
-/
namespace Go.Proofs.Ythjpknipnmagkaa
open Go.RowKit

theorem str_inj {a b : ByteArray} : a.toList = b.toList ↔ a = b := by
  rw [ByteArray.toList_eq, ByteArray.toList_eq]
  constructor
  · intro h
    exact ByteArray.ext (Array.toList_inj.1 h)
  · intro h; rw [h]
theorem str_eq {a b : ByteArray} : (a.toList == b.toList) = true ↔ a = b := by rw [beq_iff_eq, str_inj]
def sameJ (a b : Jrn) : Bool := a.id == b.id && a.ent == b.ent && a.per == b.per && (a.ref.toList == b.ref.toList) && a.void == b.void && a.lines == b.lines
theorem sameJ_iff {a b : Jrn} : sameJ a b = true ↔ a = b := by
  obtain ⟨a1, a2, a3, a4, a5, a6⟩ := a
  obtain ⟨b1, b2, b3, b4, b5, b6⟩ := b
  unfold sameJ
  simp only [Bool.and_eq_true, beq_iff_eq, str_inj, Jrn.mk.injEq]
  constructor
  · rintro ⟨⟨⟨⟨⟨rfl, rfl⟩, rfl⟩, rfl⟩, rfl⟩, rfl⟩; exact ⟨rfl, rfl, rfl, rfl, rfl, rfl⟩
  · rintro ⟨rfl, rfl, rfl, rfl, rfl, rfl⟩; exact ⟨⟨⟨⟨⟨rfl, rfl⟩, rfl⟩, rfl⟩, rfl⟩, rfl⟩
theorem sameJ_self (a : Jrn) : sameJ a a = true := sameJ_iff.2 rfl

end Go.Proofs.Ythjpknipnmagkaa

/-
  Journals as rows of a list, their lines elsewhere; a book in memory; what its calls answer. No code.
-/
namespace Go.Proofs.Ythjpknipnmagkaa
open Go.RowKit

/-- A book: its variable, its rows in a row of its own, their lines in rows of their own. -/
structure TomeAt (w : World) (B c : Nat) (v : Value) (l : List JR) : Prop where
  blk : w.heap[c]? = some (.cells #[v] 138 (0, 0))
  low : B ≤ c
  own : w.ownsRow B 38 6 v l.length (jrs l)
  lines : ∀ a ∈ l, w.ownsRow B 40 3 a.lv a.j.lines.length (lins a.j.lines)
  rise : Rise JR.id l
  len : l.length ≤ 200
  ok : ∀ a ∈ l, checkE a.j = 0
/-- The blocks of a book. -/
def InTome (c : Nat) (v : Value) (l : List JR) (k : Nat) : Prop := k = c ∨ v.ownBlock = some k ∨ ∃ a ∈ l, a.lv.ownBlock = some k
section
variable {w w' : World} {B c : Nat} {v : Value} {l : List JR}
theorem TomeAt.cell (h : TomeAt w B c v l) : w.cell? ⟨c, 0, none⟩ = some v := by rw [cell_of h.blk]; rfl
theorem TomeAt.warm (h : TomeAt w B c v l) : w.frozen? ⟨c, 0, none⟩ = false := warm_of h.blk 0
theorem TomeAt.lt (h : TomeAt w B c v l) : c < w.heap.size := lt_of_blk h.blk
theorem TomeAt.kept (h : TomeAt w B c v l) (hk : ∀ k, k < w.heap.size → InTome c v l k → w'.heap[k]? = w.heap[k]?) : TomeAt w' B c v l :=
  ⟨(hk c h.lt (.inl rfl)).trans h.blk, h.low, own_kept h.own fun k hk1 hk2 => hk k hk1 (.inr (.inl hk2)), fun a ha => own_kept (h.lines a ha) fun k hk1 hk2 => hk k hk1 (.inr (.inr ⟨a, ha, hk2⟩)), h.rise, h.len, h.ok⟩
theorem TomeAt.below (h : TomeAt w B c v l) (hb : Below w.heap.size w w') : TomeAt w' B c v l := h.kept fun k hk _ => hb.block k hk
theorem TomeAt.but {S : Nat → Prop} (h : TomeAt w B c v l) (hb : But S w w') (hs : ∀ k, InTome c v l k → ¬ S k) : TomeAt w' B c v l := h.kept fun k hk hi => hb.block k hk (hs k hi)
theorem TomeAt.form (h : TomeAt w B c v l) : ∃ A cap, v = .slice A l.length cap := own_form h.own
theorem TomeAt.ge (h : TomeAt w B c v l) : ∀ k, InTome c v l k → B ≤ k := by
  rintro k (rfl | hk | ⟨a, ha, hk⟩)
  · exact h.low
  · exact own_ge h.own k hk
  · exact own_ge (h.lines a ha) k hk
theorem TomeAt.ltB (h : TomeAt w B c v l) : ∀ k, InTome c v l k → k < w.heap.size := by
  rintro k (rfl | hk | ⟨a, ha, hk⟩)
  · exact h.lt
  · exact own_lt h.own k hk
  · exact own_lt (h.lines a ha) k hk
theorem TomeAt.apart (h : TomeAt w B c v l) : v.ownBlock ≠ some c := own_ne h.own h.blk (by decide)
theorem TomeAt.apartL (h : TomeAt w B c v l) {a : JR} (ha : a ∈ l) : a.lv.ownBlock ≠ some c := own_ne (h.lines a ha) h.blk (by decide)
theorem TomeAt.apartR (h : TomeAt w B c v l) {a : JR} (ha : a ∈ l) : ∀ k, v.ownBlock = some k → a.lv.ownBlock ≠ some k := own_own_ne h.own (h.lines a ha) (by decide)
theorem TomeAt.rd (h : TomeAt w B c v l) {a : JR} (ha : a ∈ l) : Rd w w.heap.size 3 a.A a.j.lines.length (lins a.j.lines) := rd_of_own (h.lines a ha)
theorem checkE_len {j : Jrn} (h : checkE j = 0) : j.lines.length ≤ 8 ∧ 1 ≤ j.id ∧ j.id ≤ 999999 ∧ j.ref.size ≤ 8 := by
  unfold checkE at h
  split at h
  · rename_i h1
    rw [Bool.and_eq_true] at h1
    obtain ⟨h2, h3⟩ := h1
    have h4 := linesOk_len h3
    unfold frontOk refOk at h2
    simp only [Bool.and_eq_true] at h2
    have h5 := inB_iff.1 h2.1.1.1
    have h6 : j.ref.data.toList.length ≤ 8 := by simpa using h2.2.1
    rw [Array.length_toList] at h6
    exact ⟨h4.2, h5.1, h5.2, h6⟩
  · omega
/-- A row at a place, as a walk reads it. -/
theorem TomeAt.at {p : Nat} {a : JR} (h : TomeAt w B c v l) (hp : l[p]? = some a) : ∃ g cap, v = .slice (some ⟨g, 0, none⟩) l.length cap ∧ p < l.length ∧ g < w.heap.size ∧ B ≤ g ∧ (∀ i u, a.cells[i]? = some u → w.cell? ⟨g, p * 6 + i, none⟩ = some u) ∧ ∀ j, w.frozen? ⟨g, j, none⟩ = false := by
  have hl := (List.getElem?_eq_some_iff.1 hp).1
  rcases h.own.2 with ⟨_, h1⟩ | ⟨g, cap, cur, rfl, hB, hh, _⟩
  · omega
  · exact ⟨g, cap, rfl, hl, lt_of_blk hh, hB, fun i u hu => own_cell h.own (jrs_at l p a hp i u hu), fun j => warm_of hh j⟩
end
/-- A book that was v, l, and has become M. -/
def TomeTo (w : World) (B c : Nat) (v : Value) (l : List JR) (M : List Jrn) (w' : World) : Prop :=
  ∃ v' l', TomeAt w' B c v' l' ∧ l'.map JR.j = M ∧ But (fun k => k = c ∨ v.ownBlock = some k) w w' ∧ ∀ k, InTome c v' l' k → InTome c v l k ∨ w.heap.size ≤ k
theorem TomeTo.same {w w' : World} {B c : Nat} {v : Value} {l : List JR} (h : TomeAt w B c v l) (hb : Below w.heap.size w w') : TomeTo w B c v l (l.map JR.j) w' :=
  ⟨v, l, h.below hb, rfl, But.of_below hb, fun _ hk => .inl hk⟩
theorem TomeTo.on {w w1 w' : World} {B c : Nat} {v : Value} {l : List JR} {M : List Jrn} (hb : Below w.heap.size w w1) (h : TomeTo w1 B c v l M w') : TomeTo w B c v l M w' := by
  obtain ⟨v', l', h1, h2, h3, h4⟩ := h
  refine ⟨v', l', h1, h2, (But.of_below hb).trans h3, fun k hk => ?_⟩
  rcases h4 k hk with h | h
  · exact .inl h
  · exact .inr (Nat.le_trans hb.size h)
/-- A zero book. -/
theorem tome_new (w : World) : TomeAt (w.alloc (.cells #[.slice none 0 0] 138)) w.heap.size w.heap.size (.slice none 0 0) [] :=
  ⟨heap_new _ _, Nat.le_refl _, World.ownsRow_nil _ _ _ _, by simp, Rise.nil, by simp, by simp⟩
/-- A book, and all that was there ahead of it as it was. -/
def TomeOn (B : Nat) (w : World) (c : Nat) (M : List Jrn) (w' : World) : Prop := ∃ v l, TomeAt w' B c v l ∧ l.map JR.j = M ∧ Below B w w'
theorem TomeOn.set {B c : Nat} {w w1 w2 : World} {v : Value} {l : List JR} {M : List Jrn} (hw : B ≤ w1.heap.size) (h : TomeAt w1 B c v l) (hb : Below B w w1) (ht : TomeTo w1 B c v l M w2) : TomeOn B w c M w2 := by
  obtain ⟨v', l', h1, h2, h3, _⟩ := ht
  exact ⟨v', l', h1, h2, hb.trans (h3.below (fun k _ hk => h.ge k (hk.elim .inl fun e => .inr (.inl e))) hw)⟩
theorem TomeOn.same {B c : Nat} {w w1 w2 : World} {v : Value} {l : List JR} (hw : B ≤ w1.heap.size) (h : TomeAt w1 B c v l) (hb : Below B w w1) (hb2 : Below w1.heap.size w1 w2) : TomeOn B w c (l.map JR.j) w2 :=
  ⟨v, l, h.below hb2, rfl, hb.trans (hb2.mono hw)⟩

/-- What a book's calls answer. -/
def holdsRef (s : ByteArray) (b : Jrn) : Bool := !(s.toList == []) && !b.void && (b.ref.toList == s.toList)
def leavesRef (c b : Jrn) : Bool := c.void || b.id == c.id || !(b.ent == c.ent) || !holdsRef c.ref b
def takenJ (M : List Jrn) (j : Jrn) : Bool := !(M.all (leavesRef j))
def hasId (M : List Jrn) (x : Int) : Bool := (findK Jrn.id M x).isSome
def postE (M : List Jrn) (j : Jrn) : Int := if checkE j = 0 then (if hasId M j.id = true then 7 else if takenJ M j = true then 8 else if 200 ≤ M.length then 13 else 0) else checkE j
def postL (M : List Jrn) (j : Jrn) : List Jrn := if postE M j = 0 then putK Jrn.id M j else M
def liveE (M : List Jrn) (x : Int) : Int := match findK Jrn.id M x with | none => 9 | some b => if b.void = true then 11 else 0
def amendE (M : List Jrn) (j : Jrn) : Int := if checkE j = 0 then (if liveE M j.id = 0 then (if takenJ M j = true then 8 else 0) else liveE M j.id) else checkE j
def amendL (M : List Jrn) (j : Jrn) : List Jrn := if amendE M j = 0 then putK Jrn.id M j else M
def voidJ (j : Jrn) : Jrn := { j with void := true }
def voidL (M : List Jrn) (x : Int) : List Jrn := if liveE M x = 0 then (match findK Jrn.id M x with | none => M | some b => putK Jrn.id M (voidJ b)) else M
def refJ (M : List Jrn) (s : ByteArray) : Int := match M.find? (holdsRef s) with | none => 0 | some b => b.id
theorem hasId_map (l : List JR) (x : Int) : hasId (l.map JR.j) x = (findK JR.id l x).isSome := by
  unfold hasId
  rw [findK_map, Option.isSome_map]; rfl
end Go.Proofs.Ythjpknipnmagkaa
