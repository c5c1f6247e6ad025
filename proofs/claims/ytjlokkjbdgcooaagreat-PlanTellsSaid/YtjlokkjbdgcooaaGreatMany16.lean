/-
  Several texts, one behind the other: what each holds stands ahead of it.
-/
import Derived.Test.YtjlokkjbdgcooaaGreatMany15
import Derived.Test.YtjlokkjbdgcooaaGreatMany8
import Derived.Test.YtjlokkjbdgcooaaGreatOwn

/-
  Contract of entry.Check.
-/
namespace Go.Proofs.YtjlokkjbdgcooaaGreat
open Go.RowKit

/-- A journal's block, read later. -/
theorem box6 {w W1 w1 : World} {a0 a1 a2 a3 a4 a5 : Value} {T : TypeId} (hW : w.alloc (.cells #[a0, a1, a2, a3, a4, a5] T) = W1) (hb : Below W1.heap.size W1 w1) :
    w1.cell? ⟨w.heap.size, 0, none⟩ = some a0 ∧ w1.cell? ⟨w.heap.size, 1, none⟩ = some a1 ∧ w1.cell? ⟨w.heap.size, 2, none⟩ = some a2 ∧ w1.cell? ⟨w.heap.size, 3, none⟩ = some a3 ∧ w1.cell? ⟨w.heap.size, 4, none⟩ = some a4 ∧ w1.cell? ⟨w.heap.size, 5, none⟩ = some a5 := by
  subst hW
  have hz : ∀ i, (⟨w.heap.size, i, none⟩ : Addr).block < (w.alloc (.cells #[a0, a1, a2, a3, a4, a5] T)).heap.size := fun i => by simp
  exact ⟨(hb.cell (hz 0)).trans (box_cell 0), (hb.cell (hz 1)).trans (box_cell 1), (hb.cell (hz 2)).trans (box_cell 2), (hb.cell (hz 3)).trans (box_cell 3), (hb.cell (hz 4)).trans (box_cell 4), (hb.cell (hz 5)).trans (box_cell 5)⟩
theorem fits_two (p : Int) (W : World) (o : Obj) (T : TypeId) : Calls Tryz.prog 174 #[.slice (some ⟨W.heap.size + 1, 0, none⟩) 1 1] ((W.alloc o).alloc (.cells #[.int .i64 p] T)) fun e w' => e = .returned (.bool (fits1 p)) ∧ (W.alloc o).alloc (.cells #[.int .i64 p] T) = w' := by
  have := fits_one p (W.alloc o) (T := T)
  rw [show (W.alloc o).heap.size = W.heap.size + 1 by simp] at this
  exact this
theorem checkE_front {j : Jrn} (h : frontOk j = false) : checkE j = 1 := by unfold checkE; rw [h]; rfl
theorem checkE_lines {j : Jrn} (h : linesOk j = false) : checkE j = 1 := by unfold checkE; rw [h, Bool.and_false]; rfl
theorem checkE_rest {j : Jrn} (h : frontOk j = true) (h2 : linesOk j = true) : checkE j = if fitsL j.lines = true then if sumA j.lines = 0 then 0 else 3 else 2 := by unfold checkE; rw [h, h2]; rfl
theorem linesOk_len {j : Jrn} (h : linesOk j = true) : 2 ≤ j.lines.length ∧ j.lines.length ≤ 8 := by
  unfold linesOk at h
  rw [Bool.and_eq_true] at h
  have := inB_iff.1 h.1
  omega

set_option maxRecDepth 100000 in
set_option maxHeartbeats 2000000 in
theorem check_any (j : Jrn) (A : Option Addr) (n c B : Nat) (w : World) (h : Rd w B 3 A n (lins j.lines)) (hB : B ≤ w.heap.size) (hn : n ≤ maxLen) (hs : j.ref.size ≤ maxLen) :
    Calls Tryz.prog 138 #[j.val A n c] w fun e w' => e = .returned (.int .i64 (checkE j)) ∧ Below w.heap.size w w' := by
  have HL := Lib.hid h.lins_len
  obtain ⟨W1, hW⟩ : ∃ W1, w.alloc (.cells #[.int .i64 j.id, .int .i64 j.ent, .int .i64 j.per, .string j.ref, .slice A n c, .bool j.void] 111) = W1 := ⟨_, rfl⟩
  have hb1 : Below w.heap.size w W1 := by rw [← hW]; exact (Below.refl _ _).alloc (Nat.le_refl _) _
  have hz1 : w.heap.size < W1.heap.size := by rw [← hW]; simp
  have HW := Lib.hid hW
  have kf := Lib.hid (frontMayBe_any j A n c W1 hs)
  have kl : Hid (∀ w1, Below W1.heap.size W1 w1 → Calls Tryz.prog 185 #[j.val A n c] w1 fun e w' => e = .returned (.bool (linesOk j)) ∧ Below w1.heap.size w1 w') := fun w1 hb => linesMayBe_any j A n c B w1 (h.far (hb1.trans (hb.mono hb1.size)) hB) (by have := hb.size; omega) hn
  have HR : Hid (∀ w1, Below W1.heap.size W1 w1 → Rd w1 B 3 A n (lins j.lines)) := fun w1 hb => h.far (hb1.trans (hb.mono hb1.size)) hB
  have HB1 := Lib.hid hb1
  have HZ := Lib.hid hz1
  have HH : Hid (frontOk j = false ∨ frontOk j = true ∧ (linesOk j = false ∨ linesOk j = true)) := by
    unfold Hid
    cases frontOk j <;> cases linesOk j <;> simp
  have e0 : Hid (frontOk j = false → checkE j = 1) := checkE_front
  have e1 : Hid (linesOk j = false → checkE j = 1) := checkE_lines
  have e2 : Hid (frontOk j = true → linesOk j = true → checkE j = if fitsL j.lines = true then if sumA j.lines = 0 then 0 else 3 else 2) := checkE_rest
  have e3 : Hid (linesOk j = true → 2 ≤ j.lines.length ∧ j.lines.length ≤ 8) := linesOk_len
  clear hb1 hz1 h hs hW
  unfold Jrn.val at kf kl ⊢
  obtain ⟨id, ent, per, ref, L, void⟩ := j
  dsimp only at *
  generalize frontOk ⟨id, ent, per, ref, L, void⟩ = F at *
  generalize linesOk ⟨id, ent, per, ref, L, void⟩ = G at *
  generalize checkE ⟨id, ent, per, ref, L, void⟩ = E at *
  unfold maxLen at hn
  rcases HH.out with rfl | ⟨rfl, rfl | rfl⟩
  · obtain rfl := e0.out rfl
    go_enter Tryz.func138, Tryz.ntmps138
    go_wp2_with fail
    rw [HW.out]
    refine kf.out.mono ?_
    rintro e w1 ⟨rfl, hb⟩
    go_wp2
    go_ret
    exact ⟨rfl, HB1.out.trans (hb.mono HB1.out.size)⟩
  · obtain rfl := e1.out rfl
    go_enter Tryz.func138, Tryz.ntmps138
    go_wp2_with fail
    rw [HW.out]
    refine kf.out.mono ?_
    rintro e w1 ⟨rfl, hb⟩
    obtain ⟨b0, b1, b2, b3, b4, b5⟩ := box6 HW.out hb
    have kl1 := Lib.hid (kl.out w1 hb)
    have HB2 := Lib.hid hb
    clear hb
    go_wp2_with fail
    refine kl1.out.mono ?_
    rintro e w2 ⟨rfl, hb2⟩
    have HB3 := Lib.hid hb2
    clear hb2
    go_wp2
    go_ret
    exact ⟨rfl, HB1.out.trans ((HB2.out.trans (HB3.out.mono HB2.out.size)).mono HB1.out.size)⟩
  · have hE := e2.out rfl rfl
    obtain ⟨hn2, hn8⟩ := e3.out rfl
    have HE := Lib.hid hE
    rw [HL.out] at hn2 hn8
    clear hE
    go_enter Tryz.func138, Tryz.ntmps138
    go_wp2_with fail
    rw [HW.out]
    refine kf.out.mono ?_
    rintro e w1 ⟨rfl, hb⟩
    obtain ⟨b0, b1, b2, b3, b4, b5⟩ := box6 HW.out hb
    have kl1 := Lib.hid (kl.out w1 hb)
    have HB2 := Lib.hid hb
    clear hb
    go_wp2_with fail
    refine kl1.out.mono ?_
    rintro e w2 ⟨rfl, hb2⟩
    have HB3 : Hid (Below W1.heap.size W1 w2) := HB2.out.trans (hb2.mono HB2.out.size)
    clear hb2 b0 b1 b2 b3 b4 b5 HB2 kl1 kf kl
    obtain ⟨_, _, _, _, b4, _⟩ := box6 HW.out HB3.out
    go_wp2_with fail
    clear b4
    go_loopw [17, 3, 5] (fun iv sv _ wr => ∃ k : Nat, k ≤ n ∧ iv = .int .i64 k ∧ sv = .int .i64 (sumA (L.take k)) ∧ Hid (fitsL (L.take k) = true) ∧ Below w2.heap.size w2 wr) (fun iv _ _ _ => n - (intOf iv).toNat)
    case atStart => exact ⟨0, Nat.zero_le _, rfl, rfl, rfl, Below.refl _ _⟩
    case round =>
      obtain ⟨k, hk, rfl, rfl, hf, hbel⟩ := hrel
      have hzr := hbel.size
      have HBr : Hid (Below w.heap.size w wr) := HB1.out.trans ((HB3.out.trans (hbel.mono HB3.out.size)).mono HB1.out.size)
      by_cases hlt : k < n
      · obtain ⟨ad, x, rfl, hbk, hx, p1, p2, p3⟩ := (HR.out wr (HB3.out.trans (hbel.mono HB3.out.size))).lin hlt
        have hkn : (k : Int) < (n : Int) := by omega
        have p2' := cell_behind p2 (by omega)
        have p3' := cell_behind p3 (by omega)
        have HX := Lib.hid hx
        have hbd := sumA_bound k (by have := HL.out; omega) hf.out
        have HST := Lib.hid (sumA_step hx)
        have HBL : Hid (∀ o o2, Below w2.heap.size w2 ((wr.alloc o).alloc o2)) := fun o o2 => (hbel.alloc hzr o).alloc (by simp; omega) o2
        have HBW : Hid (∀ o o2, Below w.heap.size w ((wr.alloc o).alloc o2)) := fun o o2 => (HBr.out.alloc HBr.out.size o).alloc (by have := HBr.out.size; simp; omega) o2
        clear hx p2 p3 hbel
        obtain ⟨x1, x2, x3⟩ := x
        dsimp only at HST p2'
        have kx := Lib.hid (fits_two x2 wr)
        generalize sumA (L.take k) = S at *
        cases c1 : fits1 x2
        · go_wp2_with (go_at_call 174; refine (kx.out _ _).mono ?_; rintro e w' ⟨rfl, rfl⟩)
          go_ret
          exact ⟨ret_int (by rw [HE.out, if_neg (by rw [fitsL_no HX.out c1]; decide)]), HBW.out _ _⟩
        · have hfit := fits1_iff.1 c1
          go_wp2_with (go_at_call 174; refine (kx.out _ _).mono ?_; rintro e w' ⟨rfl, rfl⟩)
          refine ⟨⟨k + 1, by omega, by go_num, ?_, fitsL_step hf.out HX.out c1, HBL.out _ _⟩, by simp [intOf]; omega⟩
          rw [HST.out]
      · obtain rfl : k = n := by omega
        have hfe := fitsL_end hf.out (Nat.le_of_eq HL.out)
        have hE := HE.out
        rw [hfe, if_pos rfl] at hE
        rw [List.take_of_length_le (Nat.le_of_eq HL.out)]
        have HE2 := Lib.hid hE
        clear hE hf hfe
        generalize sumA L = S at *
        cases c1 : (S != 0)
        · go_wp2
          go_ret
          exact ⟨ret_int (by rw [HE2.out, if_pos (by simpa using c1)]), HBr.out⟩
        · go_wp2
          go_ret
          exact ⟨ret_int (by rw [HE2.out, if_neg (by simpa using c1)]), HBr.out⟩
end Go.Proofs.YtjlokkjbdgcooaaGreat

/-
  What a journal that may be keeps. No code.
-/
namespace Go.Proofs.YtjlokkjbdgcooaaGreat
open Go.RowKit

theorem checkE_ok {j : Jrn} (h : checkE j = 0) : frontOk j = true ∧ linesOk j = true ∧ fitsL j.lines = true ∧ sumA j.lines = 0 := by
  unfold checkE at h
  split at h
  · rename_i h1
    rw [Bool.and_eq_true] at h1
    split at h
    · rename_i h2
      split at h
      · exact ⟨h1.1, h1.2, h2, by assumption⟩
      · cases h
    · cases h
  · cases h
end Go.Proofs.YtjlokkjbdgcooaaGreat

/-
  A journal undone. No code.
-/
namespace Go.Proofs.YtjlokkjbdgcooaaGreat
open Go.RowKit

def negL (l : Lin) : Lin := ⟨l.acct, -l.amt, l.part⟩
def turnL (l : List Lin) : List Lin := l.map negL
def revJ (j : Jrn) (id per : Int) : Jrn := ⟨id, j.ent, per, ⟨#[]⟩, turnL j.lines, false⟩
def revE (j : Jrn) (id per : Int) : Int := if checkE j = 0 then checkE (revJ j id per) else checkE j
def revV (j : Jrn) (id per : Int) : Jrn := if revE j id per = 0 then revJ j id per else zeroJ
theorem turnL_len (l : List Lin) : (turnL l).length = l.length := by simp [turnL]
theorem turnL_take (l : List Lin) (k : Nat) : turnL (l.take k) = (turnL l).take k := by simp [turnL, List.map_take]
theorem turnL_at {l : List Lin} {k : Nat} {x : Lin} (h : l[k]? = some x) : (turnL l)[k]? = some (negL x) := by simp [turnL, h]
theorem turnL_step {l : List Lin} {k : Nat} {x : Lin} (h : l[k]? = some x) : turnL (l.take (k + 1)) = turnL (l.take k) ++ [negL x] := by
  obtain ⟨hk, rfl⟩ := List.getElem?_eq_some_iff.1 h
  rw [List.take_succ_eq_append_getElem hk]
  unfold turnL
  rw [List.map_append]
  rfl
theorem negL_two (l : Lin) : negL (negL l) = l := by unfold negL; simp
theorem turnL_two (l : List Lin) : turnL (turnL l) = l := by
  unfold turnL
  rw [List.map_map]
  exact (List.map_congr_left fun x _ => negL_two x).trans (List.map_id _)
theorem sumA_cons (x : Lin) (l : List Lin) : sumA (x :: l) = x.amt + sumA l := by
  have h : ∀ (l : List Lin) (n : Int), l.foldl (fun n x => n + x.amt) n = n + sumA l := by
    intro l
    induction l with
    | nil => intro n; simp [sumA]
    | cons y l ih =>
      intro n
      unfold sumA
      rw [List.foldl_cons, List.foldl_cons, ih, ih]
      omega
  show (x :: l).foldl (fun n x => n + x.amt) 0 = _
  rw [List.foldl_cons, h]
  omega
theorem sumA_turn : ∀ l : List Lin, sumA (turnL l) = - sumA l
  | [] => rfl
  | x :: l => by
    have ih := sumA_turn l
    show sumA (negL x :: turnL l) = _
    rw [sumA_cons, sumA_cons, ih]
    unfold negL
    simp only
    omega
theorem fitsL_turn {l : List Lin} (h : fitsL l = true) : fitsL (turnL l) = true := by
  unfold fitsL turnL at *
  rw [List.all_eq_true] at h ⊢
  intro y hy
  obtain ⟨x, hx, rfl⟩ := List.mem_map.1 hy
  have := fits1_iff.1 (h x hx)
  rw [fits1_iff]
  unfold negL
  simp only
  omega
theorem lineOk_neg (e : Int) (l : Lin) : lineOk e (negL l) = lineOk e l := by
  have : (-l.amt == 0) = (l.amt == 0) := by rw [Bool.eq_iff_iff]; simp
  unfold lineOk negL
  simp only
  rw [this]
theorem linesAll_turn (e : Int) : ∀ l : List Lin, linesAll e (turnL l) = linesAll e l
  | [] => rfl
  | x :: l => by
    have ih := linesAll_turn e l
    unfold linesAll turnL at *
    rw [List.map_cons, List.all_cons, List.all_cons, lineOk_neg, ih]
theorem linesOk_turn {j : Jrn} (id per : Int) : linesOk (revJ j id per) = linesOk j := by
  unfold linesOk revJ
  simp only
  rw [turnL_len, linesAll_turn]
theorem refOk_none : refOk (⟨#[]⟩ : ByteArray).data.toList = true := by decide
/-- What was undone is told by its number and its period alone. -/
theorem checkE_rev {j : Jrn} (h : checkE j = 0) (id per : Int) : checkE (revJ j id per) = if (inB id 1 999999 && okP per) = true then 0 else 1 := by
  obtain ⟨h1, h2, h3, h4⟩ := checkE_ok h
  have he : inB j.ent 1 9 = true := by
    unfold frontOk at h1
    simp only [Bool.and_eq_true] at h1
    exact h1.1.1.2
  have hf : frontOk (revJ j id per) = (inB id 1 999999 && okP per) := by
    unfold frontOk revJ
    simp only
    rw [he, refOk_none]
    simp
  unfold checkE
  rw [hf, linesOk_turn, h2, Bool.and_true]
  have h5 : fitsL (revJ j id per).lines = true := fitsL_turn h3
  have h6 : sumA (revJ j id per).lines = 0 := by
    show sumA (turnL j.lines) = 0
    rw [sumA_turn, h4]; rfl
  rw [h5, h6]
  rfl
theorem revE_two {j : Jrn} {id per : Int} (h : revE j id per = 0) : checkE j = 0 ∧ checkE (revJ j id per) = 0 := by
  unfold revE at h
  split at h
  · exact ⟨by assumption, h⟩
  · rename_i hne; exact absurd h hne
/-- Undone twice it is as it was, without its reference, not void. -/
theorem rev_back {j : Jrn} {id per : Int} (h : revE j id per = 0) : revE (revJ j id per) j.id j.per = 0 ∧ revJ (revJ j id per) j.id j.per = ⟨j.id, j.ent, j.per, ⟨#[]⟩, j.lines, false⟩ := by
  obtain ⟨h1, h2⟩ := revE_two h
  have e : revJ (revJ j id per) j.id j.per = ⟨j.id, j.ent, j.per, ⟨#[]⟩, j.lines, false⟩ := by
    unfold revJ
    simp only [turnL_two]
  refine ⟨?_, e⟩
  unfold revE
  rw [if_pos h2, checkE_rev h2]
  have hf := (checkE_ok h1).1
  unfold frontOk at hf
  simp only [Bool.and_eq_true] at hf
  rw [hf.1.1.1, hf.1.2]
  rfl
end Go.Proofs.YtjlokkjbdgcooaaGreat

/-
  What stays where blocks of S are written. No code.
-/
namespace Go.Proofs.YtjlokkjbdgcooaaGreat
open Go.RowKit

/-- Blocks out of S stay. -/
structure Kp (S : Nat → Prop) (w w' : World) : Prop where
  os : w'.os = w.os
  tape : w'.tape = w.tape
  output : w'.output = w.output
  size : w.heap.size ≤ w'.heap.size
  block : ∀ k, k < w.heap.size → ¬ S k → w'.heap[k]? = w.heap[k]?
section
variable {S T : Nat → Prop} {a b c : World}
theorem Kp.refl (S : Nat → Prop) (w : World) : Kp S w w := ⟨rfl, rfl, rfl, Nat.le_refl _, fun _ _ _ => rfl⟩
theorem Kp.trans (h : Kp S a b) (k : Kp S b c) : Kp S a c := ⟨k.os.trans h.os, k.tape.trans h.tape, k.output.trans h.output, Nat.le_trans h.size k.size, fun i hi hs => (k.block i (Nat.lt_of_lt_of_le hi h.size) hs).trans (h.block i hi hs)⟩
theorem Kp.mono (h : Kp S a b) (hs : ∀ k, S k → T k) : Kp T a b := ⟨h.os, h.tape, h.output, h.size, fun i hi ht => h.block i hi fun h => ht (hs i h)⟩
theorem Kp.of_below (h : Below a.heap.size a b) : Kp S a b := ⟨h.os, h.tape, h.output, h.size, fun i hi _ => h.block i hi⟩
theorem Kp.of_drew (h : Drew a b) : Kp S a b := by obtain ⟨k, rfl⟩ := h; exact ⟨rfl, rfl, rfl, Nat.le_refl _, fun _ _ _ => rfl⟩
theorem Kp.setCell (h : Kp S a b) {p : Addr} (hp : S p.block) (v : Value) : Kp S a (b.setCell p v) := by
  have hk := (Below.refl p.block b).setCell (p := p) (Nat.le_refl _) v
  exact ⟨hk.os.trans h.os, hk.tape.trans h.tape, hk.output.trans h.output, Nat.le_trans h.size hk.size, fun i hi hs => (Below.heap_setCell _ _ _ _ (fun e => hs (by rw [e]; exact hp))).trans (h.block i hi hs)⟩
theorem Kp.alloc (h : Kp S a b) (o : Obj) : Kp S a (b.alloc o) := h.trans (Kp.of_below ((Below.refl _ _).alloc (Nat.le_refl _) o))
theorem Kp.below {B : Nat} (h : Kp S a b) (hS : ∀ k, S k → B ≤ k) (hB : B ≤ a.heap.size) : Below B a b :=
  ⟨h.os, h.tape, h.output, h.size, fun i hi => h.block i (by omega) fun hs => by have := hS i hs; omega⟩
/-- What S holds need not have been there. -/
theorem Kp.fresh (h : Kp S a b) (hb : Kp S b c) (hS : ∀ k, S k → T k ∨ a.heap.size ≤ k) : Kp T a c := by
  have := h.trans hb
  exact ⟨this.os, this.tape, this.output, this.size, fun i hi ht => this.block i hi fun hs => by
    rcases hS i hs with h1 | h1
    · exact ht h1
    · omega⟩
end
theorem Kp.grown {S : Nat → Prop} {a b : World} {row : Option Nat} (h : a.grownBy b row) (hr : ∀ k, row = some k → S k) : Kp S a b :=
  ⟨h.os, h.tape, h.output, h.size, fun k hk hs => h.block k hk fun e => hs (hr k e.symm)⟩
end Go.Proofs.YtjlokkjbdgcooaaGreat
