/-
  Several texts, one behind the other: what each holds stands ahead of it.
-/
import Derived.Test.YtmgncoialppmpaaGreatMany10

/-
  Contracts of book.Of, and of the statements' Of.
-/
namespace Go.Proofs.YtmgncoialppmpaaGreat
open Go.RowKit

/-- Journals posted one behind the other. -/
def ofM : List Jrn → List Jrn → List Jrn
  | M, [] => M
  | M, j :: r => if postE M j = 0 then ofM (postL M j) r else M
def ofE : List Jrn → List Jrn → Int
  | _, [] => 0
  | M, j :: r => if postE M j = 0 then ofE (postL M j) r else postE M j
/-- A list of journals that can be read. -/
structure JlRd (w : World) (B : Nat) (A : Option Addr) (n : Nat) (l : List JR) : Prop where
  rd : Rd w B 6 A n (jrs l)
  lines : ∀ a ∈ l, Rd w B 3 a.A a.j.lines.length (lins a.j.lines)
  nil : ∀ a ∈ l, a.A = none → a.c = 0
  size : ∀ a ∈ l, a.j.ref.size ≤ maxLen ∧ a.j.lines.length ≤ maxLen
theorem JlRd.far {w w' : World} {B B0 n : Nat} {A : Option Addr} {l : List JR} (h : JlRd w B A n l) (hb : Below B0 w w') (hB : B ≤ B0) : JlRd w' B A n l := ⟨h.rd.far hb hB, fun a ha => (h.lines a ha).far hb hB, h.nil, h.size⟩
theorem JlRd.wide {w : World} {B B' n : Nat} {A : Option Addr} {l : List JR} (h : JlRd w B A n l) (hB : B ≤ B') : JlRd w B' A n l := ⟨h.rd.wide hB, fun a ha => (h.lines a ha).wide hB, h.nil, h.size⟩
theorem JlRd.len {w : World} {B n : Nat} {A : Option Addr} {l : List JR} (h : JlRd w B A n l) : l.length = n := h.rd.jrs_len
/-- It stays where the book is alone written. -/
theorem JlRd.tome {X : Nat → Prop} {W w : World} {B B0 c n : Nat} {M : List Jrn} {A : Option Addr} {l : List JR} (h : JlRd W B A n l) (ht : TomeIn X W B0 c M w) (hB : B ≤ W.heap.size) (hX : ∀ k, k < B → X k) : JlRd w B A n l := by
  have key : ∀ {size m : Nat} {A : Option Addr} {xs : List Value}, Rd W B size A m xs → Rd w B size A m xs := by
    intro size m A xs hr
    refine ⟨hr.1, fun hm => ?_⟩
    obtain ⟨ad, e, hb, hc⟩ := hr.2 hm
    refine ⟨ad, e, hb, fun j u hu => ?_⟩
    rw [← hc j u hu]
    unfold World.cell?
    rw [add_block, ht.but.block ad.block (by omega) fun hx => hx (hX _ hb)]
  exact ⟨key h.rd, fun a ha => key (h.lines a ha), h.nil, h.size⟩

theorem ofM_step {M : List Jrn} : ∀ (r : List Jrn) (k : Nat) (x : Jrn), r[k]? = some x → ofE M (r.take k) = 0 → (ofE M (r.take (k + 1)) = postE (ofM M (r.take k)) x ∧ (postE (ofM M (r.take k)) x = 0 → ofM M (r.take (k + 1)) = postL (ofM M (r.take k)) x))
  | [], k, x, h, _ => by simp at h
  | j :: r, 0, x, h, _ => by
    simp at h
    subst h
    by_cases h1 : postE M j = 0
    · simp [ofE, ofM, h1]
    · simp [ofE, ofM, h1]
  | j :: r, k + 1, x, h, h0 => by
    simp only [List.take_succ_cons] at h0 ⊢
    by_cases h1 : postE M j = 0
    · simp only [ofE, ofM, if_pos h1] at h0 ⊢
      exact ofM_step r k x (by simpa using h) h0
    · simp only [ofE, if_neg h1] at h0
      exact absurd h0 h1
theorem ofE_no {M : List Jrn} : ∀ (r : List Jrn) (k : Nat), ofE M (r.take k) ≠ 0 → ofE M r = ofE M (r.take k)
  | [], k, h => by simp
  | j :: r, 0, h => by simp [ofE] at h
  | j :: r, k + 1, h => by
    simp only [List.take_succ_cons] at h ⊢
    by_cases h1 : postE M j = 0
    · simp only [ofE, if_pos h1] at h ⊢
      exact ofE_no r k h
    · simp only [ofE, if_neg h1]

set_option maxRecDepth 100000 in
set_option maxHeartbeats 2000000 in
theorem of_any (l : List JR) (A : Option Addr) (n cap B : Nat) (w : World) (h : JlRd w B A n l) (hB : B ≤ w.heap.size) (hn : n ≤ maxLen) :
    Calls Tryz.prog 69 #[.slice A n cap] w fun e w' => (ofE [] (l.map JR.j) = 0 → e = .returned (.tuple #[.pointer (some ⟨w.heap.size, 0, none⟩), .int .i64 0]) ∧ TomeIn (fun k => k < w.heap.size + 1 ∧ k ≠ w.heap.size) (w.alloc (.cells #[.slice none 0 0] 147)) w.heap.size w.heap.size (ofM [] (l.map JR.j)) w') ∧
      (ofE [] (l.map JR.j) ≠ 0 → e = .returned (.tuple #[.pointer none, .int .i64 (ofE [] (l.map JR.j))])) ∧ Below w.heap.size w w' := by
  unfold maxLen at hn
  obtain ⟨W, hW⟩ : ∃ W, w.alloc (.cells #[.slice none 0 0] 147) = W := ⟨_, rfl⟩
  have hbW : Below w.heap.size w W := by rw [← hW]; exact (Below.refl _ _).alloc (Nat.le_refl _) _
  have hzW : W.heap.size = w.heap.size + 1 := by rw [← hW]; simp
  obtain ⟨X, hX⟩ : ∃ X : Nat → Prop, X = fun k => k < w.heap.size + 1 ∧ k ≠ w.heap.size := ⟨_, rfl⟩
  have h0 : TomeIn X W w.heap.size w.heap.size [] W := by
    have := TomeIn.start (tome_new w) rfl
    rw [hW, hzW] at this
    rw [hX]; exact this
  have HXL : Hid (∀ k, k < w.heap.size → X k) := fun k hk => by rw [hX]; exact ⟨by omega, by omega⟩
  rw [hW, ← hX]
  have HL := Lib.hid h.len
  have HJ : Hid (∀ M w1, TomeIn X W w.heap.size w.heap.size M w1 → JlRd w1 B A n l) := fun M w1 ht => (h.far hbW hB).tome ht (by omega) fun k hk => HXL.out k (by omega)
  have HFIN : Hid (∀ M w1, TomeIn X W w.heap.size w.heap.size M w1 → Below w.heap.size w w1) := fun M w1 ht => ht.below w hbW HXL.out
  have HW := Lib.hid hW
  have H0 := Lib.hid h0
  have HSZ := Lib.hid h.size
  have HNL := Lib.hid h.nil
  clear hW h0 hX hbW h
  go_enter Tryz.func69, Tryz.ntmps69
  go_wp2_with fail
  rw [HW.out]
  go_loopw [12, 6, 7] (fun iv _ _ wr => ∃ k : Nat, k ≤ n ∧ iv = .int .i64 k ∧ Hid (ofE [] ((l.map JR.j).take k) = 0) ∧ TomeIn X W w.heap.size w.heap.size (ofM [] ((l.map JR.j).take k)) wr) (fun iv _ _ _ => n - (intOf iv).toNat)
  case atStart => exact ⟨0, Nat.zero_le _, rfl, rfl, H0.out⟩
  case round =>
    obtain ⟨k, hk, rfl, hE, hin⟩ := hrel
    by_cases hlt : k < n
    · have hkn : (k : Int) < (n : Int) := by omega
      have hJ := HJ.out _ _ hin
      obtain ⟨ad, b, rfl, hb1, hx, p1, p2, p3, p4, p5, p6⟩ := hJ.rd.jr hlt
      have hmem := List.mem_of_getElem? hx
      have hgx : (l.map JR.j)[k]? = some b.j := by rw [List.getElem?_map, hx]; rfl
      have HST := Lib.hid (ofM_step (M := []) (l.map JR.j) k b.j hgx hE.out)
      have hsz := hin.but.size
      have KP : Hid (∀ o, Calls Tryz.prog 26 #[.pointer (some ⟨w.heap.size, 0, none⟩), .agg #[.int .i64 b.j.id, .int .i64 b.j.ent, .int .i64 b.j.per, .string b.j.ref, .slice b.A b.j.lines.length b.c, .bool b.j.void]] (wr.alloc o) fun e w' => e = .returned (.int .i64 (postE (ofM [] ((l.map JR.j).take k)) b.j)) ∧ TomeIn X W w.heap.size w.heap.size (postL (ofM [] ((l.map JR.j).take k)) b.j) w') := fun o =>
        post_in b.j b.A b.c B (hin.quiet ((Below.refl _ _).alloc (Nat.le_refl _) o)) ((hJ.lines b hmem).far ((Below.refl _ _).alloc (Nat.le_refl _) o) (by omega)) (by simp; omega) (HNL.out b hmem) (HSZ.out b hmem).2 (HSZ.out b hmem).1
      have hblt : ad.block < wr.heap.size := by omega
      have HNO : Hid (postE (ofM [] ((l.map JR.j).take k)) b.j ≠ 0 → ofE [] (l.map JR.j) = postE (ofM [] ((l.map JR.j).take k)) b.j) := fun h => by
        have h2 := HST.out.1
        rw [← h2] at h ⊢
        exact ofE_no _ _ h
      clear hx hgx hin hJ hmem hE
      generalize hP : postE (ofM [] ((l.map JR.j).take k)) b.j = P at *
      by_cases hP0 : P = 0
      · subst hP0
        go_wp2_with fail
        refine (KP.out _).mono ?_
        rintro e w1 ⟨rfl, h1⟩
        rw [← HST.out.2 (by first | rfl | trivial)] at h1
        have H1 := Lib.hid h1
        clear h1 p1 p2 p3 p4 p5 p6
        go_wp2_with fail
        exact ⟨⟨k + 1, by omega, by go_num, HST.out.1, H1.out⟩, by simp [intOf]; omega⟩
      · have ht : (P != 0) = true := by simpa using hP0
        have HE := Lib.hid (HNO.out hP0)
        have HP0 := Lib.hid hP0
        clear hP0
        go_wp2_with fail
        refine (KP.out _).mono ?_
        rintro e w1 ⟨rfl, h1⟩
        have HF := Lib.hid (HFIN.out _ _ h1)
        clear h1 p1 p2 p3 p4 p5 p6
        go_wp2_with fail
        go_ret2
        exact ⟨fun h => absurd (HE.out ▸ h) HP0.out, fun _ => by rw [HE.out]; rfl, HF.out⟩
    · obtain rfl : k = n := by omega
      have he : (l.map JR.j).take k = l.map JR.j := List.take_of_length_le (by rw [List.length_map]; have := HL.out; omega)
      rw [he] at hE hin
      have HE := Lib.hid hE.out
      have HIN := Lib.hid hin
      clear hE hin he
      go_wp2_with fail
      go_ret2
      exact ⟨fun _ => ⟨rfl, HIN.out⟩, fun h => absurd HE.out h, HFIN.out _ _ HIN.out⟩
end Go.Proofs.YtmgncoialppmpaaGreat

/-
  Journals that stand beside each other: posted one behind the other they are all there. No code.
-/
namespace Go.Proofs.YtmgncoialppmpaaGreat
open Go.RowKit

structure GoodM (M : List Jrn) : Prop where
  rise : Rise Jrn.id M
  ok : ∀ j ∈ M, checkE j = 0
  len : M.length ≤ 200
  free : ∀ j ∈ M, takenJ M j = false
theorem GoodM.nil : GoodM [] := ⟨Rise.nil, by simp, by simp, by simp⟩
theorem leaves_of_taken {M : List Jrn} {j : Jrn} (h : takenJ M j = false) : ∀ b ∈ M, leavesRef j b = true := by
  unfold takenJ at h
  rw [Bool.not_eq_false', List.all_eq_true] at h
  exact h
theorem taken_of_leaves {M : List Jrn} {j : Jrn} (h : ∀ b ∈ M, leavesRef j b = true) : takenJ M j = false := by
  unfold takenJ
  rw [Bool.not_eq_false', List.all_eq_true]
  exact h
theorem leaves_self (j : Jrn) : leavesRef j j = true := by unfold leavesRef; simp
theorem leaves_symm {a b : Jrn} (h : leavesRef a b = true) : leavesRef b a = true := by
  unfold leavesRef holdsRef at *
  simp only [Bool.or_eq_true, Bool.not_eq_true', Bool.and_eq_false_iff, beq_eq_false_iff_ne, beq_iff_eq, Bool.not_eq_false'] at *
  by_cases h1 : b.void = true
  · exact .inl (.inl (.inl h1))
  by_cases h2 : a.void = true
  · exact .inr (.inl (.inr h2))
  by_cases h3 : a.id = b.id
  · exact .inl (.inl (.inr h3))
  by_cases h4 : a.ent = b.ent
  · by_cases h5 : a.ref.toList = b.ref.toList
    · rcases h with ((h | h) | h) | ((h | h) | h)
      · exact absurd h h2
      · exact absurd h.symm h3
      · exact absurd h4.symm h
      · exact .inr (.inl (.inl (h5 ▸ h)))
      · exact absurd h h1
      · exact absurd h5.symm h
    · exact .inr (.inr h5)
  · exact .inl (.inr h4)
theorem postE_zero {M : List Jrn} {j : Jrn} (h : postE M j = 0) : checkE j = 0 ∧ hasId M j.id = false ∧ takenJ M j = false ∧ M.length < 200 := by
  unfold postE at h
  split at h
  · rename_i h1
    split at h
    · cases h
    · rename_i h2
      split at h
      · cases h
      · rename_i h3
        split at h
        · cases h
        · exact ⟨h1, Bool.eq_false_iff.2 h2, Bool.eq_false_iff.2 h3, by omega⟩
  · rename_i h1; exact absurd h h1
theorem GoodM.put {M : List Jrn} {j : Jrn} (h : GoodM M) (hE : postE M j = 0) : GoodM (putK Jrn.id M j) := by
  obtain ⟨h1, h2, h3, h4⟩ := postE_zero hE
  have hl := leaves_of_taken h3
  refine ⟨h.rise.put j, fun b hb => ?_, ?_, fun b hb => taken_of_leaves fun x hx => ?_⟩
  · rcases mem_put hb with rfl | hb
    · exact h1
    · exact h.ok b hb
  · unfold hasId at h2
    rw [putK_len h.rise, h2]
    simp; omega
  · rcases mem_put hb with e1 | hb1 <;> rcases mem_put hx with e2 | hx1
    · rw [e1, e2]; exact leaves_self _
    · rw [e1]; exact hl x hx1
    · rw [e2]; exact leaves_symm (hl b hb1)
    · exact leaves_of_taken (h.free b hb1) x hx1
theorem hasId_out {M : List Jrn} {x : Int} (h : ∀ b ∈ M, b.id ≠ x) : hasId M x = false := by unfold hasId; rw [findK_out h]; rfl
theorem put_end {M : List Jrn} {j : Jrn} (h : ∀ b ∈ M, b.id < j.id) : putK Jrn.id M j = M ++ [j] := by
  have hn : (findK Jrn.id M j.id).isSome = false := by rw [findK_out fun b hb => by have := h b hb; omega]; rfl
  have hp : posK Jrn.id M j.id = M.length := posK_eq (Nat.le_refl _) (fun k a _ ha => h a (List.mem_of_getElem? ha)) fun a ha => by rw [List.getElem?_eq_none (Nat.le_refl _)] at ha; cases ha
  rw [putK_fresh hn, hp, List.take_length, List.drop_length]
/-- One behind the other, all are there. -/
theorem GoodM.of : ∀ (R P : List Jrn), GoodM (P ++ R) → ofE P R = 0 ∧ ofM P R = P ++ R
  | [], P, _ => by simp [ofE, ofM]
  | j :: R, P, h => by
    have hlt : ∀ b ∈ P, b.id < j.id := fun b hb => by
      have := h.rise
      unfold Rise at this
      rw [List.pairwise_append] at this
      exact this.2.2 b hb j (by simp)
    have hok := h.ok j (by simp)
    have ht : takenJ P j = false := taken_of_leaves fun b hb => leaves_of_taken (h.free j (by simp)) b (by simp [hb])
    have hl : ¬ 200 ≤ P.length := by have := h.len; simp at this; omega
    have h0 : postE P j = 0 := by
      unfold postE
      rw [if_pos hok, hasId_out fun b hb => by have := hlt b hb; omega, ht, if_neg hl]
      rfl
    have hp : postL P j = P ++ [j] := by unfold postL; rw [if_pos h0, put_end hlt]
    have ih := GoodM.of R (P ++ [j]) (by rw [List.append_assoc]; exact h)
    unfold ofE ofM
    rw [if_pos h0, if_pos h0, hp]
    rw [List.append_assoc] at ih
    exact ih
theorem rise_jr {l : List JR} (h : Rise Jrn.id (l.map JR.j)) : Rise JR.id l := (Rise.map (key := Jrn.id) (f := JR.j)).1 h
theorem put_jr (l : List JR) (a : JR) : (putK JR.id l a).map JR.j = putK Jrn.id (l.map JR.j) a.j := (putK_map (key := Jrn.id) JR.j l a).symm
theorem own_nil {w : World} {B n c size : Nat} {e : TypeId} {A : Option Addr} {xs : List Value} (h : w.ownsRow B e size (.slice A n c) n xs) : A = none → c = 0 := by
  intro e
  rcases h.2 with ⟨h1, _⟩ | ⟨g2, c2, cur, h1, _⟩
  · injection h1
  · injection h1 with h1; rw [e] at h1; cases h1
theorem checkE_max {j : Jrn} (h : checkE j = 0) : j.ref.size ≤ maxLen ∧ j.lines.length ≤ maxLen := by
  have := checkE_len h
  unfold maxLen
  omega
end Go.Proofs.YtmgncoialppmpaaGreat

/-
  Sums of a book's journals, by account and by entity; whether one of them is too great. No code.
-/
namespace Go.Proofs.YtmgncoialppmpaaGreat
open Go.RowKit

/-- What an account gets of lines. -/
def lineS (a : Int) : List Lin → Int
  | [] => 0
  | x :: r => (if x.acct = a then x.amt else 0) + lineS a r
def sumJ (a e : Int) (j : Jrn) : Int := if j.void = false ∧ j.ent = e then lineS a j.lines else 0
def sumM (a e : Int) : List Jrn → Int
  | [] => 0
  | j :: M => sumJ a e j + sumM a e M
theorem lineS_append (a : Int) : ∀ l m : List Lin, lineS a (l ++ m) = lineS a l + lineS a m
  | [], m => by simp [lineS]
  | x :: l, m => by show _ + lineS a (l ++ m) = _; rw [lineS_append a l m]; show _ = (_ + lineS a l) + _; omega
theorem sumM_append (a e : Int) : ∀ l m : List Jrn, sumM a e (l ++ m) = sumM a e l + sumM a e m
  | [], m => by simp [sumM]
  | x :: l, m => by show _ + sumM a e (l ++ m) = _; rw [sumM_append a e l m]; show _ = (_ + sumM a e l) + _; omega
theorem lineS_step {a : Int} {l : List Lin} {k : Nat} {x : Lin} (h : l[k]? = some x) : lineS a (l.take (k + 1)) = lineS a (l.take k) + (if x.acct = a then x.amt else 0) := by
  obtain ⟨hk, rfl⟩ := List.getElem?_eq_some_iff.1 h
  rw [List.take_succ_eq_append_getElem hk, lineS_append]
  simp [lineS]
theorem sumM_step {a e : Int} {l : List Jrn} {k : Nat} {x : Jrn} (h : l[k]? = some x) : sumM a e (l.take (k + 1)) = sumM a e (l.take k) + sumJ a e x := by
  obtain ⟨hk, rfl⟩ := List.getElem?_eq_some_iff.1 h
  rw [List.take_succ_eq_append_getElem hk, sumM_append]
  simp [sumM]
/-- How great sums are. -/
theorem lineS_bound {a : Int} : ∀ {l : List Lin}, fitsL l = true → -(1000000000000000 * (l.length : Int)) ≤ lineS a l ∧ lineS a l ≤ 1000000000000000 * (l.length : Int)
  | [], _ => by simp [lineS]
  | x :: l, h => by
    unfold fitsL at h
    rw [List.all_cons, Bool.and_eq_true] at h
    have h1 := fits1_iff.1 h.1
    have h2 := lineS_bound (a := a) (l := l) h.2
    unfold lineS
    rw [List.length_cons]
    split <;> omega
theorem fitsL_take {l : List Lin} (h : fitsL l = true) (k : Nat) : fitsL (l.take k) = true := by
  unfold fitsL at h ⊢
  rw [List.all_eq_true] at h ⊢
  exact fun x hx => h x (List.mem_of_mem_take hx)
theorem checkE_fits {j : Jrn} (h : checkE j = 0) : fitsL j.lines = true ∧ j.lines.length ≤ 8 ∧ (1 ≤ j.ent ∧ j.ent ≤ 9) ∧ ∀ x ∈ j.lines, 1 ≤ x.acct ∧ x.acct ≤ 9999 := by
  have hl := (checkE_len h).1
  unfold checkE at h
  split at h
  · rename_i h1
    split at h
    · rename_i h2
      rw [Bool.and_eq_true] at h1
      unfold frontOk linesOk linesAll at h1
      simp only [Bool.and_eq_true] at h1
      refine ⟨h2, hl, inB_iff.1 h1.1.1.1.2, fun x hx => ?_⟩
      have := List.all_eq_true.1 h1.2.2 x hx
      unfold lineOk at this
      simp only [Bool.and_eq_true] at this
      exact inB_iff.1 this.1.1.1
    · omega
  · omega
theorem sumJ_bound {a e : Int} {j : Jrn} (h : checkE j = 0) : -8000000000000000 ≤ sumJ a e j ∧ sumJ a e j ≤ 8000000000000000 := by
  obtain ⟨h1, h2, _⟩ := checkE_fits h
  have h3 := lineS_bound (a := a) h1
  unfold sumJ
  split <;> omega
theorem sumM_bound {a e : Int} : ∀ {M : List Jrn}, (∀ j ∈ M, checkE j = 0) → -(8000000000000000 * (M.length : Int)) ≤ sumM a e M ∧ sumM a e M ≤ 8000000000000000 * (M.length : Int)
  | [], _ => by simp [sumM]
  | j :: M, h => by
    have h1 := sumJ_bound (a := a) (e := e) (h j (by simp))
    have h2 := sumM_bound (a := a) (e := e) (M := M) fun x hx => h x (by simp [hx])
    unfold sumM
    rw [List.length_cons]
    omega
theorem sum_part {a e : Int} {M : List Jrn} {k i : Nat} {j : Jrn} (h : ∀ j ∈ M, checkE j = 0) (hl : M.length ≤ 200) (hj : M[k]? = some j) :
    -4000000000000000000 ≤ sumM a e (M.take k) + (if j.ent = e then lineS a (j.lines.take i) else 0) ∧ sumM a e (M.take k) + (if j.ent = e then lineS a (j.lines.take i) else 0) ≤ 4000000000000000000 := by
  have h1 := sumM_bound (a := a) (e := e) (M := M.take k) fun x hx => h x (List.mem_of_mem_take hx)
  have h2 : (M.take k).length ≤ 200 := by simp; omega
  obtain ⟨h3, h4, _⟩ := checkE_fits (h j (List.mem_of_getElem? hj))
  have h5 := lineS_bound (a := a) (fitsL_take h3 i)
  have h6 : (j.lines.take i).length ≤ 8 := by simp; omega
  split <;> omega

/-- Is one of the sums too great? As the document's book asks it. -/
def tooJ (M : List Jrn) : Bool := M.any fun j => j.lines.any fun x => !fits1 (sumM x.acct j.ent M)
def moneyE (M : List Jrn) : Int := if tooJ M = true then 2 else 0
theorem lineS_ne {a : Int} : ∀ {l : List Lin}, lineS a l ≠ 0 → ∃ x ∈ l, x.acct = a
  | [], h => absurd rfl h
  | x :: l, h => by
    by_cases hx : x.acct = a
    · exact ⟨x, by simp, hx⟩
    · rw [show lineS a (x :: l) = (if x.acct = a then x.amt else 0) + lineS a l from rfl, if_neg hx] at h
      obtain ⟨y, hy, e⟩ := lineS_ne (a := a) (l := l) (by omega)
      exact ⟨y, by simp [hy], e⟩
theorem sumM_ne {a e : Int} : ∀ {M : List Jrn}, sumM a e M ≠ 0 → ∃ j ∈ M, j.ent = e ∧ ∃ x ∈ j.lines, x.acct = a
  | [], h => absurd rfl h
  | j :: M, h => by
    by_cases hj : sumJ a e j = 0
    · rw [show sumM a e (j :: M) = sumJ a e j + sumM a e M from rfl] at h
      obtain ⟨y, hy, e⟩ := sumM_ne (a := a) (e := e) (M := M) (by omega)
      exact ⟨y, by simp [hy], e⟩
    · unfold sumJ at hj
      split at hj
      · rename_i h1
        exact ⟨j, by simp, h1.2, lineS_ne hj⟩
      · exact absurd rfl hj
theorem tooJ_of {M : List Jrn} {a e : Int} (h : fits1 (sumM a e M) = false) : tooJ M = true := by
  obtain ⟨j, hj, rfl, x, hx, rfl⟩ := sumM_ne (a := a) (e := e) (M := M) (by intro h0; rw [h0] at h; revert h; decide)
  unfold tooJ
  rw [List.any_eq_true]
  exact ⟨j, hj, List.any_eq_true.2 ⟨x, hx, by rw [h]; rfl⟩⟩
theorem tooJ_no {M : List Jrn} (h : ∀ j ∈ M, ∀ x ∈ j.lines, fits1 (sumM x.acct j.ent M) = true) : tooJ M = false := by
  unfold tooJ
  rw [List.any_eq_false]
  intro j hj
  rw [List.any_eq_true]
  rintro ⟨x, hx, e⟩
  rw [h j hj x hx] at e
  cases e

/-- The first error of several. -/
def firstE : List Int → Int
  | [] => 0
  | x :: r => if x = 0 then firstE r else x
theorem firstE_take : ∀ {l : List Int} {k : Nat} {x : Int}, firstE (l.take k) = 0 → l[k]? = some x → (x = 0 → firstE (l.take (k + 1)) = 0) ∧ (x ≠ 0 → firstE l = x)
  | [], k, x, _, h => by simp at h
  | y :: l, 0, x, _, h => by
    simp at h; subst h
    exact ⟨fun h => by simp [firstE, h], fun h => by simp [firstE, h]⟩
  | y :: l, k + 1, x, h0, h => by
    rw [List.take_succ_cons, firstE] at h0
    by_cases hy : y = 0
    · rw [if_pos hy] at h0
      obtain ⟨h1, h2⟩ := firstE_take (l := l) (k := k) h0 (by simpa using h)
      exact ⟨fun hx => by rw [List.take_succ_cons, firstE, if_pos hy]; exact h1 hx, fun hx => by rw [firstE, if_pos hy]; exact h2 hx⟩
    · rw [if_neg hy] at h0; exact absurd h0 hy

/-- A book's journal of a number, or the zero one. -/
def oldJ (M : List Jrn) (id : Int) : Jrn := (findK Jrn.id M id).getD zeroJ
def accts (l : List Lin) : List Int := l.map Lin.acct
end Go.Proofs.YtmgncoialppmpaaGreat
