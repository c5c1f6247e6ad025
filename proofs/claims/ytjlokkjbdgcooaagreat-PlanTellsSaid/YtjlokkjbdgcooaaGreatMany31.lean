/-
  Several texts, one behind the other: what each holds stands ahead of it.
-/
import Derived.Test.YtjlokkjbdgcooaaGreatTomePost
import Derived.Test.YtjlokkjbdgcooaaGreatMany30
import Derived.Test.YtjlokkjbdgcooaaGreatMany29
import Derived.Test.YtjlokkjbdgcooaaGreatMany11
import Derived.BigQuiet
import Derived.Laws.MakeOwn

/-
  Contract of (*Book).Amend.
-/
namespace Go.Proofs.YtjlokkjbdgcooaaGreat
open Go.RowKit

theorem amendE_check {M : List Jrn} {j : Jrn} (h : checkE j ≠ 0) : amendE M j = checkE j := by unfold amendE; rw [if_neg h]
theorem amendE_live {M : List Jrn} {j : Jrn} (h : checkE j = 0) (h1 : liveE M j.id ≠ 0) : amendE M j = liveE M j.id := by unfold amendE; rw [if_pos h, if_neg h1]
theorem amendE_ref {M : List Jrn} {j : Jrn} (h : checkE j = 0) (h1 : liveE M j.id = 0) (h2 : takenJ M j = true) : amendE M j = 8 := by unfold amendE; rw [if_pos h, if_pos h1, h2]; rfl
theorem amendE_ok {M : List Jrn} {j : Jrn} (h : checkE j = 0) (h1 : liveE M j.id = 0) (h2 : takenJ M j = false) : amendE M j = 0 := by unfold amendE; rw [if_pos h, if_pos h1, h2]; rfl
theorem amendL_no {M : List Jrn} {j : Jrn} (h : amendE M j ≠ 0) : amendL M j = M := by unfold amendL; rw [if_neg h]
theorem live_found {l : List JR} {x : Int} (hE : liveE (l.map JR.j) x = 0) : ∃ a, findK JR.id l x = some a ∧ a.j.void = false := by
  cases hf : findK JR.id l x with
  | none => rw [liveE_none hf] at hE; cases hE
  | some a =>
    cases hv : a.j.void
    · exact ⟨a, rfl, hv⟩
    · rw [liveE_void hf hv] at hE; cases hE
theorem set_six {w : World} {g o : Nat} {a : JR} : ((((((w.setCell ⟨g, o, none⟩ (.int .i64 a.j.id)).setCell ⟨g, o + 1, none⟩ (.int .i64 a.j.ent)).setCell ⟨g, o + 2, none⟩ (.int .i64 a.j.per)).setCell ⟨g, o + 3, none⟩ (.string a.j.ref)).setCell ⟨g, o + 4, none⟩ (.slice a.A a.j.lines.length a.c)).setCell ⟨g, o + 5, none⟩ (.bool a.j.void)) = w.setCells g o a.cells := rfl

/-- A row that came in another one's place. -/
theorem TomeTo.amend {w w4 : World} {B c p g cap : Nat} {l : List JR} {a b : JR} (hb : Below w.heap.size w w4) (h4 : TomeAt w4 B c (.slice (some ⟨g, 0, none⟩) l.length cap) l) (hc : c < w.heap.size) (hf : findK JR.id l b.j.id = some a) (hp : p = posK JR.id l b.j.id) (hok : checkE b.j = 0)
    (hg : g < w.heap.size) (hline : w4.ownsRow w.heap.size 113 3 b.lv b.j.lines.length (lins b.j.lines)) : TomeTo w B c (.slice (some ⟨g, 0, none⟩) l.length cap) l (putK Jrn.id (l.map JR.j) b.j) (w4.setCells g (p * 6) b.cells) := by
  obtain ⟨hat, hid⟩ := findK_some h4.rise hf
  rw [← hp] at hat
  have hlow := h4.low
  have hown := own_setL b.cells w4 (p * 6) _ h4.own
  rw [jrs_setAll b hat] at hown
  have hbut : But (fun k => k = g) w4 (w4.setCells g (p * 6) b.cells) := by
    have h2 := setCells_below (B := 0) (g := g) (Nat.zero_le _) b.cells w4 (p * 6)
    exact ⟨h2.os, h2.tape, h2.output, h2.size, fun k _ hk => setCells_other _ _ _ _ hk⟩
  refine ⟨_, l.set p b, h4.place hat hid.symm hok hown hbut ?_, ?_, ?_, ?_⟩
  · refine own_base (own_kept hline fun k hk ho => hbut.block k hk fun e => ?_) (by omega)
    have := own_ge hline k ho
    omega
  · rw [hp, setJ_map h4.rise hf hid.symm]
  · exact (But.of_below hb).trans (hbut.wide fun k _ hk => .inr (by rw [hk]; rfl))
  · rintro k (hk | hk | ⟨y, hy, hk⟩)
    · exact .inl (.inl hk)
    · exact .inl (.inr (.inl hk))
    · rcases List.mem_or_eq_of_mem_set hy with h1 | h1
      · exact .inl (.inr (.inr ⟨y, h1, hk⟩))
      · subst h1
        exact .inr (own_ge hline k hk)

end Go.Proofs.YtjlokkjbdgcooaaGreat

/-
  Contract of (*Book).Get.
-/
namespace Go.Proofs.YtjlokkjbdgcooaaGreat
open Go.RowKit

end Go.Proofs.YtjlokkjbdgcooaaGreat

/-
  A book that began in a world W, and all else of W as it was: its calls.
-/
namespace Go.Proofs.YtjlokkjbdgcooaaGreat
open Go.RowKit

/-- X: blocks of W that are not the book's. -/
def TomeIn (X : Nat → Prop) (W : World) (B c : Nat) (M : List Jrn) (w : World) : Prop :=
  ∃ v l, TomeAt w B c v l ∧ l.map JR.j = M ∧ (∀ k, InTome c v l k → ¬ X k) ∧ (∀ k, X k → k < W.heap.size) ∧ But (fun k => ¬ X k) W w
section
variable {X : Nat → Prop} {W w w' : World} {B c : Nat} {M N : List Jrn}
theorem TomeIn.start {v : Value} (h : TomeAt W B c v []) (hv : v.ownBlock = none) : TomeIn (fun k => k < W.heap.size ∧ k ≠ c) W B c [] W :=
  ⟨v, [], h, rfl, fun k hk hx => by
    rcases hk with hk | hk | ⟨a, ha, _⟩
    · exact hx.2 hk
    · rw [hv] at hk; cases hk
    · simp at ha, fun k hk => hk.1, But.refl _ _⟩
/-- All that is not the book's. -/
theorem TomeIn.all {v : Value} {l : List JR} (h : TomeAt w B c v l) : TomeIn (fun k => k < w.heap.size ∧ ¬ InTome c v l k) w B c (l.map JR.j) w :=
  ⟨v, l, h, rfl, fun _ hk hx => hx.2 hk, fun _ hk => hk.1, But.refl _ _⟩
theorem TomeIn.step {v : Value} {l : List JR} (h : TomeAt w B c v l) (ho : ∀ k, InTome c v l k → ¬ X k) (hX : ∀ k, X k → k < W.heap.size) (hb : But (fun k => ¬ X k) W w) (ht : TomeTo w B c v l N w') : TomeIn X W B c N w' := by
  obtain ⟨v', l', h1, h2, h3, h4⟩ := ht
  refine ⟨v', l', h1, h2, fun k hk hx => ?_, hX, hb.more h3 fun i hi hs => ?_⟩
  · rcases h4 k hk with h | h
    · exact ho k h hx
    · have := hX k hx; have := hb.size; omega
  · rcases hs with hs | hs
    · exact ho i (.inl hs)
    · exact ho i (.inr (.inl hs))
theorem TomeIn.quiet (h : TomeIn X W B c M w) (hb : Below w.heap.size w w') : TomeIn X W B c M w' := by
  obtain ⟨v, l, h1, h2, h3, h4, h5⟩ := h
  exact ⟨v, l, h1.below hb, h2, h3, h4, h5.trans (But.of_below hb)⟩
/-- What came since counts too. -/
theorem TomeIn.more (h : TomeIn X W B c M w) (hb : Below w.heap.size w w') : TomeIn (fun k => X k ∨ (w.heap.size ≤ k ∧ k < w'.heap.size)) w' B c M w' := by
  obtain ⟨v, l, h1, h2, h3, h4, h5⟩ := h
  have hz := h5.size
  have hz2 := hb.size
  refine ⟨v, l, h1.below hb, h2, fun k hk hx => ?_, fun k hk => ?_, But.refl _ _⟩
  · rcases hx with hx | hx
    · exact h3 k hk hx
    · have := h1.ltB k hk; omega
  · rcases hk with hk | hk
    · have := h4 k hk; omega
    · exact hk.2
theorem TomeIn.lt (h : TomeIn X W B c M w) : c < w.heap.size := by obtain ⟨v, l, h1, _⟩ := h; exact h1.lt
theorem TomeIn.but (h : TomeIn X W B c M w) : But (fun k => ¬ X k) W w := by obtain ⟨v, l, _, _, _, _, h5⟩ := h; exact h5
theorem TomeIn.below (h : TomeIn X W B c M w) (w0 : World) (h0 : Below w0.heap.size w0 W) (hc : ∀ k, k < w0.heap.size → X k) : Below w0.heap.size w0 w := h0.trans (h.but.below (fun k _ hk => Nat.le_of_not_lt fun hl => hk (hc k hl)) h0.size)
theorem TomeIn.len (h : TomeIn X W B c M w) : M.length ≤ 200 := by obtain ⟨v, l, h1, h2, _⟩ := h; rw [← h2, List.length_map]; exact h1.len
theorem TomeIn.rise (h : TomeIn X W B c M w) : Rise Jrn.id M := by obtain ⟨v, l, h1, h2, _⟩ := h; rw [← h2]; exact Rise.map.2 h1.rise
theorem TomeIn.ok (h : TomeIn X W B c M w) : ∀ j ∈ M, checkE j = 0 := by
  obtain ⟨v, l, h1, h2, _⟩ := h
  rw [← h2]
  intro j hj
  obtain ⟨a, ha, rfl⟩ := List.mem_map.1 hj
  exact h1.ok a ha
/-- What lay in W beside the book, read later. -/
theorem TomeIn.rd (h : TomeIn X W B c M w) {Br size n : Nat} {A : Option Addr} {xs : List Value} (hR : Rd W Br size A n xs) (hB : Br ≤ W.heap.size) (hA : ∀ ad, A = some ad → X ad.block) : Rd w Br size A n xs := by
  refine ⟨hR.1, fun hn => ?_⟩
  obtain ⟨ad, e, hb, hc⟩ := hR.2 hn
  refine ⟨ad, e, hb, fun j u hu => ?_⟩
  have h1 := hc j u hu
  have hk := h.but.block ad.block (by omega) fun hx => hx (hA ad e)
  rw [← h1]
  unfold World.cell?
  rw [add_block, hk]
theorem TomeIn.heap (h : TomeIn X W B c M w) {k : Nat} {o : Obj} (hk : W.heap[k]? = some o) (hc : X k) : w.heap[k]? = some o := (h.but.block k (lt_of_blk hk) fun hx => hx hc).trans hk

theorem post_in (j : Jrn) (A : Option Addr) (cap Br : Nat) (h : TomeIn X W B c M w) (hR : Rd w Br 3 A j.lines.length (lins j.lines)) (hBr : Br ≤ w.heap.size) (h0 : A = none → cap = 0) (hN : j.lines.length ≤ maxLen) (hS : j.ref.size ≤ maxLen) :
    Calls Tryz.prog 200 #[.pointer (some ⟨c, 0, none⟩), j.val A j.lines.length cap] w fun e w' => e = .returned (.int .i64 (postE M j)) ∧ TomeIn X W B c (postL M j) w' := by
  obtain ⟨v, l, h1, rfl, h3, h4, h5⟩ := h
  exact (post_any B c v l j A cap Br w h1 hR hBr h0 hN hS).mono fun e w' hh => ⟨hh.1, TomeIn.step h1 h3 h4 h5 hh.2⟩
theorem len_in (h : TomeIn X W B c M w) : Calls Tryz.prog 286 #[.pointer (some ⟨c, 0, none⟩)] w fun e w' => e = .returned (.int .i64 (M.length : Nat)) ∧ w = w' := by
  obtain ⟨v, l, h1, rfl, h3, h4, h5⟩ := h
  rw [List.length_map]
  exact len_any B c v l w h1
end
/-- Two lines, in a block of their own. -/
theorem rd_twoL (w : World) (a b c d e f : Int) {T : TypeId} : Rd (w.alloc (.cells #[.int .i64 a, .int .i64 b, .int .i64 c, .int .i64 d, .int .i64 e, .int .i64 f] T)) (w.heap.size + 1) 3 (some ⟨w.heap.size, 0, none⟩) 2 (lins [⟨a, b, c⟩, ⟨d, e, f⟩]) :=
  ⟨rfl, fun _ => ⟨_, rfl, by simp, cells_new w [.int .i64 a, .int .i64 b, .int .i64 c, .int .i64 d, .int .i64 e, .int .i64 f] T⟩⟩
end Go.Proofs.YtjlokkjbdgcooaaGreat

/-
  Contracts of book.Of, and of the statements' Of.
-/
namespace Go.Proofs.YtjlokkjbdgcooaaGreat
open Go.RowKit

/-- Journals posted one behind the other. -/
def ofM : List Jrn → List Jrn → List Jrn
  | M, [] => M
  | M, j :: r => if postE M j = 0 then ofM (postL M j) r else M
def ofE : List Jrn → List Jrn → Int
  | _, [] => 0
  | M, j :: r => if postE M j = 0 then ofE (postL M j) r else postE M j
/-- It stays where the book is alone written. -/
theorem JlRd.tome {X : Nat → Prop} {W w : World} {B B0 c n : Nat} {M : List Jrn} {A : Option Addr} {l : List JR} (h : JlRd W B A n l) (ht : TomeIn X W B0 c M w) (hB : B ≤ W.heap.size) (hX : ∀ k, k < B → X k) : JlRd w B A n l := by
  have key : ∀ {size m : Nat} {A : Option Addr} {xs : List Value}, Rd W B size A m xs → Rd w B size A m xs := by
    intro size m A xs hr
    refine ⟨hr.1, fun hm => ?_⟩
    obtain ⟨ad, e, hb, hc⟩ := hr.2 hm
    refine ⟨ad, e, hb, fun j u hu => ?_⟩
    rw [← hc j u hu]
    unfold World.cell?
    rw [add_block, ht.but.block ad.block (by omega) fun hx => hx (hX _ hb)]
  exact ⟨key h.rd, fun a ha => key (h.lines a ha), h.nil, h.size⟩

theorem ofM_step {M : List Jrn} : ∀ (r : List Jrn) (k : Nat) (x : Jrn), r[k]? = some x → ofE M (r.take k) = 0 → (ofE M (r.take (k + 1)) = postE (ofM M (r.take k)) x ∧ (postE (ofM M (r.take k)) x = 0 → ofM M (r.take (k + 1)) = postL (ofM M (r.take k)) x))
  | [], k, x, h, _ => by simp at h
  | j :: r, 0, x, h, _ => by
    simp at h
    subst h
    by_cases h1 : postE M j = 0
    · simp [ofE, ofM, h1]
    · simp [ofE, ofM, h1]
  | j :: r, k + 1, x, h, h0 => by
    simp only [List.take_succ_cons] at h0 ⊢
    by_cases h1 : postE M j = 0
    · simp only [ofE, ofM, if_pos h1] at h0 ⊢
      exact ofM_step r k x (by simpa using h) h0
    · simp only [ofE, if_neg h1] at h0
      exact absurd h0 h1
theorem ofE_no {M : List Jrn} : ∀ (r : List Jrn) (k : Nat), ofE M (r.take k) ≠ 0 → ofE M r = ofE M (r.take k)
  | [], k, h => by simp
  | j :: r, 0, h => by simp [ofE] at h
  | j :: r, k + 1, h => by
    simp only [List.take_succ_cons] at h ⊢
    by_cases h1 : postE M j = 0
    · simp only [ofE, if_pos h1] at h ⊢
      exact ofE_no r k h
    · simp only [ofE, if_neg h1]

set_option maxRecDepth 100000 in
set_option maxHeartbeats 2000000 in
theorem of_any (l : List JR) (A : Option Addr) (n cap B : Nat) (w : World) (h : JlRd w B A n l) (hB : B ≤ w.heap.size) (hn : n ≤ maxLen) :
    Calls Tryz.prog 163 #[.slice A n cap] w fun e w' => (ofE [] (l.map JR.j) = 0 → e = .returned (.tuple #[.pointer (some ⟨w.heap.size, 0, none⟩), .int .i64 0]) ∧ TomeIn (fun k => k < w.heap.size + 1 ∧ k ≠ w.heap.size) (w.alloc (.cells #[.slice none 0 0] 270)) w.heap.size w.heap.size (ofM [] (l.map JR.j)) w') ∧
      (ofE [] (l.map JR.j) ≠ 0 → e = .returned (.tuple #[.pointer none, .int .i64 (ofE [] (l.map JR.j))])) ∧ Below w.heap.size w w' := by
  unfold maxLen at hn
  obtain ⟨W, hW⟩ : ∃ W, w.alloc (.cells #[.slice none 0 0] 270) = W := ⟨_, rfl⟩
  have hbW : Below w.heap.size w W := by rw [← hW]; exact (Below.refl _ _).alloc (Nat.le_refl _) _
  have hzW : W.heap.size = w.heap.size + 1 := by rw [← hW]; simp
  obtain ⟨X, hX⟩ : ∃ X : Nat → Prop, X = fun k => k < w.heap.size + 1 ∧ k ≠ w.heap.size := ⟨_, rfl⟩
  have h0 : TomeIn X W w.heap.size w.heap.size [] W := by
    have := TomeIn.start (tome_new w) rfl
    rw [hW, hzW] at this
    rw [hX]; exact this
  have HXL : Hid (∀ k, k < w.heap.size → X k) := fun k hk => by rw [hX]; exact ⟨by omega, by omega⟩
  rw [hW, ← hX]
  have HL := Lib.hid h.len
  have HJ : Hid (∀ M w1, TomeIn X W w.heap.size w.heap.size M w1 → JlRd w1 B A n l) := fun M w1 ht => (h.far hbW hB).tome ht (by omega) fun k hk => HXL.out k (by omega)
  have HFIN : Hid (∀ M w1, TomeIn X W w.heap.size w.heap.size M w1 → Below w.heap.size w w1) := fun M w1 ht => ht.below w hbW HXL.out
  have HW := Lib.hid hW
  have H0 := Lib.hid h0
  have HSZ := Lib.hid h.size
  have HNL := Lib.hid h.nil
  clear hW h0 hX hbW h
  go_enter Tryz.func163, Tryz.ntmps163
  go_wp2_with fail
  rw [HW.out]
  go_loopw [12, 6, 7] (fun iv _ _ wr => ∃ k : Nat, k ≤ n ∧ iv = .int .i64 k ∧ Hid (ofE [] ((l.map JR.j).take k) = 0) ∧ TomeIn X W w.heap.size w.heap.size (ofM [] ((l.map JR.j).take k)) wr) (fun iv _ _ _ => n - (intOf iv).toNat)
  case atStart => exact ⟨0, Nat.zero_le _, rfl, rfl, H0.out⟩
  case round =>
    obtain ⟨k, hk, rfl, hE, hin⟩ := hrel
    by_cases hlt : k < n
    · have hkn : (k : Int) < (n : Int) := by omega
      have hJ := HJ.out _ _ hin
      obtain ⟨ad, b, rfl, hb1, hx, p1, p2, p3, p4, p5, p6⟩ := hJ.rd.jr hlt
      have hmem := List.mem_of_getElem? hx
      have hgx : (l.map JR.j)[k]? = some b.j := by rw [List.getElem?_map, hx]; rfl
      have HST := Lib.hid (ofM_step (M := []) (l.map JR.j) k b.j hgx hE.out)
      have hsz := hin.but.size
      have KP : Hid (∀ o, Calls Tryz.prog 200 #[.pointer (some ⟨w.heap.size, 0, none⟩), .agg #[.int .i64 b.j.id, .int .i64 b.j.ent, .int .i64 b.j.per, .string b.j.ref, .slice b.A b.j.lines.length b.c, .bool b.j.void]] (wr.alloc o) fun e w' => e = .returned (.int .i64 (postE (ofM [] ((l.map JR.j).take k)) b.j)) ∧ TomeIn X W w.heap.size w.heap.size (postL (ofM [] ((l.map JR.j).take k)) b.j) w') := fun o =>
        post_in b.j b.A b.c B (hin.quiet ((Below.refl _ _).alloc (Nat.le_refl _) o)) ((hJ.lines b hmem).far ((Below.refl _ _).alloc (Nat.le_refl _) o) (by omega)) (by simp; omega) (HNL.out b hmem) (HSZ.out b hmem).2 (HSZ.out b hmem).1
      have hblt : ad.block < wr.heap.size := by omega
      have HNO : Hid (postE (ofM [] ((l.map JR.j).take k)) b.j ≠ 0 → ofE [] (l.map JR.j) = postE (ofM [] ((l.map JR.j).take k)) b.j) := fun h => by
        have h2 := HST.out.1
        rw [← h2] at h ⊢
        exact ofE_no _ _ h
      clear hx hgx hin hJ hmem hE
      generalize hP : postE (ofM [] ((l.map JR.j).take k)) b.j = P at *
      by_cases hP0 : P = 0
      · subst hP0
        go_wp2_with fail
        refine (KP.out _).mono ?_
        rintro e w1 ⟨rfl, h1⟩
        rw [← HST.out.2 (by first | rfl | trivial)] at h1
        have H1 := Lib.hid h1
        clear h1 p1 p2 p3 p4 p5 p6
        go_wp2_with fail
        exact ⟨⟨k + 1, by omega, by go_num, HST.out.1, H1.out⟩, by simp [intOf]; omega⟩
      · have ht : (P != 0) = true := by simpa using hP0
        have HE := Lib.hid (HNO.out hP0)
        have HP0 := Lib.hid hP0
        clear hP0
        go_wp2_with fail
        refine (KP.out _).mono ?_
        rintro e w1 ⟨rfl, h1⟩
        have HF := Lib.hid (HFIN.out _ _ h1)
        clear h1 p1 p2 p3 p4 p5 p6
        go_wp2_with fail
        go_ret2
        exact ⟨fun h => absurd (HE.out ▸ h) HP0.out, fun _ => by rw [HE.out]; rfl, HF.out⟩
    · obtain rfl : k = n := by omega
      have he : (l.map JR.j).take k = l.map JR.j := List.take_of_length_le (by rw [List.length_map]; have := HL.out; omega)
      rw [he] at hE hin
      have HE := Lib.hid hE.out
      have HIN := Lib.hid hin
      clear hE hin he
      go_wp2_with fail
      go_ret2
      exact ⟨fun _ => ⟨rfl, HIN.out⟩, fun h => absurd HE.out h, HFIN.out _ _ HIN.out⟩
end Go.Proofs.YtjlokkjbdgcooaaGreat

/-
  Journals that stand beside each other: posted one behind the other they are all there. No code.
-/
namespace Go.Proofs.YtjlokkjbdgcooaaGreat
open Go.RowKit

structure GoodM (M : List Jrn) : Prop where
  rise : Rise Jrn.id M
  ok : ∀ j ∈ M, checkE j = 0
  len : M.length ≤ 200
  free : ∀ j ∈ M, takenJ M j = false
theorem GoodM.nil : GoodM [] := ⟨Rise.nil, by simp, by simp, by simp⟩
theorem leaves_of_taken {M : List Jrn} {j : Jrn} (h : takenJ M j = false) : ∀ b ∈ M, leavesRef j b = true := by
  unfold takenJ at h
  rw [Bool.not_eq_false', List.all_eq_true] at h
  exact h
theorem taken_of_leaves {M : List Jrn} {j : Jrn} (h : ∀ b ∈ M, leavesRef j b = true) : takenJ M j = false := by
  unfold takenJ
  rw [Bool.not_eq_false', List.all_eq_true]
  exact h
theorem leaves_self (j : Jrn) : leavesRef j j = true := by unfold leavesRef; simp
theorem leaves_symm {a b : Jrn} (h : leavesRef a b = true) : leavesRef b a = true := by
  unfold leavesRef holdsRef at *
  simp only [Bool.or_eq_true, Bool.not_eq_true', Bool.and_eq_false_iff, beq_eq_false_iff_ne, beq_iff_eq, Bool.not_eq_false'] at *
  by_cases h1 : b.void = true
  · exact .inl (.inl (.inl h1))
  by_cases h2 : a.void = true
  · exact .inr (.inl (.inr h2))
  by_cases h3 : a.id = b.id
  · exact .inl (.inl (.inr h3))
  by_cases h4 : a.ent = b.ent
  · by_cases h5 : a.ref.toList = b.ref.toList
    · rcases h with ((h | h) | h) | ((h | h) | h)
      · exact absurd h h2
      · exact absurd h.symm h3
      · exact absurd h4.symm h
      · exact .inr (.inl (.inl (h5 ▸ h)))
      · exact absurd h h1
      · exact absurd h5.symm h
    · exact .inr (.inr h5)
  · exact .inl (.inr h4)
theorem postE_zero {M : List Jrn} {j : Jrn} (h : postE M j = 0) : checkE j = 0 ∧ hasId M j.id = false ∧ takenJ M j = false ∧ M.length < 200 := by
  unfold postE at h
  split at h
  · rename_i h1
    split at h
    · cases h
    · rename_i h2
      split at h
      · cases h
      · rename_i h3
        split at h
        · cases h
        · exact ⟨h1, Bool.eq_false_iff.2 h2, Bool.eq_false_iff.2 h3, by omega⟩
  · rename_i h1; exact absurd h h1
theorem GoodM.put {M : List Jrn} {j : Jrn} (h : GoodM M) (hE : postE M j = 0) : GoodM (putK Jrn.id M j) := by
  obtain ⟨h1, h2, h3, h4⟩ := postE_zero hE
  have hl := leaves_of_taken h3
  refine ⟨h.rise.put j, fun b hb => ?_, ?_, fun b hb => taken_of_leaves fun x hx => ?_⟩
  · rcases mem_put hb with rfl | hb
    · exact h1
    · exact h.ok b hb
  · unfold hasId at h2
    rw [putK_len h.rise, h2]
    simp; omega
  · rcases mem_put hb with e1 | hb1 <;> rcases mem_put hx with e2 | hx1
    · rw [e1, e2]; exact leaves_self _
    · rw [e1]; exact hl x hx1
    · rw [e2]; exact leaves_symm (hl b hb1)
    · exact leaves_of_taken (h.free b hb1) x hx1
theorem hasId_out {M : List Jrn} {x : Int} (h : ∀ b ∈ M, b.id ≠ x) : hasId M x = false := by unfold hasId; rw [findK_out h]; rfl
theorem put_end {M : List Jrn} {j : Jrn} (h : ∀ b ∈ M, b.id < j.id) : putK Jrn.id M j = M ++ [j] := by
  have hn : (findK Jrn.id M j.id).isSome = false := by rw [findK_out fun b hb => by have := h b hb; omega]; rfl
  have hp : posK Jrn.id M j.id = M.length := posK_eq (Nat.le_refl _) (fun k a _ ha => h a (List.mem_of_getElem? ha)) fun a ha => by rw [List.getElem?_eq_none (Nat.le_refl _)] at ha; cases ha
  rw [putK_fresh hn, hp, List.take_length, List.drop_length]
/-- One behind the other, all are there. -/
theorem GoodM.of : ∀ (R P : List Jrn), GoodM (P ++ R) → ofE P R = 0 ∧ ofM P R = P ++ R
  | [], P, _ => by simp [ofE, ofM]
  | j :: R, P, h => by
    have hlt : ∀ b ∈ P, b.id < j.id := fun b hb => by
      have := h.rise
      unfold Rise at this
      rw [List.pairwise_append] at this
      exact this.2.2 b hb j (by simp)
    have hok := h.ok j (by simp)
    have ht : takenJ P j = false := taken_of_leaves fun b hb => leaves_of_taken (h.free j (by simp)) b (by simp [hb])
    have hl : ¬ 200 ≤ P.length := by have := h.len; simp at this; omega
    have h0 : postE P j = 0 := by
      unfold postE
      rw [if_pos hok, hasId_out fun b hb => by have := hlt b hb; omega, ht, if_neg hl]
      rfl
    have hp : postL P j = P ++ [j] := by unfold postL; rw [if_pos h0, put_end hlt]
    have ih := GoodM.of R (P ++ [j]) (by rw [List.append_assoc]; exact h)
    unfold ofE ofM
    rw [if_pos h0, if_pos h0, hp]
    rw [List.append_assoc] at ih
    exact ih
theorem rise_jr {l : List JR} (h : Rise Jrn.id (l.map JR.j)) : Rise JR.id l := (Rise.map (key := Jrn.id) (f := JR.j)).1 h
theorem put_jr (l : List JR) (a : JR) : (putK JR.id l a).map JR.j = putK Jrn.id (l.map JR.j) a.j := (putK_map (key := Jrn.id) JR.j l a).symm
theorem checkE_max {j : Jrn} (h : checkE j = 0) : j.ref.size ≤ maxLen ∧ j.lines.length ≤ maxLen := by
  have := checkE_len h
  unfold maxLen
  omega
end Go.Proofs.YtjlokkjbdgcooaaGreat

/-
  Contracts of SameJournals (of lists that are alike), (*Book).has, Same (of books that are alike), All.
-/
namespace Go.Proofs.YtjlokkjbdgcooaaGreat
open Go.RowKit

set_option maxRecDepth 100000 in
set_option maxHeartbeats 2000000 in
theorem sameJournals_any (l m : List JR) (A1 A2 : Option Addr) (n c1 c2 B1 B2 : Nat) (w : World) (h1 : JlRd w B1 A1 n l) (h2 : JlRd w B2 A2 n m) (hB1 : B1 ≤ w.heap.size) (hB2 : B2 ≤ w.heap.size) (hn : n ≤ 1000000) (he : l.map JR.j = m.map JR.j) :
    Calls Tryz.prog 19 #[.slice A1 n c1, .slice A2 n c2] w fun e w' => e = .returned (.bool true) ∧ Below w.heap.size w w' := by
  have H1 := Lib.hid h1
  have H2 := Lib.hid h2
  have HE := Lib.hid he
  have t1 : ((n : Int) != (n : Int)) = false := by simp
  clear h1 h2 he
  go_enter Tryz.func19, Tryz.ntmps19
  go_wp2_with fail
  go_loopw [5] (fun iv wr => ∃ k : Nat, k ≤ n ∧ iv = .int .i64 k ∧ Below w.heap.size w wr) (fun iv _ => n - (intOf iv).toNat)
  case atStart => exact ⟨0, Nat.zero_le _, rfl, Below.refl _ _⟩
  case round =>
    obtain ⟨k, hk, rfl, hbel⟩ := hrel
    have hzr := hbel.size
    by_cases hlt : k < n
    · have hkn : (k : Int) < (n : Int) := by omega
      have r1 := H1.out.far hbel hB1
      have r2 := H2.out.far hbel hB2
      obtain ⟨ad, a, rfl, hb1, hx, p1, p2, p3, p4, p5, p6⟩ := r1.rd.jr hlt
      obtain ⟨ad2, b, rfl, hb2, hy, q1, q2, q3, q4, q5, q6⟩ := r2.rd.jr hlt
      have hab : a.j = b.j := by
        have e1 : (l.map JR.j)[k]? = some a.j := by rw [List.getElem?_map, hx]; rfl
        have e2 : (m.map JR.j)[k]? = some b.j := by rw [List.getElem?_map, hy]; rfl
        rw [HE.out, e2] at e1
        injection e1 with e1
        exact e1.symm
      have ma := List.mem_of_getElem? hx
      have mb := List.mem_of_getElem? hy
      have Q : Hid _ := regrown_calls (w := wr) fun w1 hb => by
        have := refSame_any a.j b.j a.A b.A a.j.lines.length b.j.lines.length a.c b.c B1 B2 w1 ((r1.lines a ma).far hb (by omega)) ((r2.lines b mb).far hb (by omega)) (by have := hb.size; omega) (by have := hb.size; omega) (H1.out.size a ma).2 (H2.out.size b mb).2
        rw [hab, sameJ_self] at this
        exact this
      rw [hab] at p1 p2 p3 p4 p5 p6
      unfold Jrn.val at Q
      replace p1 := cell_regrown p1; replace p2 := cell_regrown p2; replace p3 := cell_regrown p3; replace p4 := cell_regrown p4; replace p5 := cell_regrown p5; replace p6 := cell_regrown p6
      replace q1 := cell_regrown q1; replace q2 := cell_regrown q2; replace q3 := cell_regrown q3; replace q4 := cell_regrown q4; replace q5 := cell_regrown q5; replace q6 := cell_regrown q6
      have HB := Lib.hid hbel
      clear hx hy hbel r1 r2 ma mb hab
      go_wp2_with fail
      refine wp_region_quiet_below (by kernel_rfl) (by kernel_rfl) ?_
      repeat (go_big_quiet_step (fail))
      go_big_quiet_want
      go_big_quiet_op
      go_big_quiet_call (exact Q.out _ _)
      repeat (go_big_quiet_step (fail))
      refine wpQuiet_nil ?_
      intro _ hw'
      obtain ⟨⟨dq, osq⟩, hw''⟩ := hw'
      subst hw''
      have HB2 := Lib.hid (HB.out.trans ((below_regrown wr dq osq).mono HB.out.size))
      go_wp2_with fail
      exact ⟨⟨k + 1, by omega, by go_num, HB2.out⟩, by simp [intOf]; omega⟩
    · have HB := Lib.hid hbel
      clear hbel
      go_wp2_with fail
      go_ret
      exact ⟨rfl, HB.out⟩

def zeroR : JR := ⟨zeroJ, none, 0⟩
theorem made_jrs (n : Nat) : (madeCells (Value.agg #[.int .i64 0, .int .i64 0, .int .i64 0, .string ⟨#[]⟩, .slice none 0 0, .bool false]).cells (n * 6)).toList = jrs (List.replicate n zeroR) := by
  apply List.ext_getElem?
  intro i
  by_cases hi : i < n * 6
  · have h1 : (jrs (List.replicate n zeroR))[i / 6 * 6 + i % 6]? = zeroR.cells[i % 6]? := by
      have hlt : i % 6 < zeroR.cells.length := by show i % 6 < 6; omega
      rw [List.getElem?_eq_getElem hlt]
      exact jrs_at _ (i / 6) zeroR (by rw [List.getElem?_replicate, if_pos (by omega)]) (i % 6) _ (List.getElem?_eq_getElem hlt)
    rw [show i / 6 * 6 + i % 6 = i by omega] at h1
    rw [h1]
    unfold madeCells
    rw [Array.getElem?_toList, Array.getElem?_map, Array.getElem?_range, if_pos hi]
    have h6 : i % 6 = 0 ∨ i % 6 = 1 ∨ i % 6 = 2 ∨ i % 6 = 3 ∨ i % 6 = 4 ∨ i % 6 = 5 := by omega
    simp only [Value.cells, Option.map_some]
    rcases h6 with h | h | h | h | h | h <;> simp [h, JR.cells, zeroR, zeroJ]
  · rw [List.getElem?_eq_none (by rw [Array.length_toList, size_madeCells]; omega), List.getElem?_eq_none (by rw [jrs_len]; simp; omega)]
theorem make_jrs {q : IntKind} {n : Nat} (hn : n ≤ 1000000) (w : World) : (Instr.makeSlice 48 (.int q (n : Int)) (.int q (n : Int))).run Tryz.prog w = .ok (.slice (some ⟨w.heap.size, 0, none⟩) n n) (w.alloc (.cells (jrs (List.replicate n zeroR)).toArray 111)) := by
  obtain ⟨i, hi, hz, h1, h2⟩ := info_parts infoJrn
  have := run_make (P := Tryz.prog) w 48 111 i _ Tryz.underlying48 hi hz q q n n (by omega) (by omega) (by rw [h2]; omega) (by omega)
  rw [this, h1]
  simp only [Int.toNat_natCast]
  rw [← made_jrs, Array.toArray_toList]
theorem own_make (w : World) (n : Nat) (hn : n ≤ 1000000) : (w.alloc (.cells (jrs (List.replicate n zeroR)).toArray 111)).ownsRow w.heap.size 111 6 (.slice (some ⟨w.heap.size, 0, none⟩) n n) n (jrs (List.replicate n zeroR)) :=
  ⟨by rw [jrs_len]; simp, .inr ⟨w.heap.size, n, _, rfl, Nat.le_refl _, heap_new _ _, Nat.le_refl _, by unfold maxLen; omega, by rw [List.size_toArray, jrs_len]; simp, by rw [List.take_of_length_le (by rw [jrs_len]; simp)]⟩⟩
theorem set_next {m : List JR} {r : Nat} {a : JR} (hr : 0 < r) : (m ++ List.replicate r zeroR).set m.length a = (m ++ [a]) ++ List.replicate (r - 1) zeroR := by
  obtain ⟨r, rfl⟩ : ∃ q, r = q + 1 := ⟨r - 1, by omega⟩
  rw [List.set_append_right _ _ (Nat.le_refl _), Nat.sub_self, List.replicate_succ, List.set_cons_zero]
  simp
end Go.Proofs.YtjlokkjbdgcooaaGreat
