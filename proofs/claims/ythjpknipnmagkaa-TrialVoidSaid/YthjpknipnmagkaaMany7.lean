/-
  Several texts, one behind the other: what each holds stands ahead of it.
-/
import Derived.Test.YthjpknipnmagkaaTomePost
import Derived.Test.YthjpknipnmagkaaMany6

/-
  Contract of (*Book).Amend.
-/
namespace Go.Proofs.Ythjpknipnmagkaa
open Go.RowKit

theorem amendE_check {M : List Jrn} {j : Jrn} (h : checkE j ≠ 0) : amendE M j = checkE j := by unfold amendE; rw [if_neg h]
theorem amendE_live {M : List Jrn} {j : Jrn} (h : checkE j = 0) (h1 : liveE M j.id ≠ 0) : amendE M j = liveE M j.id := by unfold amendE; rw [if_pos h, if_neg h1]
theorem amendE_ref {M : List Jrn} {j : Jrn} (h : checkE j = 0) (h1 : liveE M j.id = 0) (h2 : takenJ M j = true) : amendE M j = 8 := by unfold amendE; rw [if_pos h, if_pos h1, h2]; rfl
theorem amendE_ok {M : List Jrn} {j : Jrn} (h : checkE j = 0) (h1 : liveE M j.id = 0) (h2 : takenJ M j = false) : amendE M j = 0 := by unfold amendE; rw [if_pos h, if_pos h1, h2]; rfl
theorem amendL_no {M : List Jrn} {j : Jrn} (h : amendE M j ≠ 0) : amendL M j = M := by unfold amendL; rw [if_neg h]
theorem live_found {l : List JR} {x : Int} (hE : liveE (l.map JR.j) x = 0) : ∃ a, findK JR.id l x = some a ∧ a.j.void = false := by
  cases hf : findK JR.id l x with
  | none => rw [liveE_none hf] at hE; cases hE
  | some a =>
    cases hv : a.j.void
    · exact ⟨a, rfl, hv⟩
    · rw [liveE_void hf hv] at hE; cases hE
theorem set_six {w : World} {g o : Nat} {a : JR} : ((((((w.setCell ⟨g, o, none⟩ (.int .i64 a.j.id)).setCell ⟨g, o + 1, none⟩ (.int .i64 a.j.ent)).setCell ⟨g, o + 2, none⟩ (.int .i64 a.j.per)).setCell ⟨g, o + 3, none⟩ (.string a.j.ref)).setCell ⟨g, o + 4, none⟩ (.slice a.A a.j.lines.length a.c)).setCell ⟨g, o + 5, none⟩ (.bool a.j.void)) = w.setCells g o a.cells := rfl

/-- A row that came in another one's place. -/
theorem TomeTo.amend {w w4 : World} {B c p g cap : Nat} {l : List JR} {a b : JR} (hb : Below w.heap.size w w4) (h4 : TomeAt w4 B c (.slice (some ⟨g, 0, none⟩) l.length cap) l) (hc : c < w.heap.size) (hf : findK JR.id l b.j.id = some a) (hp : p = posK JR.id l b.j.id) (hok : checkE b.j = 0)
    (hg : g < w.heap.size) (hline : w4.ownsRow w.heap.size 40 3 b.lv b.j.lines.length (lins b.j.lines)) : TomeTo w B c (.slice (some ⟨g, 0, none⟩) l.length cap) l (putK Jrn.id (l.map JR.j) b.j) (w4.setCells g (p * 6) b.cells) := by
  obtain ⟨hat, hid⟩ := findK_some h4.rise hf
  rw [← hp] at hat
  have hlow := h4.low
  have hown := own_setL b.cells w4 (p * 6) _ h4.own
  rw [jrs_setAll b hat] at hown
  have hbut : But (fun k => k = g) w4 (w4.setCells g (p * 6) b.cells) := by
    have h2 := setCells_below (B := 0) (g := g) (Nat.zero_le _) b.cells w4 (p * 6)
    exact ⟨h2.os, h2.tape, h2.output, h2.size, fun k _ hk => setCells_other _ _ _ _ hk⟩
  refine ⟨_, l.set p b, h4.place hat hid.symm hok hown hbut ?_, ?_, ?_, ?_⟩
  · refine own_base (own_kept hline fun k hk ho => hbut.block k hk fun e => ?_) (by omega)
    have := own_ge hline k ho
    omega
  · rw [hp, setJ_map h4.rise hf hid.symm]
  · exact (But.of_below hb).trans (hbut.wide fun k _ hk => .inr (by rw [hk]; rfl))
  · rintro k (hk | hk | ⟨y, hy, hk⟩)
    · exact .inl (.inl hk)
    · exact .inl (.inr (.inl hk))
    · rcases List.mem_or_eq_of_mem_set hy with h1 | h1
      · exact .inl (.inr (.inr ⟨y, h1, hk⟩))
      · subst h1
        exact .inr (own_ge hline k hk)

end Go.Proofs.Ythjpknipnmagkaa

/-
  Contract of (*Book).Get.
-/
namespace Go.Proofs.Ythjpknipnmagkaa
open Go.RowKit

end Go.Proofs.Ythjpknipnmagkaa

/-
  A book that began in a world W, and all else of W as it was: its calls.
-/
namespace Go.Proofs.Ythjpknipnmagkaa
open Go.RowKit

/-- X: blocks of W that are not the book's. -/
def TomeIn (X : Nat → Prop) (W : World) (B c : Nat) (M : List Jrn) (w : World) : Prop :=
  ∃ v l, TomeAt w B c v l ∧ l.map JR.j = M ∧ (∀ k, InTome c v l k → ¬ X k) ∧ (∀ k, X k → k < W.heap.size) ∧ But (fun k => ¬ X k) W w
section
variable {X : Nat → Prop} {W w w' : World} {B c : Nat} {M N : List Jrn}
theorem TomeIn.start {v : Value} (h : TomeAt W B c v []) (hv : v.ownBlock = none) : TomeIn (fun k => k < W.heap.size ∧ k ≠ c) W B c [] W :=
  ⟨v, [], h, rfl, fun k hk hx => by
    rcases hk with hk | hk | ⟨a, ha, _⟩
    · exact hx.2 hk
    · rw [hv] at hk; cases hk
    · simp at ha, fun k hk => hk.1, But.refl _ _⟩
/-- All that is not the book's. -/
theorem TomeIn.all {v : Value} {l : List JR} (h : TomeAt w B c v l) : TomeIn (fun k => k < w.heap.size ∧ ¬ InTome c v l k) w B c (l.map JR.j) w :=
  ⟨v, l, h, rfl, fun _ hk hx => hx.2 hk, fun _ hk => hk.1, But.refl _ _⟩
theorem TomeIn.step {v : Value} {l : List JR} (h : TomeAt w B c v l) (ho : ∀ k, InTome c v l k → ¬ X k) (hX : ∀ k, X k → k < W.heap.size) (hb : But (fun k => ¬ X k) W w) (ht : TomeTo w B c v l N w') : TomeIn X W B c N w' := by
  obtain ⟨v', l', h1, h2, h3, h4⟩ := ht
  refine ⟨v', l', h1, h2, fun k hk hx => ?_, hX, hb.more h3 fun i hi hs => ?_⟩
  · rcases h4 k hk with h | h
    · exact ho k h hx
    · have := hX k hx; have := hb.size; omega
  · rcases hs with hs | hs
    · exact ho i (.inl hs)
    · exact ho i (.inr (.inl hs))
theorem TomeIn.quiet (h : TomeIn X W B c M w) (hb : Below w.heap.size w w') : TomeIn X W B c M w' := by
  obtain ⟨v, l, h1, h2, h3, h4, h5⟩ := h
  exact ⟨v, l, h1.below hb, h2, h3, h4, h5.trans (But.of_below hb)⟩
/-- What came since counts too. -/
theorem TomeIn.more (h : TomeIn X W B c M w) (hb : Below w.heap.size w w') : TomeIn (fun k => X k ∨ (w.heap.size ≤ k ∧ k < w'.heap.size)) w' B c M w' := by
  obtain ⟨v, l, h1, h2, h3, h4, h5⟩ := h
  have hz := h5.size
  have hz2 := hb.size
  refine ⟨v, l, h1.below hb, h2, fun k hk hx => ?_, fun k hk => ?_, But.refl _ _⟩
  · rcases hx with hx | hx
    · exact h3 k hk hx
    · have := h1.ltB k hk; omega
  · rcases hk with hk | hk
    · have := h4 k hk; omega
    · exact hk.2
theorem TomeIn.lt (h : TomeIn X W B c M w) : c < w.heap.size := by obtain ⟨v, l, h1, _⟩ := h; exact h1.lt
theorem TomeIn.but (h : TomeIn X W B c M w) : But (fun k => ¬ X k) W w := by obtain ⟨v, l, _, _, _, _, h5⟩ := h; exact h5
theorem TomeIn.below (h : TomeIn X W B c M w) (w0 : World) (h0 : Below w0.heap.size w0 W) (hc : ∀ k, k < w0.heap.size → X k) : Below w0.heap.size w0 w := h0.trans (h.but.below (fun k _ hk => Nat.le_of_not_lt fun hl => hk (hc k hl)) h0.size)
theorem TomeIn.len (h : TomeIn X W B c M w) : M.length ≤ 200 := by obtain ⟨v, l, h1, h2, _⟩ := h; rw [← h2, List.length_map]; exact h1.len
theorem TomeIn.rise (h : TomeIn X W B c M w) : Rise Jrn.id M := by obtain ⟨v, l, h1, h2, _⟩ := h; rw [← h2]; exact Rise.map.2 h1.rise
theorem TomeIn.ok (h : TomeIn X W B c M w) : ∀ j ∈ M, checkE j = 0 := by
  obtain ⟨v, l, h1, h2, _⟩ := h
  rw [← h2]
  intro j hj
  obtain ⟨a, ha, rfl⟩ := List.mem_map.1 hj
  exact h1.ok a ha
/-- What lay in W beside the book, read later. -/
theorem TomeIn.rd (h : TomeIn X W B c M w) {Br size n : Nat} {A : Option Addr} {xs : List Value} (hR : Rd W Br size A n xs) (hB : Br ≤ W.heap.size) (hA : ∀ ad, A = some ad → X ad.block) : Rd w Br size A n xs := by
  refine ⟨hR.1, fun hn => ?_⟩
  obtain ⟨ad, e, hb, hc⟩ := hR.2 hn
  refine ⟨ad, e, hb, fun j u hu => ?_⟩
  have h1 := hc j u hu
  have hk := h.but.block ad.block (by omega) fun hx => hx (hA ad e)
  rw [← h1]
  unfold World.cell?
  rw [add_block, hk]
theorem TomeIn.heap (h : TomeIn X W B c M w) {k : Nat} {o : Obj} (hk : W.heap[k]? = some o) (hc : X k) : w.heap[k]? = some o := (h.but.block k (lt_of_blk hk) fun hx => hx hc).trans hk

theorem post_in (j : Jrn) (A : Option Addr) (cap Br : Nat) (h : TomeIn X W B c M w) (hR : Rd w Br 3 A j.lines.length (lins j.lines)) (hBr : Br ≤ w.heap.size) (h0 : A = none → cap = 0) (hN : j.lines.length ≤ maxLen) (hS : j.ref.size ≤ maxLen) :
    Calls Try.prog 81 #[.pointer (some ⟨c, 0, none⟩), j.val A j.lines.length cap] w fun e w' => e = .returned (.int .i64 (postE M j)) ∧ TomeIn X W B c (postL M j) w' := by
  obtain ⟨v, l, h1, rfl, h3, h4, h5⟩ := h
  exact (post_any B c v l j A cap Br w h1 hR hBr h0 hN hS).mono fun e w' hh => ⟨hh.1, TomeIn.step h1 h3 h4 h5 hh.2⟩
theorem len_in (h : TomeIn X W B c M w) : Calls Try.prog 170 #[.pointer (some ⟨c, 0, none⟩)] w fun e w' => e = .returned (.int .i64 (M.length : Nat)) ∧ w = w' := by
  obtain ⟨v, l, h1, rfl, h3, h4, h5⟩ := h
  rw [List.length_map]
  exact len_any B c v l w h1
end
/-- Two lines, in a block of their own. -/
theorem rd_twoL (w : World) (a b c d e f : Int) {T : TypeId} : Rd (w.alloc (.cells #[.int .i64 a, .int .i64 b, .int .i64 c, .int .i64 d, .int .i64 e, .int .i64 f] T)) (w.heap.size + 1) 3 (some ⟨w.heap.size, 0, none⟩) 2 (lins [⟨a, b, c⟩, ⟨d, e, f⟩]) :=
  ⟨rfl, fun _ => ⟨_, rfl, by simp, cells_new w [.int .i64 a, .int .i64 b, .int .i64 c, .int .i64 d, .int .i64 e, .int .i64 f] T⟩⟩
end Go.Proofs.Ythjpknipnmagkaa
