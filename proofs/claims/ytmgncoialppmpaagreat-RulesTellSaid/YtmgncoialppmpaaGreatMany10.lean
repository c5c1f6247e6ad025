/-
  Several texts, one behind the other: what each holds stands ahead of it.
-/
import Derived.Test.YtmgncoialppmpaaGreatTomePost
import Derived.Test.YtmgncoialppmpaaGreatMany9

/-
  Contract of (*Book).Amend.
-/
namespace Go.Proofs.YtmgncoialppmpaaGreat
open Go.RowKit

theorem amendE_check {M : List Jrn} {j : Jrn} (h : checkE j ≠ 0) : amendE M j = checkE j := by unfold amendE; rw [if_neg h]
theorem amendE_live {M : List Jrn} {j : Jrn} (h : checkE j = 0) (h1 : liveE M j.id ≠ 0) : amendE M j = liveE M j.id := by unfold amendE; rw [if_pos h, if_neg h1]
theorem amendE_ref {M : List Jrn} {j : Jrn} (h : checkE j = 0) (h1 : liveE M j.id = 0) (h2 : takenJ M j = true) : amendE M j = 8 := by unfold amendE; rw [if_pos h, if_pos h1, h2]; rfl
theorem amendE_ok {M : List Jrn} {j : Jrn} (h : checkE j = 0) (h1 : liveE M j.id = 0) (h2 : takenJ M j = false) : amendE M j = 0 := by unfold amendE; rw [if_pos h, if_pos h1, h2]; rfl
theorem amendL_no {M : List Jrn} {j : Jrn} (h : amendE M j ≠ 0) : amendL M j = M := by unfold amendL; rw [if_neg h]
theorem live_found {l : List JR} {x : Int} (hE : liveE (l.map JR.j) x = 0) : ∃ a, findK JR.id l x = some a ∧ a.j.void = false := by
  cases hf : findK JR.id l x with
  | none => rw [liveE_none hf] at hE; cases hE
  | some a =>
    cases hv : a.j.void
    · exact ⟨a, rfl, hv⟩
    · rw [liveE_void hf hv] at hE; cases hE
theorem set_six {w : World} {g o : Nat} {a : JR} : ((((((w.setCell ⟨g, o, none⟩ (.int .i64 a.j.id)).setCell ⟨g, o + 1, none⟩ (.int .i64 a.j.ent)).setCell ⟨g, o + 2, none⟩ (.int .i64 a.j.per)).setCell ⟨g, o + 3, none⟩ (.string a.j.ref)).setCell ⟨g, o + 4, none⟩ (.slice a.A a.j.lines.length a.c)).setCell ⟨g, o + 5, none⟩ (.bool a.j.void)) = w.setCells g o a.cells := rfl

/-- A row that came in another one's place. -/
theorem TomeTo.amend {w w4 : World} {B c p g cap : Nat} {l : List JR} {a b : JR} (hb : Below w.heap.size w w4) (h4 : TomeAt w4 B c (.slice (some ⟨g, 0, none⟩) l.length cap) l) (hc : c < w.heap.size) (hf : findK JR.id l b.j.id = some a) (hp : p = posK JR.id l b.j.id) (hok : checkE b.j = 0)
    (hg : g < w.heap.size) (hline : w4.ownsRow w.heap.size 64 3 b.lv b.j.lines.length (lins b.j.lines)) : TomeTo w B c (.slice (some ⟨g, 0, none⟩) l.length cap) l (putK Jrn.id (l.map JR.j) b.j) (w4.setCells g (p * 6) b.cells) := by
  obtain ⟨hat, hid⟩ := findK_some h4.rise hf
  rw [← hp] at hat
  have hlow := h4.low
  have hown := own_setL b.cells w4 (p * 6) _ h4.own
  rw [jrs_setAll b hat] at hown
  have hbut : But (fun k => k = g) w4 (w4.setCells g (p * 6) b.cells) := by
    have h2 := setCells_below (B := 0) (g := g) (Nat.zero_le _) b.cells w4 (p * 6)
    exact ⟨h2.os, h2.tape, h2.output, h2.size, fun k _ hk => setCells_other _ _ _ _ hk⟩
  refine ⟨_, l.set p b, h4.place hat hid.symm hok hown hbut ?_, ?_, ?_, ?_⟩
  · refine own_base (own_kept hline fun k hk ho => hbut.block k hk fun e => ?_) (by omega)
    have := own_ge hline k ho
    omega
  · rw [hp, setJ_map h4.rise hf hid.symm]
  · exact (But.of_below hb).trans (hbut.wide fun k _ hk => .inr (by rw [hk]; rfl))
  · rintro k (hk | hk | ⟨y, hy, hk⟩)
    · exact .inl (.inl hk)
    · exact .inl (.inr (.inl hk))
    · rcases List.mem_or_eq_of_mem_set hy with h1 | h1
      · exact .inl (.inr (.inr ⟨y, h1, hk⟩))
      · subst h1
        exact .inr (own_ge hline k hk)

set_option maxRecDepth 100000 in
set_option maxHeartbeats 2000000 in
theorem amend_ok (B c : Nat) (v : Value) (l : List JR) (j : Jrn) (A : Option Addr) (cap Br : Nat) (w : World) (h : TomeAt w B c v l) (hR : Rd w Br 3 A j.lines.length (lins j.lines)) (hBr : Br ≤ w.heap.size) (h0 : A = none → cap = 0) (hE : checkE j = 0) (h1 : liveE (l.map JR.j) j.id = 0) (h2 : takenJ (l.map JR.j) j = false) :
    Calls Tryz.prog 30 #[.pointer (some ⟨c, 0, none⟩), j.val A j.lines.length cap] w fun e w' => e = .returned (.int .i64 0) ∧ TomeTo w B c v l (putK Jrn.id (l.map JR.j) j) w' := by
  have hn8 := (checkE_len hE).1
  have hrs := (checkE_len hE).2.2.2
  obtain ⟨W, hW⟩ : ∃ W, w.alloc (.cells #[.int .i64 j.id, .int .i64 j.ent, .int .i64 j.per, .string j.ref, .slice A j.lines.length cap, .bool j.void] 29) = W := ⟨_, rfl⟩
  have hbW : Below w.heap.size w W := by rw [← hW]; exact (Below.refl _ _).alloc (Nat.le_refl _) _
  have hzW : W.heap.size = w.heap.size + 1 := by rw [← hW]; simp
  have HW := Lib.hid hW
  have HBW := Lib.hid hbW
  have HRW : Hid (∀ w1, Below W.heap.size W w1 → Rd w1 Br 3 A j.lines.length (lins j.lines)) := fun w1 hb => hR.far (hbW.trans (hb.mono hbW.size)) hBr
  have HCW : Hid (∀ w1, Below W.heap.size W w1 → TomeAt w1 B c v l) := fun w1 hb => (h.below hbW).below hb
  have kc : Hid (Calls Tryz.prog 91 #[j.val A j.lines.length cap] W fun e w' => e = .returned (.int .i64 0) ∧ Below W.heap.size W w') := by
    have := check_any j A j.lines.length cap Br W (HRW.out W (Below.refl _ _)) (by omega) (by unfold maxLen; omega) (by unfold maxLen; omega)
    rwa [hE] at this
  have kp : Hid (∀ w1, Below W.heap.size W w1 → Calls Tryz.prog 97 #[.pointer (some ⟨c, 0, none⟩), .int .i64 j.id] w1 fun e w' => e = .returned (.tuple #[.int .i64 (posK JR.id l j.id : Nat), .int .i64 0]) ∧ Below w1.heap.size w1 w') := fun w1 hb => by
    have := live_any B c v l j.id w1 (HCW.out w1 hb)
    rwa [h1, if_pos rfl] at this
  have kr : Hid (∀ w1, Below W.heap.size W w1 → Calls Tryz.prog 93 #[.pointer (some ⟨c, 0, none⟩), j.val A j.lines.length cap] w1 fun e w' => e = .returned (.bool false) ∧ Below w1.heap.size w1 w') := fun w1 hb => by
    have := refTaken_any B c v l j A j.lines.length cap w1 (HCW.out w1 hb)
    rwa [h2] at this
  have ky : Hid (∀ w1, Below W.heap.size W w1 → Calls Tryz.prog 95 #[j.val A j.lines.length cap] w1 fun e w' => ∃ A' c', e = .returned (.agg #[.int .i64 j.id, .int .i64 j.ent, .int .i64 j.per, .string j.ref, .slice A' j.lines.length c', .bool j.void]) ∧ w'.ownsRow w1.heap.size 64 3 (.slice A' j.lines.length c') j.lines.length (lins j.lines) ∧ Below w1.heap.size w1 w') := fun w1 hb =>
    entryCopy_any j A j.lines.length cap Br w1 (HRW.out w1 hb) (by have := hb.size; omega) (by omega) h0
  have hlt0 := h.lt
  obtain ⟨a, hf, _⟩ := live_found h1
  have HF := Lib.hid hf
  obtain ⟨hat, _⟩ := findK_some h.rise hf
  have HAT := Lib.hid hat
  have hgw : ∃ g cap2, v = .slice (some ⟨g, 0, none⟩) l.length cap2 ∧ g < w.heap.size := by
    obtain ⟨g, cap2, e, _, hg, _⟩ := h.at hat
    exact ⟨g, cap2, e, hg⟩
  obtain ⟨g, cap2, rfl, hgw⟩ := hgw
  have HE := Lib.hid hE
  have hpl := (List.getElem?_eq_some_iff.1 hat).1
  have hlen := h.len
  clear h hR hE h1 h2 hW hbW hf hat
  obtain ⟨p, hp⟩ : ∃ p, p = posK JR.id l j.id := ⟨_, rfl⟩
  have HPP := Lib.hid hp
  rw [← hp] at kp HAT hpl
  clear hp
  unfold Jrn.val at *
  go_enter Tryz.func30, Tryz.ntmps30
  go_wp2_with fail
  rw [HW.out]
  refine kc.out.mono ?_
  rintro e w1 ⟨rfl, hb1⟩
  have HB1 := Lib.hid hb1
  obtain ⟨b0, b1, b2, b3, b4, b5⟩ := box6 HW.out hb1
  clear hb1
  go_wp2_with fail
  refine (kp.out w1 HB1.out).mono ?_
  rintro e w2 ⟨rfl, hb2⟩
  have HB2 : Hid (Below W.heap.size W w2) := HB1.out.trans (hb2.mono HB1.out.size)
  clear hb2 b0 b1 b2 b3 b4 b5
  obtain ⟨b0, b1, b2, b3, b4, b5⟩ := box6 HW.out HB2.out
  go_wp2_with fail
  refine (kr.out w2 HB2.out).mono ?_
  rintro e w3 ⟨rfl, hb3⟩
  have HB3 : Hid (Below W.heap.size W w3) := HB2.out.trans (hb3.mono HB2.out.size)
  clear hb3 b0 b1 b2 b3 b4 b5
  have hcc := (HCW.out w3 HB3.out).cell
  obtain ⟨b0, b1, b2, b3, b4, b5⟩ := box6 HW.out HB3.out
  have hz3 := HB3.out.size
  have hclt3 : c < w3.heap.size := by omega
  have hpI : (p : Int) < (l.length : Int) := by omega
  have KY : Hid (Calls Tryz.prog 95 #[.agg #[.int .i64 j.id, .int .i64 j.ent, .int .i64 j.per, .string j.ref, .slice A j.lines.length cap, .bool j.void]] w3.drew fun e w' => ∃ A' c', e = .returned (.agg #[.int .i64 j.id, .int .i64 j.ent, .int .i64 j.per, .string j.ref, .slice A' j.lines.length c', .bool j.void]) ∧ w'.ownsRow w3.heap.size 64 3 (.slice A' j.lines.length c') j.lines.length (lins j.lines) ∧ Below w3.heap.size w3 w') := by
    refine (ky.out w3.drew HB3.out.drew).mono ?_
    rintro e w4 ⟨A', c', rfl, hown, hb4⟩
    exact ⟨A', c', rfl, hown, (Below.refl _ w3).drew.trans hb4⟩
  clear kp kr kc ky
  go_wp2_with fail
  go_region_law (go_simp; go_at_call 95; refine KY.out.mono ?_; rintro e w4 ⟨A', c', rfl, hown, hbb⟩; have hcc4 := (hbb.cell (p := ⟨c, 0, none⟩) hclt3).trans hcc; have hcl4 : c < w4.heap.size := (by have := hbb.size; omega); have h4 := (HCW.out w3 HB3.out).below hbb; obtain ⟨g9, cap9, hv9, hpl9, hgl, hBg, hcs, hfz⟩ := h4.at HAT.out; injection hv9 with hv9 _ hv8; injection hv9 with hv9; injection hv9 with hv9; subst hv9 hv8; have p0 := hcs 0 _ rfl; rw [Nat.add_zero] at p0; have p1 := hcs 1 _ rfl; have p2 := hcs 2 _ rfl; have p3 := hcs 3 _ rfl; have p4 := hcs 4 _ rfl; have p5 := hcs 5 _ rfl; have HOW := Lib.hid hown; have HB4 := Lib.hid hbb; have H4 := Lib.hid h4; clear hown hbb h4 hcs)
  all_goals
    go_wp2_with fail
    go_ret
    have hbw3 : Below w.heap.size w w3 := HBW.out.trans (HB3.out.mono HBW.out.size)
    have hbw : Below w.heap.size w w4 := hbw3.trans (HB4.out.mono hbw3.size)
    exact ⟨rfl, TomeTo.amend (b := ⟨j, A', c'⟩) hbw H4.out hlt0 HF.out HPP.out HE.out hgw (own_base HOW.out hbw3.size)⟩

set_option maxRecDepth 100000 in
set_option maxHeartbeats 2000000 in
theorem amend_no (B c : Nat) (v : Value) (l : List JR) (j : Jrn) (A : Option Addr) (cap Br : Nat) (w : World) (h : TomeAt w B c v l) (hR : Rd w Br 3 A j.lines.length (lins j.lines)) (hBr : Br ≤ w.heap.size) (hN : j.lines.length ≤ maxLen) (hS : j.ref.size ≤ maxLen) (hE : amendE (l.map JR.j) j ≠ 0) :
    Calls Tryz.prog 30 #[.pointer (some ⟨c, 0, none⟩), j.val A j.lines.length cap] w fun e w' => e = .returned (.int .i64 (amendE (l.map JR.j) j)) ∧ TomeTo w B c v l (l.map JR.j) w' := by
  obtain ⟨W, hW⟩ : ∃ W, w.alloc (.cells #[.int .i64 j.id, .int .i64 j.ent, .int .i64 j.per, .string j.ref, .slice A j.lines.length cap, .bool j.void] 29) = W := ⟨_, rfl⟩
  have hbW : Below w.heap.size w W := by rw [← hW]; exact (Below.refl _ _).alloc (Nat.le_refl _) _
  have hzW : W.heap.size = w.heap.size + 1 := by rw [← hW]; simp
  have HW := Lib.hid hW
  have HFIN : Hid (∀ w1, Below W.heap.size W w1 → TomeTo w B c v l (l.map JR.j) w1) := fun w1 hb => TomeTo.same h (hbW.trans (hb.mono hbW.size))
  have HCW : Hid (∀ w1, Below W.heap.size W w1 → TomeAt w1 B c v l) := fun w1 hb => (h.below hbW).below hb
  have kc := Lib.hid (check_any j A j.lines.length cap Br W (hR.far hbW hBr) (by omega) hN hS)
  have kp : Hid (∀ w1, Below W.heap.size W w1 → Calls Tryz.prog 97 #[.pointer (some ⟨c, 0, none⟩), .int .i64 j.id] w1 fun e w' => e = .returned (.tuple #[.int .i64 (if liveE (l.map JR.j) j.id = 0 then (posK JR.id l j.id : Int) else 0), .int .i64 (liveE (l.map JR.j) j.id)]) ∧ Below w1.heap.size w1 w') := fun w1 hb =>
    live_any B c v l j.id w1 (HCW.out w1 hb)
  have kr : Hid (∀ w1, Below W.heap.size W w1 → Calls Tryz.prog 93 #[.pointer (some ⟨c, 0, none⟩), j.val A j.lines.length cap] w1 fun e w' => e = .returned (.bool (takenJ (l.map JR.j) j)) ∧ Below w1.heap.size w1 w') := fun w1 hb =>
    refTaken_any B c v l j A j.lines.length cap w1 (HCW.out w1 hb)
  have hlt0 := h.lt
  clear h hR hbW hW
  unfold maxLen at hN
  unfold Jrn.val at *
  by_cases h1 : checkE j = 0
  · rw [h1] at kc
    by_cases h2 : liveE (l.map JR.j) j.id = 0
    · rw [h2, if_pos rfl] at kp
      have h4 : takenJ (l.map JR.j) j = true := by
        cases h4 : takenJ (l.map JR.j) j
        · exact absurd (amendE_ok h1 h2 h4) hE
        · rfl
      rw [h4] at kr
      rw [amendE_ref h1 h2 h4]
      clear hE h1 h2 h4
      generalize posK JR.id l j.id = p at *
      go_enter Tryz.func30, Tryz.ntmps30
      go_wp2_with fail
      rw [HW.out]
      refine kc.out.mono ?_
      rintro e w1 ⟨rfl, hb1⟩
      have HB1 := Lib.hid hb1
      obtain ⟨b0, b1, b2, b3, b4, b5⟩ := box6 HW.out hb1
      clear hb1
      go_wp2_with fail
      refine (kp.out w1 HB1.out).mono ?_
      rintro e w2 ⟨rfl, hb2⟩
      have HB2 : Hid (Below W.heap.size W w2) := HB1.out.trans (hb2.mono HB1.out.size)
      clear hb2 b0 b1 b2 b3 b4 b5
      obtain ⟨b0, b1, b2, b3, b4, b5⟩ := box6 HW.out HB2.out
      go_wp2_with fail
      refine (kr.out w2 HB2.out).mono ?_
      rintro e w3 ⟨rfl, hb3⟩
      have HB3 : Hid (Below W.heap.size W w3) := HB2.out.trans (hb3.mono HB2.out.size)
      clear hb3 b0 b1 b2 b3 b4 b5
      go_wp2_with fail
      go_ret
      exact ⟨rfl, HFIN.out _ HB3.out⟩
    · rw [if_neg h2] at kp
      rw [amendE_live h1 h2]
      have hne : (liveE (l.map JR.j) j.id != 0) = true := by simpa using h2
      clear hE h1 h2
      generalize liveE (l.map JR.j) j.id = E at *
      go_enter Tryz.func30, Tryz.ntmps30
      go_wp2_with fail
      rw [HW.out]
      refine kc.out.mono ?_
      rintro e w1 ⟨rfl, hb1⟩
      have HB1 := Lib.hid hb1
      obtain ⟨b0, b1, b2, b3, b4, b5⟩ := box6 HW.out hb1
      clear hb1
      go_wp2_with fail
      refine (kp.out w1 HB1.out).mono ?_
      rintro e w2 ⟨rfl, hb2⟩
      have HB2 : Hid (Below W.heap.size W w2) := HB1.out.trans (hb2.mono HB1.out.size)
      clear hb2 b0 b1 b2 b3 b4 b5
      go_wp2_with fail
      go_ret
      exact ⟨rfl, HFIN.out _ HB2.out⟩
  · rw [amendE_check h1]
    have hne : (checkE j != 0) = true := by simpa using h1
    clear hE h1
    generalize checkE j = E at *
    go_enter Tryz.func30, Tryz.ntmps30
    go_wp2_with fail
    rw [HW.out]
    refine kc.out.mono ?_
    rintro e w1 ⟨rfl, hb1⟩
    have HB1 := Lib.hid hb1
    clear hb1
    go_wp2_with fail
    go_ret
    exact ⟨rfl, HFIN.out _ HB1.out⟩

theorem amend_any (B c : Nat) (v : Value) (l : List JR) (j : Jrn) (A : Option Addr) (cap Br : Nat) (w : World) (h : TomeAt w B c v l) (hR : Rd w Br 3 A j.lines.length (lins j.lines)) (hBr : Br ≤ w.heap.size) (h0 : A = none → cap = 0) (hN : j.lines.length ≤ maxLen) (hS : j.ref.size ≤ maxLen) :
    Calls Tryz.prog 30 #[.pointer (some ⟨c, 0, none⟩), j.val A j.lines.length cap] w fun e w' => e = .returned (.int .i64 (amendE (l.map JR.j) j)) ∧ TomeTo w B c v l (amendL (l.map JR.j) j) w' := by
  by_cases hE : amendE (l.map JR.j) j = 0
  · have h1 : checkE j = 0 := by
      cases (inferInstance : Decidable (checkE j = 0)) with
      | isTrue h => exact h
      | isFalse h => rw [amendE_check h] at hE; exact absurd hE h
    have h2 : liveE (l.map JR.j) j.id = 0 := by
      cases (inferInstance : Decidable (liveE (l.map JR.j) j.id = 0)) with
      | isTrue h => exact h
      | isFalse h => rw [amendE_live h1 h] at hE; exact absurd hE h
    have h3 : takenJ (l.map JR.j) j = false := by
      cases h3 : takenJ (l.map JR.j) j
      · rfl
      · rw [amendE_ref h1 h2 h3] at hE; cases hE
    unfold amendL
    rw [if_pos hE, hE]
    exact amend_ok B c v l j A cap Br w h hR hBr h0 h1 h2 h3
  · rw [amendL_no hE]
    exact amend_no B c v l j A cap Br w h hR hBr hN hS hE
set_option maxRecDepth 100000 in
theorem amend_nil (j : Jrn) (A : Option Addr) (n cap : Nat) (w : World) : Calls Tryz.prog 30 #[.pointer none, j.val A n cap] w fun e w' => e = .returned (.int .i64 1) ∧ Below w.heap.size w w' := by
  have HB : Hid (∀ o, Below w.heap.size w (w.alloc o)) := fun o => (Below.refl _ _).alloc (Nat.le_refl _) o
  unfold Jrn.val
  go_enter Tryz.func30, Tryz.ntmps30
  go_wp2
  go_ret
  exact ⟨rfl, HB.out _⟩
end Go.Proofs.YtmgncoialppmpaaGreat

/-
  Contract of (*Book).Get.
-/
namespace Go.Proofs.YtmgncoialppmpaaGreat
open Go.RowKit

set_option maxRecDepth 100000 in
set_option maxHeartbeats 2000000 in
theorem get_some (B c : Nat) (v : Value) (l : List JR) (x : Int) (a : JR) (w : World) (h : TomeAt w B c v l) (hf : findK JR.id l x = some a) :
    Calls Tryz.prog 163 #[.pointer (some ⟨c, 0, none⟩), .int .i64 x] w fun e w' => ∃ A' c', e = .returned (.tuple #[.agg #[.int .i64 a.j.id, .int .i64 a.j.ent, .int .i64 a.j.per, .string a.j.ref, .slice A' a.j.lines.length c', .bool a.j.void], .bool true]) ∧ w'.ownsRow w.heap.size 64 3 (.slice A' a.j.lines.length c') a.j.lines.length (lins a.j.lines) ∧ Below w.heap.size w w' := by
  obtain ⟨W, hW⟩ : ∃ W, w.alloc (.cells #[.int .i64 0, .int .i64 0, .int .i64 0, .string ⟨#[]⟩, .slice none 0 0, .bool false] 29) = W := ⟨_, rfl⟩
  have hbW : Below w.heap.size w W := by rw [← hW]; exact (Below.refl _ _).alloc (Nat.le_refl _) _
  have hzW : W.heap.size = w.heap.size + 1 := by rw [← hW]; simp
  have hres : JAt W w.heap.size zeroJ none 0 0 := by rw [← hW]; exact heap_new w _
  have HRES := Lib.hid hres
  have HW := Lib.hid hW
  have HBW := Lib.hid hbW
  have HZW := Lib.hid hzW
  have HC := Lib.hid (h.below hbW)
  have kp := Lib.hid (place_any B c v l x W HC.out)
  obtain ⟨hat, _⟩ := findK_some h.rise hf
  rw [hf] at kp
  have HAT := Lib.hid hat
  clear h hf hat hres hbW hW
  generalize posK JR.id l x = p at *
  go_enter Tryz.func163, Tryz.ntmps163
  go_wp2_with fail
  rw [HW.out]
  refine kp.out.mono ?_
  rintro e w1 ⟨rfl, hb⟩
  have hC2 := HC.out.below hb
  have hcc := hC2.cell
  obtain ⟨g, cap, rfl, hpl, hgl, hBg, hcs, hfz⟩ := hC2.at HAT.out
  have p0 := hcs 0 _ rfl
  rw [Nat.add_zero] at p0
  have p1 := hcs 1 _ rfl
  have p2 := hcs 2 _ rfl
  have p3 := hcs 3 _ rfl
  have p4 := hcs 4 _ rfl
  have p5 := hcs 5 _ rfl
  have hpI : (p : Int) < (l.length : Int) := by omega
  have HB := Lib.hid hb
  have hmem := List.mem_of_getElem? HAT.out
  have h0 : a.A = none → a.c = 0 := by
    intro e
    rcases (hC2.lines a hmem).2 with ⟨h1, _⟩ | ⟨g2, c2, cur, h1, _⟩
    · unfold JR.lv at h1; injection h1
    · unfold JR.lv at h1; injection h1 with h1; rw [e] at h1; cases h1
  have ky := Lib.hid (entryCopy_any a.j a.A a.j.lines.length a.c _ w1 (hC2.rd hmem) (Nat.le_refl _) (by have := (checkE_len (hC2.ok a hmem)).1; omega) h0)
  unfold Jrn.val at ky
  clear hb hC2 hcs hfz hmem h0
  go_wp2_with fail
  refine ky.out.mono ?_
  rintro e w2 ⟨A', c', rfl, hown, hb2⟩
  have hres2 : JAt w2 w.heap.size zeroJ none 0 0 := (hb2.block _ (by have := HZW.out; have := HB.out.size; omega)).trans ((HB.out.block _ (by have := HZW.out; omega)).trans HRES.out)
  obtain ⟨y0, y1, y2, y3, y4, y5⟩ := six_cells hres2
  have yf := fun o => warm_of hres2 o
  have hlt3 : w.heap.size < w2.heap.size := lt_of_blk hres2
  have HB1 : Hid (Below w.heap.size w w1) := HBW.out.trans (HB.out.mono HBW.out.size)
  have HB2 : Hid (Below w.heap.size w w2) := HB1.out.trans (hb2.mono HB1.out.size)
  have hlt1 : w.heap.size < w1.heap.size := by have := HZW.out; have := HB.out.size; omega
  have HOWN := Lib.hid hown
  clear hown hres2 hb2 p0 p1 p2 p3 p4 p5 hcc
  go_wp2_with fail
  refine bodyPost_ret (v := .tuple #[.agg #[.int .i64 a.j.id, .int .i64 a.j.ent, .int .i64 a.j.per, .string a.j.ref, .slice A' a.j.lines.length c', .bool a.j.void], .bool true]) (by simp [results, Tryz.results163, go_sem, y0, y1, y2, y3, y4, y5]) rfl ⟨A', c', rfl, ?_, ?_⟩
  · exact own_base (own_six HOWN.out hlt1 _ _ _ _ _ _) (by omega)
  · exact below_six HB2.out (Nat.le_refl _) _ _ _ _ _ _

set_option maxRecDepth 100000 in
set_option maxHeartbeats 2000000 in
theorem get_none (B c : Nat) (v : Value) (l : List JR) (x : Int) (w : World) (h : TomeAt w B c v l) (hf : findK JR.id l x = none) :
    Calls Tryz.prog 163 #[.pointer (some ⟨c, 0, none⟩), .int .i64 x] w fun e w' => e = .returned (.tuple #[.agg #[.int .i64 0, .int .i64 0, .int .i64 0, .string ⟨#[]⟩, .slice none 0 0, .bool false], .bool false]) ∧ Below w.heap.size w w' := by
  obtain ⟨W, hW⟩ : ∃ W, w.alloc (.cells #[.int .i64 0, .int .i64 0, .int .i64 0, .string ⟨#[]⟩, .slice none 0 0, .bool false] 29) = W := ⟨_, rfl⟩
  have hbW : Below w.heap.size w W := by rw [← hW]; exact (Below.refl _ _).alloc (Nat.le_refl _) _
  have hzW : W.heap.size = w.heap.size + 1 := by rw [← hW]; simp
  have hres : JAt W w.heap.size zeroJ none 0 0 := by rw [← hW]; exact heap_new w _
  have HRES := Lib.hid hres
  have HW := Lib.hid hW
  have HBW := Lib.hid hbW
  have HZW := Lib.hid hzW
  have kp := Lib.hid (place_any B c v l x W (h.below hbW))
  rw [hf] at kp
  clear h hf hres hbW hW
  generalize posK JR.id l x = p at *
  go_enter Tryz.func163, Tryz.ntmps163
  go_wp2_with fail
  rw [HW.out]
  refine kp.out.mono ?_
  rintro e w2 ⟨rfl, hb⟩
  have hres2 : JAt w2 w.heap.size zeroJ none 0 0 := (hb.block _ (by have := HZW.out; omega)).trans HRES.out
  obtain ⟨y0, y1, y2, y3, y4, y5⟩ := six_cells hres2
  have yf := fun o => warm_of hres2 o
  have hlt3 : w.heap.size < w2.heap.size := lt_of_blk hres2
  have HB2 : Hid (Below w.heap.size w w2) := HBW.out.trans (hb.mono HBW.out.size)
  clear hres2 hb
  go_wp2_with fail
  refine bodyPost_ret (v := .tuple #[.agg #[.int .i64 0, .int .i64 0, .int .i64 0, .string ⟨#[]⟩, .slice none 0 0, .bool false], .bool false]) (by simp [results, Tryz.results163, go_sem, y0, y1, y2, y3, y4, y5]) rfl ⟨rfl, ?_⟩
  exact below_six HB2.out (Nat.le_refl _) _ _ _ _ _ _
set_option maxRecDepth 100000 in
set_option maxHeartbeats 2000000 in
theorem get_nil (x : Int) (w : World) : Calls Tryz.prog 163 #[.pointer none, .int .i64 x] w fun e w' => e = .returned (.tuple #[.agg #[.int .i64 0, .int .i64 0, .int .i64 0, .string ⟨#[]⟩, .slice none 0 0, .bool false], .bool false]) ∧ Below w.heap.size w w' := by
  obtain ⟨W, hW⟩ : ∃ W, w.alloc (.cells #[.int .i64 0, .int .i64 0, .int .i64 0, .string ⟨#[]⟩, .slice none 0 0, .bool false] 29) = W := ⟨_, rfl⟩
  have hbW : Below w.heap.size w W := by rw [← hW]; exact (Below.refl _ _).alloc (Nat.le_refl _) _
  have hres : JAt W w.heap.size zeroJ none 0 0 := by rw [← hW]; exact heap_new w _
  have HW := Lib.hid hW
  have HBW := Lib.hid hbW
  have kp := Lib.hid (place_nil x W)
  obtain ⟨y0, y1, y2, y3, y4, y5⟩ := six_cells hres
  have yf := fun o => warm_of hres o
  have hlt3 : w.heap.size < W.heap.size := lt_of_blk hres
  clear hres hbW hW
  go_enter Tryz.func163, Tryz.ntmps163
  go_wp2_with fail
  rw [HW.out]
  refine kp.out.mono ?_
  rintro e w2 ⟨rfl, rfl⟩
  go_wp2_with fail
  refine bodyPost_ret (v := .tuple #[.agg #[.int .i64 0, .int .i64 0, .int .i64 0, .string ⟨#[]⟩, .slice none 0 0, .bool false], .bool false]) (by simp [results, Tryz.results163, go_sem, y0, y1, y2, y3, y4, y5]) rfl ⟨rfl, ?_⟩
  exact below_six HBW.out (Nat.le_refl _) _ _ _ _ _ _
end Go.Proofs.YtmgncoialppmpaaGreat

/-
  A book that began in a world W, and all else of W as it was: its calls.
-/
namespace Go.Proofs.YtmgncoialppmpaaGreat
open Go.RowKit

/-- X: blocks of W that are not the book's. -/
def TomeIn (X : Nat → Prop) (W : World) (B c : Nat) (M : List Jrn) (w : World) : Prop :=
  ∃ v l, TomeAt w B c v l ∧ l.map JR.j = M ∧ (∀ k, InTome c v l k → ¬ X k) ∧ (∀ k, X k → k < W.heap.size) ∧ But (fun k => ¬ X k) W w
section
variable {X : Nat → Prop} {W w w' : World} {B c : Nat} {M N : List Jrn}
theorem TomeIn.start {v : Value} (h : TomeAt W B c v []) (hv : v.ownBlock = none) : TomeIn (fun k => k < W.heap.size ∧ k ≠ c) W B c [] W :=
  ⟨v, [], h, rfl, fun k hk hx => by
    rcases hk with hk | hk | ⟨a, ha, _⟩
    · exact hx.2 hk
    · rw [hv] at hk; cases hk
    · simp at ha, fun k hk => hk.1, But.refl _ _⟩
/-- All that is not the book's. -/
theorem TomeIn.all {v : Value} {l : List JR} (h : TomeAt w B c v l) : TomeIn (fun k => k < w.heap.size ∧ ¬ InTome c v l k) w B c (l.map JR.j) w :=
  ⟨v, l, h, rfl, fun _ hk hx => hx.2 hk, fun _ hk => hk.1, But.refl _ _⟩
theorem TomeIn.step {v : Value} {l : List JR} (h : TomeAt w B c v l) (ho : ∀ k, InTome c v l k → ¬ X k) (hX : ∀ k, X k → k < W.heap.size) (hb : But (fun k => ¬ X k) W w) (ht : TomeTo w B c v l N w') : TomeIn X W B c N w' := by
  obtain ⟨v', l', h1, h2, h3, h4⟩ := ht
  refine ⟨v', l', h1, h2, fun k hk hx => ?_, hX, hb.more h3 fun i hi hs => ?_⟩
  · rcases h4 k hk with h | h
    · exact ho k h hx
    · have := hX k hx; have := hb.size; omega
  · rcases hs with hs | hs
    · exact ho i (.inl hs)
    · exact ho i (.inr (.inl hs))
theorem TomeIn.quiet (h : TomeIn X W B c M w) (hb : Below w.heap.size w w') : TomeIn X W B c M w' := by
  obtain ⟨v, l, h1, h2, h3, h4, h5⟩ := h
  exact ⟨v, l, h1.below hb, h2, h3, h4, h5.trans (But.of_below hb)⟩
/-- What came since counts too. -/
theorem TomeIn.more (h : TomeIn X W B c M w) (hb : Below w.heap.size w w') : TomeIn (fun k => X k ∨ (w.heap.size ≤ k ∧ k < w'.heap.size)) w' B c M w' := by
  obtain ⟨v, l, h1, h2, h3, h4, h5⟩ := h
  have hz := h5.size
  have hz2 := hb.size
  refine ⟨v, l, h1.below hb, h2, fun k hk hx => ?_, fun k hk => ?_, But.refl _ _⟩
  · rcases hx with hx | hx
    · exact h3 k hk hx
    · have := h1.ltB k hk; omega
  · rcases hk with hk | hk
    · have := h4 k hk; omega
    · exact hk.2
theorem TomeIn.lt (h : TomeIn X W B c M w) : c < w.heap.size := by obtain ⟨v, l, h1, _⟩ := h; exact h1.lt
theorem TomeIn.but (h : TomeIn X W B c M w) : But (fun k => ¬ X k) W w := by obtain ⟨v, l, _, _, _, _, h5⟩ := h; exact h5
theorem TomeIn.below (h : TomeIn X W B c M w) (w0 : World) (h0 : Below w0.heap.size w0 W) (hc : ∀ k, k < w0.heap.size → X k) : Below w0.heap.size w0 w := h0.trans (h.but.below (fun k _ hk => Nat.le_of_not_lt fun hl => hk (hc k hl)) h0.size)
theorem TomeIn.len (h : TomeIn X W B c M w) : M.length ≤ 200 := by obtain ⟨v, l, h1, h2, _⟩ := h; rw [← h2, List.length_map]; exact h1.len
theorem TomeIn.rise (h : TomeIn X W B c M w) : Rise Jrn.id M := by obtain ⟨v, l, h1, h2, _⟩ := h; rw [← h2]; exact Rise.map.2 h1.rise
theorem TomeIn.ok (h : TomeIn X W B c M w) : ∀ j ∈ M, checkE j = 0 := by
  obtain ⟨v, l, h1, h2, _⟩ := h
  rw [← h2]
  intro j hj
  obtain ⟨a, ha, rfl⟩ := List.mem_map.1 hj
  exact h1.ok a ha
/-- What lay in W beside the book, read later. -/
theorem TomeIn.rd (h : TomeIn X W B c M w) {Br size n : Nat} {A : Option Addr} {xs : List Value} (hR : Rd W Br size A n xs) (hB : Br ≤ W.heap.size) (hA : ∀ ad, A = some ad → X ad.block) : Rd w Br size A n xs := by
  refine ⟨hR.1, fun hn => ?_⟩
  obtain ⟨ad, e, hb, hc⟩ := hR.2 hn
  refine ⟨ad, e, hb, fun j u hu => ?_⟩
  have h1 := hc j u hu
  have hk := h.but.block ad.block (by omega) fun hx => hx (hA ad e)
  rw [← h1]
  unfold World.cell?
  rw [add_block, hk]
theorem TomeIn.heap (h : TomeIn X W B c M w) {k : Nat} {o : Obj} (hk : W.heap[k]? = some o) (hc : X k) : w.heap[k]? = some o := (h.but.block k (lt_of_blk hk) fun hx => hx hc).trans hk

theorem post_in (j : Jrn) (A : Option Addr) (cap Br : Nat) (h : TomeIn X W B c M w) (hR : Rd w Br 3 A j.lines.length (lins j.lines)) (hBr : Br ≤ w.heap.size) (h0 : A = none → cap = 0) (hN : j.lines.length ≤ maxLen) (hS : j.ref.size ≤ maxLen) :
    Calls Tryz.prog 26 #[.pointer (some ⟨c, 0, none⟩), j.val A j.lines.length cap] w fun e w' => e = .returned (.int .i64 (postE M j)) ∧ TomeIn X W B c (postL M j) w' := by
  obtain ⟨v, l, h1, rfl, h3, h4, h5⟩ := h
  exact (post_any B c v l j A cap Br w h1 hR hBr h0 hN hS).mono fun e w' hh => ⟨hh.1, TomeIn.step h1 h3 h4 h5 hh.2⟩
theorem amend_in (j : Jrn) (A : Option Addr) (cap Br : Nat) (h : TomeIn X W B c M w) (hR : Rd w Br 3 A j.lines.length (lins j.lines)) (hBr : Br ≤ w.heap.size) (h0 : A = none → cap = 0) (hN : j.lines.length ≤ maxLen) (hS : j.ref.size ≤ maxLen) :
    Calls Tryz.prog 30 #[.pointer (some ⟨c, 0, none⟩), j.val A j.lines.length cap] w fun e w' => e = .returned (.int .i64 (amendE M j)) ∧ TomeIn X W B c (amendL M j) w' := by
  obtain ⟨v, l, h1, rfl, h3, h4, h5⟩ := h
  exact (amend_any B c v l j A cap Br w h1 hR hBr h0 hN hS).mono fun e w' hh => ⟨hh.1, TomeIn.step h1 h3 h4 h5 hh.2⟩
theorem void_in (x : Int) (h : TomeIn X W B c M w) : Calls Tryz.prog 31 #[.pointer (some ⟨c, 0, none⟩), .int .i64 x] w fun e w' => e = .returned (.int .i64 (liveE M x)) ∧ TomeIn X W B c (voidL M x) w' := by
  obtain ⟨v, l, h1, rfl, h3, h4, h5⟩ := h
  exact (void_any B c v l x w h1).mono fun e w' hh => ⟨hh.1, TomeIn.step h1 h3 h4 h5 hh.2⟩
theorem len_in (h : TomeIn X W B c M w) : Calls Tryz.prog 29 #[.pointer (some ⟨c, 0, none⟩)] w fun e w' => e = .returned (.int .i64 (M.length : Nat)) ∧ w = w' := by
  obtain ⟨v, l, h1, rfl, h3, h4, h5⟩ := h
  rw [List.length_map]
  exact len_any B c v l w h1
theorem get_in (x : Int) (j : Jrn) (h : TomeIn X W B c M w) (hf : findK Jrn.id M x = some j) : Calls Tryz.prog 163 #[.pointer (some ⟨c, 0, none⟩), .int .i64 x] w fun e w' => ∃ A' c', e = .returned (.tuple #[.agg #[.int .i64 j.id, .int .i64 j.ent, .int .i64 j.per, .string j.ref, .slice A' j.lines.length c', .bool j.void], .bool true]) ∧ w'.ownsRow w.heap.size 64 3 (.slice A' j.lines.length c') j.lines.length (lins j.lines) ∧ Below w.heap.size w w' := by
  obtain ⟨v, l, h1, rfl, h3, h4, h5⟩ := h
  rw [find_jr] at hf
  obtain ⟨a, ha, rfl⟩ := Option.map_eq_some_iff.1 hf
  exact get_some B c v l x a w h1 ha
theorem get_out (x : Int) (h : TomeIn X W B c M w) (hf : findK Jrn.id M x = none) : Calls Tryz.prog 163 #[.pointer (some ⟨c, 0, none⟩), .int .i64 x] w fun e w' => e = .returned (.tuple #[.agg #[.int .i64 0, .int .i64 0, .int .i64 0, .string ⟨#[]⟩, .slice none 0 0, .bool false], .bool false]) ∧ Below w.heap.size w w' := by
  obtain ⟨v, l, h1, rfl, h3, h4, h5⟩ := h
  rw [find_jr, Option.map_eq_none_iff] at hf
  exact get_none B c v l x w h1 hf
end
/-- Two lines, in a block of their own. -/
theorem rd_twoL (w : World) (a b c d e f : Int) {T : TypeId} : Rd (w.alloc (.cells #[.int .i64 a, .int .i64 b, .int .i64 c, .int .i64 d, .int .i64 e, .int .i64 f] T)) (w.heap.size + 1) 3 (some ⟨w.heap.size, 0, none⟩) 2 (lins [⟨a, b, c⟩, ⟨d, e, f⟩]) :=
  ⟨rfl, fun _ => ⟨_, rfl, by simp, cells_new w [.int .i64 a, .int .i64 b, .int .i64 c, .int .i64 d, .int .i64 e, .int .i64 f] T⟩⟩
end Go.Proofs.YtmgncoialppmpaaGreat
