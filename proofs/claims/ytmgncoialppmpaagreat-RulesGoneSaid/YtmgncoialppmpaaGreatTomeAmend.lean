/-
  Contract of (*Book).Amend.
-/
import Derived.Test.YtmgncoialppmpaaGreatTomePost
namespace Go.Proofs.YtmgncoialppmpaaGreat
open Go.RowKit

theorem amendE_check {M : List Jrn} {j : Jrn} (h : checkE j ≠ 0) : amendE M j = checkE j := by unfold amendE; rw [if_neg h]
theorem amendE_live {M : List Jrn} {j : Jrn} (h : checkE j = 0) (h1 : liveE M j.id ≠ 0) : amendE M j = liveE M j.id := by unfold amendE; rw [if_pos h, if_neg h1]
theorem amendE_ref {M : List Jrn} {j : Jrn} (h : checkE j = 0) (h1 : liveE M j.id = 0) (h2 : takenJ M j = true) : amendE M j = 8 := by unfold amendE; rw [if_pos h, if_pos h1, h2]; rfl
theorem amendE_ok {M : List Jrn} {j : Jrn} (h : checkE j = 0) (h1 : liveE M j.id = 0) (h2 : takenJ M j = false) : amendE M j = 0 := by unfold amendE; rw [if_pos h, if_pos h1, h2]; rfl
theorem amendL_no {M : List Jrn} {j : Jrn} (h : amendE M j ≠ 0) : amendL M j = M := by unfold amendL; rw [if_neg h]
theorem live_found {l : List JR} {x : Int} (hE : liveE (l.map JR.j) x = 0) : ∃ a, findK JR.id l x = some a ∧ a.j.void = false := by
  cases hf : findK JR.id l x with
  | none => rw [liveE_none hf] at hE; cases hE
  | some a =>
    cases hv : a.j.void
    · exact ⟨a, rfl, hv⟩
    · rw [liveE_void hf hv] at hE; cases hE
theorem set_six {w : World} {g o : Nat} {a : JR} : ((((((w.setCell ⟨g, o, none⟩ (.int .i64 a.j.id)).setCell ⟨g, o + 1, none⟩ (.int .i64 a.j.ent)).setCell ⟨g, o + 2, none⟩ (.int .i64 a.j.per)).setCell ⟨g, o + 3, none⟩ (.string a.j.ref)).setCell ⟨g, o + 4, none⟩ (.slice a.A a.j.lines.length a.c)).setCell ⟨g, o + 5, none⟩ (.bool a.j.void)) = w.setCells g o a.cells := rfl

/-- A row that came in another one's place. -/
theorem TomeTo.amend {w w4 : World} {B c p g cap : Nat} {l : List JR} {a b : JR} (hb : Below w.heap.size w w4) (h4 : TomeAt w4 B c (.slice (some ⟨g, 0, none⟩) l.length cap) l) (hc : c < w.heap.size) (hf : findK JR.id l b.j.id = some a) (hp : p = posK JR.id l b.j.id) (hok : checkE b.j = 0)
    (hg : g < w.heap.size) (hline : w4.ownsRow w.heap.size 64 3 b.lv b.j.lines.length (lins b.j.lines)) : TomeTo w B c (.slice (some ⟨g, 0, none⟩) l.length cap) l (putK Jrn.id (l.map JR.j) b.j) (w4.setCells g (p * 6) b.cells) := by
  obtain ⟨hat, hid⟩ := findK_some h4.rise hf
  rw [← hp] at hat
  have hlow := h4.low
  have hown := own_setL b.cells w4 (p * 6) _ h4.own
  rw [jrs_setAll b hat] at hown
  have hbut : But (fun k => k = g) w4 (w4.setCells g (p * 6) b.cells) := by
    have h2 := setCells_below (B := 0) (g := g) (Nat.zero_le _) b.cells w4 (p * 6)
    exact ⟨h2.os, h2.tape, h2.output, h2.size, fun k _ hk => setCells_other _ _ _ _ hk⟩
  refine ⟨_, l.set p b, h4.place hat hid.symm hok hown hbut ?_, ?_, ?_, ?_⟩
  · refine own_base (own_kept hline fun k hk ho => hbut.block k hk fun e => ?_) (by omega)
    have := own_ge hline k ho
    omega
  · rw [hp, setJ_map h4.rise hf hid.symm]
  · exact (But.of_below hb).trans (hbut.wide fun k _ hk => .inr (by rw [hk]; rfl))
  · rintro k (hk | hk | ⟨y, hy, hk⟩)
    · exact .inl (.inl hk)
    · exact .inl (.inr (.inl hk))
    · rcases List.mem_or_eq_of_mem_set hy with h1 | h1
      · exact .inl (.inr (.inr ⟨y, h1, hk⟩))
      · subst h1
        exact .inr (own_ge hline k hk)

set_option maxRecDepth 100000 in
set_option maxHeartbeats 2000000 in
theorem amend_ok (B c : Nat) (v : Value) (l : List JR) (j : Jrn) (A : Option Addr) (cap Br : Nat) (w : World) (h : TomeAt w B c v l) (hR : Rd w Br 3 A j.lines.length (lins j.lines)) (hBr : Br ≤ w.heap.size) (h0 : A = none → cap = 0) (hE : checkE j = 0) (h1 : liveE (l.map JR.j) j.id = 0) (h2 : takenJ (l.map JR.j) j = false) :
    Calls Tryz.prog 30 #[.pointer (some ⟨c, 0, none⟩), j.val A j.lines.length cap] w fun e w' => e = .returned (.int .i64 0) ∧ TomeTo w B c v l (putK Jrn.id (l.map JR.j) j) w' := by
  have hn8 := (checkE_len hE).1
  have hrs := (checkE_len hE).2.2.2
  obtain ⟨W, hW⟩ : ∃ W, w.alloc (.cells #[.int .i64 j.id, .int .i64 j.ent, .int .i64 j.per, .string j.ref, .slice A j.lines.length cap, .bool j.void] 29) = W := ⟨_, rfl⟩
  have hbW : Below w.heap.size w W := by rw [← hW]; exact (Below.refl _ _).alloc (Nat.le_refl _) _
  have hzW : W.heap.size = w.heap.size + 1 := by rw [← hW]; simp
  have HW := Lib.hid hW
  have HBW := Lib.hid hbW
  have HRW : Hid (∀ w1, Below W.heap.size W w1 → Rd w1 Br 3 A j.lines.length (lins j.lines)) := fun w1 hb => hR.far (hbW.trans (hb.mono hbW.size)) hBr
  have HCW : Hid (∀ w1, Below W.heap.size W w1 → TomeAt w1 B c v l) := fun w1 hb => (h.below hbW).below hb
  have kc : Hid (Calls Tryz.prog 91 #[j.val A j.lines.length cap] W fun e w' => e = .returned (.int .i64 0) ∧ Below W.heap.size W w') := by
    have := check_any j A j.lines.length cap Br W (HRW.out W (Below.refl _ _)) (by omega) (by unfold maxLen; omega) (by unfold maxLen; omega)
    rwa [hE] at this
  have kp : Hid (∀ w1, Below W.heap.size W w1 → Calls Tryz.prog 97 #[.pointer (some ⟨c, 0, none⟩), .int .i64 j.id] w1 fun e w' => e = .returned (.tuple #[.int .i64 (posK JR.id l j.id : Nat), .int .i64 0]) ∧ Below w1.heap.size w1 w') := fun w1 hb => by
    have := live_any B c v l j.id w1 (HCW.out w1 hb)
    rwa [h1, if_pos rfl] at this
  have kr : Hid (∀ w1, Below W.heap.size W w1 → Calls Tryz.prog 93 #[.pointer (some ⟨c, 0, none⟩), j.val A j.lines.length cap] w1 fun e w' => e = .returned (.bool false) ∧ Below w1.heap.size w1 w') := fun w1 hb => by
    have := refTaken_any B c v l j A j.lines.length cap w1 (HCW.out w1 hb)
    rwa [h2] at this
  have ky : Hid (∀ w1, Below W.heap.size W w1 → Calls Tryz.prog 95 #[j.val A j.lines.length cap] w1 fun e w' => ∃ A' c', e = .returned (.agg #[.int .i64 j.id, .int .i64 j.ent, .int .i64 j.per, .string j.ref, .slice A' j.lines.length c', .bool j.void]) ∧ w'.ownsRow w1.heap.size 64 3 (.slice A' j.lines.length c') j.lines.length (lins j.lines) ∧ Below w1.heap.size w1 w') := fun w1 hb =>
    entryCopy_any j A j.lines.length cap Br w1 (HRW.out w1 hb) (by have := hb.size; omega) (by omega) h0
  have hlt0 := h.lt
  obtain ⟨a, hf, _⟩ := live_found h1
  have HF := Lib.hid hf
  obtain ⟨hat, _⟩ := findK_some h.rise hf
  have HAT := Lib.hid hat
  have hgw : ∃ g cap2, v = .slice (some ⟨g, 0, none⟩) l.length cap2 ∧ g < w.heap.size := by
    obtain ⟨g, cap2, e, _, hg, _⟩ := h.at hat
    exact ⟨g, cap2, e, hg⟩
  obtain ⟨g, cap2, rfl, hgw⟩ := hgw
  have HE := Lib.hid hE
  have hpl := (List.getElem?_eq_some_iff.1 hat).1
  have hlen := h.len
  clear h hR hE h1 h2 hW hbW hf hat
  obtain ⟨p, hp⟩ : ∃ p, p = posK JR.id l j.id := ⟨_, rfl⟩
  have HPP := Lib.hid hp
  rw [← hp] at kp HAT hpl
  clear hp
  unfold Jrn.val at *
  go_enter Tryz.func30, Tryz.ntmps30
  go_wp2_with fail
  rw [HW.out]
  refine kc.out.mono ?_
  rintro e w1 ⟨rfl, hb1⟩
  have HB1 := Lib.hid hb1
  obtain ⟨b0, b1, b2, b3, b4, b5⟩ := box6 HW.out hb1
  clear hb1
  go_wp2_with fail
  refine (kp.out w1 HB1.out).mono ?_
  rintro e w2 ⟨rfl, hb2⟩
  have HB2 : Hid (Below W.heap.size W w2) := HB1.out.trans (hb2.mono HB1.out.size)
  clear hb2 b0 b1 b2 b3 b4 b5
  obtain ⟨b0, b1, b2, b3, b4, b5⟩ := box6 HW.out HB2.out
  go_wp2_with fail
  refine (kr.out w2 HB2.out).mono ?_
  rintro e w3 ⟨rfl, hb3⟩
  have HB3 : Hid (Below W.heap.size W w3) := HB2.out.trans (hb3.mono HB2.out.size)
  clear hb3 b0 b1 b2 b3 b4 b5
  have hcc := (HCW.out w3 HB3.out).cell
  obtain ⟨b0, b1, b2, b3, b4, b5⟩ := box6 HW.out HB3.out
  have hz3 := HB3.out.size
  have hclt3 : c < w3.heap.size := by omega
  have hpI : (p : Int) < (l.length : Int) := by omega
  have KY : Hid (Calls Tryz.prog 95 #[.agg #[.int .i64 j.id, .int .i64 j.ent, .int .i64 j.per, .string j.ref, .slice A j.lines.length cap, .bool j.void]] w3.drew fun e w' => ∃ A' c', e = .returned (.agg #[.int .i64 j.id, .int .i64 j.ent, .int .i64 j.per, .string j.ref, .slice A' j.lines.length c', .bool j.void]) ∧ w'.ownsRow w3.heap.size 64 3 (.slice A' j.lines.length c') j.lines.length (lins j.lines) ∧ Below w3.heap.size w3 w') := by
    refine (ky.out w3.drew HB3.out.drew).mono ?_
    rintro e w4 ⟨A', c', rfl, hown, hb4⟩
    exact ⟨A', c', rfl, hown, (Below.refl _ w3).drew.trans hb4⟩
  clear kp kr kc ky
  go_wp2_with fail
  go_region_law (go_simp; go_at_call 95; refine KY.out.mono ?_; rintro e w4 ⟨A', c', rfl, hown, hbb⟩; have hcc4 := (hbb.cell (p := ⟨c, 0, none⟩) hclt3).trans hcc; have hcl4 : c < w4.heap.size := (by have := hbb.size; omega); have h4 := (HCW.out w3 HB3.out).below hbb; obtain ⟨g9, cap9, hv9, hpl9, hgl, hBg, hcs, hfz⟩ := h4.at HAT.out; injection hv9 with hv9 _ hv8; injection hv9 with hv9; injection hv9 with hv9; subst hv9 hv8; have p0 := hcs 0 _ rfl; rw [Nat.add_zero] at p0; have p1 := hcs 1 _ rfl; have p2 := hcs 2 _ rfl; have p3 := hcs 3 _ rfl; have p4 := hcs 4 _ rfl; have p5 := hcs 5 _ rfl; have HOW := Lib.hid hown; have HB4 := Lib.hid hbb; have H4 := Lib.hid h4; clear hown hbb h4 hcs)
  all_goals
    go_wp2_with fail
    go_ret
    have hbw3 : Below w.heap.size w w3 := HBW.out.trans (HB3.out.mono HBW.out.size)
    have hbw : Below w.heap.size w w4 := hbw3.trans (HB4.out.mono hbw3.size)
    exact ⟨rfl, TomeTo.amend (b := ⟨j, A', c'⟩) hbw H4.out hlt0 HF.out HPP.out HE.out hgw (own_base HOW.out hbw3.size)⟩

set_option maxRecDepth 100000 in
set_option maxHeartbeats 2000000 in
theorem amend_no (B c : Nat) (v : Value) (l : List JR) (j : Jrn) (A : Option Addr) (cap Br : Nat) (w : World) (h : TomeAt w B c v l) (hR : Rd w Br 3 A j.lines.length (lins j.lines)) (hBr : Br ≤ w.heap.size) (hN : j.lines.length ≤ maxLen) (hS : j.ref.size ≤ maxLen) (hE : amendE (l.map JR.j) j ≠ 0) :
    Calls Tryz.prog 30 #[.pointer (some ⟨c, 0, none⟩), j.val A j.lines.length cap] w fun e w' => e = .returned (.int .i64 (amendE (l.map JR.j) j)) ∧ TomeTo w B c v l (l.map JR.j) w' := by
  obtain ⟨W, hW⟩ : ∃ W, w.alloc (.cells #[.int .i64 j.id, .int .i64 j.ent, .int .i64 j.per, .string j.ref, .slice A j.lines.length cap, .bool j.void] 29) = W := ⟨_, rfl⟩
  have hbW : Below w.heap.size w W := by rw [← hW]; exact (Below.refl _ _).alloc (Nat.le_refl _) _
  have hzW : W.heap.size = w.heap.size + 1 := by rw [← hW]; simp
  have HW := Lib.hid hW
  have HFIN : Hid (∀ w1, Below W.heap.size W w1 → TomeTo w B c v l (l.map JR.j) w1) := fun w1 hb => TomeTo.same h (hbW.trans (hb.mono hbW.size))
  have HCW : Hid (∀ w1, Below W.heap.size W w1 → TomeAt w1 B c v l) := fun w1 hb => (h.below hbW).below hb
  have kc := Lib.hid (check_any j A j.lines.length cap Br W (hR.far hbW hBr) (by omega) hN hS)
  have kp : Hid (∀ w1, Below W.heap.size W w1 → Calls Tryz.prog 97 #[.pointer (some ⟨c, 0, none⟩), .int .i64 j.id] w1 fun e w' => e = .returned (.tuple #[.int .i64 (if liveE (l.map JR.j) j.id = 0 then (posK JR.id l j.id : Int) else 0), .int .i64 (liveE (l.map JR.j) j.id)]) ∧ Below w1.heap.size w1 w') := fun w1 hb =>
    live_any B c v l j.id w1 (HCW.out w1 hb)
  have kr : Hid (∀ w1, Below W.heap.size W w1 → Calls Tryz.prog 93 #[.pointer (some ⟨c, 0, none⟩), j.val A j.lines.length cap] w1 fun e w' => e = .returned (.bool (takenJ (l.map JR.j) j)) ∧ Below w1.heap.size w1 w') := fun w1 hb =>
    refTaken_any B c v l j A j.lines.length cap w1 (HCW.out w1 hb)
  have hlt0 := h.lt
  clear h hR hbW hW
  unfold maxLen at hN
  unfold Jrn.val at *
  by_cases h1 : checkE j = 0
  · rw [h1] at kc
    by_cases h2 : liveE (l.map JR.j) j.id = 0
    · rw [h2, if_pos rfl] at kp
      have h4 : takenJ (l.map JR.j) j = true := by
        cases h4 : takenJ (l.map JR.j) j
        · exact absurd (amendE_ok h1 h2 h4) hE
        · rfl
      rw [h4] at kr
      rw [amendE_ref h1 h2 h4]
      clear hE h1 h2 h4
      generalize posK JR.id l j.id = p at *
      go_enter Tryz.func30, Tryz.ntmps30
      go_wp2_with fail
      rw [HW.out]
      refine kc.out.mono ?_
      rintro e w1 ⟨rfl, hb1⟩
      have HB1 := Lib.hid hb1
      obtain ⟨b0, b1, b2, b3, b4, b5⟩ := box6 HW.out hb1
      clear hb1
      go_wp2_with fail
      refine (kp.out w1 HB1.out).mono ?_
      rintro e w2 ⟨rfl, hb2⟩
      have HB2 : Hid (Below W.heap.size W w2) := HB1.out.trans (hb2.mono HB1.out.size)
      clear hb2 b0 b1 b2 b3 b4 b5
      obtain ⟨b0, b1, b2, b3, b4, b5⟩ := box6 HW.out HB2.out
      go_wp2_with fail
      refine (kr.out w2 HB2.out).mono ?_
      rintro e w3 ⟨rfl, hb3⟩
      have HB3 : Hid (Below W.heap.size W w3) := HB2.out.trans (hb3.mono HB2.out.size)
      clear hb3 b0 b1 b2 b3 b4 b5
      go_wp2_with fail
      go_ret
      exact ⟨rfl, HFIN.out _ HB3.out⟩
    · rw [if_neg h2] at kp
      rw [amendE_live h1 h2]
      have hne : (liveE (l.map JR.j) j.id != 0) = true := by simpa using h2
      clear hE h1 h2
      generalize liveE (l.map JR.j) j.id = E at *
      go_enter Tryz.func30, Tryz.ntmps30
      go_wp2_with fail
      rw [HW.out]
      refine kc.out.mono ?_
      rintro e w1 ⟨rfl, hb1⟩
      have HB1 := Lib.hid hb1
      obtain ⟨b0, b1, b2, b3, b4, b5⟩ := box6 HW.out hb1
      clear hb1
      go_wp2_with fail
      refine (kp.out w1 HB1.out).mono ?_
      rintro e w2 ⟨rfl, hb2⟩
      have HB2 : Hid (Below W.heap.size W w2) := HB1.out.trans (hb2.mono HB1.out.size)
      clear hb2 b0 b1 b2 b3 b4 b5
      go_wp2_with fail
      go_ret
      exact ⟨rfl, HFIN.out _ HB2.out⟩
  · rw [amendE_check h1]
    have hne : (checkE j != 0) = true := by simpa using h1
    clear hE h1
    generalize checkE j = E at *
    go_enter Tryz.func30, Tryz.ntmps30
    go_wp2_with fail
    rw [HW.out]
    refine kc.out.mono ?_
    rintro e w1 ⟨rfl, hb1⟩
    have HB1 := Lib.hid hb1
    clear hb1
    go_wp2_with fail
    go_ret
    exact ⟨rfl, HFIN.out _ HB1.out⟩

theorem amend_any (B c : Nat) (v : Value) (l : List JR) (j : Jrn) (A : Option Addr) (cap Br : Nat) (w : World) (h : TomeAt w B c v l) (hR : Rd w Br 3 A j.lines.length (lins j.lines)) (hBr : Br ≤ w.heap.size) (h0 : A = none → cap = 0) (hN : j.lines.length ≤ maxLen) (hS : j.ref.size ≤ maxLen) :
    Calls Tryz.prog 30 #[.pointer (some ⟨c, 0, none⟩), j.val A j.lines.length cap] w fun e w' => e = .returned (.int .i64 (amendE (l.map JR.j) j)) ∧ TomeTo w B c v l (amendL (l.map JR.j) j) w' := by
  by_cases hE : amendE (l.map JR.j) j = 0
  · have h1 : checkE j = 0 := by
      cases (inferInstance : Decidable (checkE j = 0)) with
      | isTrue h => exact h
      | isFalse h => rw [amendE_check h] at hE; exact absurd hE h
    have h2 : liveE (l.map JR.j) j.id = 0 := by
      cases (inferInstance : Decidable (liveE (l.map JR.j) j.id = 0)) with
      | isTrue h => exact h
      | isFalse h => rw [amendE_live h1 h] at hE; exact absurd hE h
    have h3 : takenJ (l.map JR.j) j = false := by
      cases h3 : takenJ (l.map JR.j) j
      · rfl
      · rw [amendE_ref h1 h2 h3] at hE; cases hE
    unfold amendL
    rw [if_pos hE, hE]
    exact amend_ok B c v l j A cap Br w h hR hBr h0 h1 h2 h3
  · rw [amendL_no hE]
    exact amend_no B c v l j A cap Br w h hR hBr hN hS hE
set_option maxRecDepth 100000 in
theorem amend_nil (j : Jrn) (A : Option Addr) (n cap : Nat) (w : World) : Calls Tryz.prog 30 #[.pointer none, j.val A n cap] w fun e w' => e = .returned (.int .i64 1) ∧ Below w.heap.size w w' := by
  have HB : Hid (∀ o, Below w.heap.size w (w.alloc o)) := fun o => (Below.refl _ _).alloc (Nat.le_refl _) o
  unfold Jrn.val
  go_enter Tryz.func30, Tryz.ntmps30
  go_wp2
  go_ret
  exact ⟨rfl, HB.out _⟩
end Go.Proofs.YtmgncoialppmpaaGreat

