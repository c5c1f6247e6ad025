/-
  Contracts of (*Book).Post.
-/
import Derived.Test.YtjlokkjbdgcooaaGreatMany29
import Derived.Test.YtjlokkjbdgcooaaGreatMany30
import Derived.Deep.RegionLaw
namespace Go.Proofs.YtjlokkjbdgcooaaGreat
open Go.RowKit

theorem postE_check {M : List Jrn} {j : Jrn} (h : checkE j ≠ 0) : postE M j = checkE j := by unfold postE; rw [if_neg h]
theorem postE_dup {M : List Jrn} {j : Jrn} (h : checkE j = 0) (h1 : hasId M j.id = true) : postE M j = 7 := by unfold postE; rw [if_pos h, if_pos h1]
theorem postE_ref {M : List Jrn} {j : Jrn} (h : checkE j = 0) (h1 : hasId M j.id = false) (h2 : takenJ M j = true) : postE M j = 8 := by unfold postE; rw [if_pos h, h1, h2]; rfl
theorem postE_full {M : List Jrn} {j : Jrn} (h : checkE j = 0) (h1 : hasId M j.id = false) (h2 : takenJ M j = false) (h3 : 200 ≤ M.length) : postE M j = 13 := by unfold postE; rw [if_pos h, h1, h2, if_pos h3]; rfl
theorem postE_ok {M : List Jrn} {j : Jrn} (h : checkE j = 0) (h1 : hasId M j.id = false) (h2 : takenJ M j = false) (h3 : ¬ 200 ≤ M.length) : postE M j = 0 := by unfold postE; rw [if_pos h, h1, h2, if_neg h3]; rfl
theorem postL_no {M : List Jrn} {j : Jrn} (h : postE M j ≠ 0) : postL M j = M := by unfold postL; rw [if_neg h]

theorem own_slice {w : World} {base : Nat} {e : TypeId} {size n : Nat} {v : Value} {xs : List Value} (h : w.ownsRow base e size v n xs) : ∃ A m c, v = .slice A m c := by
  obtain ⟨A, c, h⟩ := own_form h
  exact ⟨A, n, c, h⟩
theorem TomeTo.put {w w4 w5 : World} {B c p : Nat} {v v5 : Value} {l : List JR} {a : JR} {o : Obj} (hb : Below w.heap.size w w4) (h4 : TomeAt w4 B c v l) (hc : c < w.heap.size) (hp : p = posK JR.id l a.j.id) (hf : (findK JR.id l a.j.id).isSome = false) (hok : checkE a.j = 0) (hl : l.length < 200)
    (hline : w4.ownsRow w.heap.size 113 3 a.lv a.j.lines.length (lins a.j.lines)) (hins : Inserted (w4.alloc o) B v (l.take p ++ a :: l.drop p) v5 w5) : TomeTo w B c v l (putK Jrn.id (l.map JR.j) a.j) (w5.setCell ⟨c, 0, none⟩ v5) := by
  obtain ⟨h1, h2, h3⟩ := hins
  have hz := hb.size
  have hz4 := h2.size
  have hlow := h4.low
  have hput : l.take p ++ a :: l.drop p = putK JR.id l a := by rw [putK_fresh hf, hp]; rfl
  have hmem : ∀ y, y ∈ l.take p ++ a :: l.drop p → y = a ∨ y ∈ l := fun y hy => by rw [hput] at hy; exact mem_put hy
  have hlt := h4.lt
  have hk5 : ∀ k, k < w4.heap.size → v.ownBlock ≠ some k → w5.heap[k]? = w4.heap[k]? := fun k hk hv => (h2.block k (by simp; omega) hv).trans (Below.heap_alloc w4 _ _ hk)
  have hc5 := hk5 c hlt h4.apart
  have hv5 : v5.ownBlock ≠ some c := by
    rcases h3 with h3 | h3
    · rw [h3]; exact h4.apart
    · rw [h3]; intro e; injection e with e; simp at e; omega
  have hset : ∀ k, k ≠ c → (w5.setCell ⟨c, 0, none⟩ v5).heap[k]? = w5.heap[k]? := fun k hk => Below.heap_setCell _ _ _ _ hk
  refine ⟨v5, l.take p ++ a :: l.drop p, ⟨?_, h4.low, ?_, fun y hy => ?_, ?_, ?_, fun y hy => ?_⟩, ?_, ?_, ?_⟩
  · rw [set_here (hc5.trans h4.blk)]; rfl
  · exact own_kept h1 fun k _ hk => hset k fun e => hv5 (by rw [← e]; exact hk)
  · rcases hmem y hy with rfl | hy
    · refine own_base (own_kept hline fun k hk ho => ?_) (by omega)
      have hge := own_ge hline k ho
      exact (hset k (by omega)).trans (hk5 k hk fun e => own_own_ne h4.own hline (by decide) k e ho)
    · refine own_kept (h4.lines y hy) fun k hk ho => (hset k fun e => ?_).trans (hk5 k hk fun e => h4.apartR hy k e ho)
      exact h4.apartL hy (by rw [← e]; exact ho)
  · rw [hput]; exact h4.rise.put a
  · have := posK_le (key := JR.id) l a.j.id
    simp; omega
  · rcases hmem y hy with rfl | hy
    · exact hok
    · exact h4.ok y hy
  · rw [hput]; exact (putK_map (key := Jrn.id) JR.j l a).symm
  · have b1 : But (fun k => k = c ∨ v.ownBlock = some k) w w4 := But.of_below hb
    have b2 : But (fun k => k = c ∨ v.ownBlock = some k) w4 (w4.alloc o) := But.of_below ((Below.refl _ _).alloc (Nat.le_refl _) _)
    exact ((b1.trans b2).trans (h2.wide fun k _ hk => .inr hk)).trans ⟨rfl, rfl, rfl, by simp, fun q _ hq => hset q fun e => hq (.inl e)⟩
  · rintro k (hk | hk | ⟨y, hy, hk⟩)
    · exact .inl (.inl hk)
    · rcases h3 with h3 | h3
      · exact .inl (.inr (.inl (h3 ▸ hk)))
      · rw [h3] at hk; injection hk with hk; simp at hk; exact .inr (by omega)
    · rcases hmem y hy with rfl | hy
      · exact .inr (own_ge hline k hk)
      · exact .inl (.inr (.inr ⟨y, hy, hk⟩))

set_option maxRecDepth 100000 in
set_option maxHeartbeats 2000000 in
theorem post_ok (B c : Nat) (v : Value) (l : List JR) (j : Jrn) (A : Option Addr) (cap Br : Nat) (w : World) (h : TomeAt w B c v l) (hR : Rd w Br 3 A j.lines.length (lins j.lines)) (hBr : Br ≤ w.heap.size) (h0 : A = none → cap = 0) (hE : checkE j = 0) (h1 : hasId (l.map JR.j) j.id = false) (h2 : takenJ (l.map JR.j) j = false) (h3 : ¬ 200 ≤ l.length) :
    Calls Tryz.prog 200 #[.pointer (some ⟨c, 0, none⟩), j.val A j.lines.length cap] w fun e w' => e = .returned (.int .i64 0) ∧ TomeTo w B c v l (putK Jrn.id (l.map JR.j) j) w' := by
  have hn8 := (checkE_len hE).1
  have hrs := (checkE_len hE).2.2.2
  obtain ⟨W, hW⟩ : ∃ W, w.alloc (.cells #[.int .i64 j.id, .int .i64 j.ent, .int .i64 j.per, .string j.ref, .slice A j.lines.length cap, .bool j.void] 111) = W := ⟨_, rfl⟩
  have hbW : Below w.heap.size w W := by rw [← hW]; exact (Below.refl _ _).alloc (Nat.le_refl _) _
  have hzW : W.heap.size = w.heap.size + 1 := by rw [← hW]; simp
  have HW := Lib.hid hW
  have HBW := Lib.hid hbW
  have HC := Lib.hid h
  have HRW : Hid (∀ w1, Below W.heap.size W w1 → Rd w1 Br 3 A j.lines.length (lins j.lines)) := fun w1 hb => hR.far (hbW.trans (hb.mono hbW.size)) hBr
  have HCW : Hid (∀ w1, Below W.heap.size W w1 → TomeAt w1 B c v l) := fun w1 hb => (h.below hbW).below hb
  have kc : Hid (Calls Tryz.prog 138 #[j.val A j.lines.length cap] W fun e w' => e = .returned (.int .i64 0) ∧ Below W.heap.size W w') := by
    have := check_any j A j.lines.length cap Br W (HRW.out W (Below.refl _ _)) (by omega) (by unfold maxLen; omega) (by unfold maxLen; omega)
    rwa [hE] at this
  have kp : Hid (∀ w1, Below W.heap.size W w1 → Calls Tryz.prog 221 #[.pointer (some ⟨c, 0, none⟩), .int .i64 j.id] w1 fun e w' => e = .returned (.tuple #[.int .i64 (posK JR.id l j.id : Nat), .bool false]) ∧ Below w1.heap.size w1 w') := fun w1 hb => by
    have := place_any B c v l j.id w1 (HCW.out w1 hb)
    rwa [← hasId_map, h1] at this
  have kr : Hid (∀ w1, Below W.heap.size W w1 → Calls Tryz.prog 222 #[.pointer (some ⟨c, 0, none⟩), j.val A j.lines.length cap] w1 fun e w' => e = .returned (.bool false) ∧ Below w1.heap.size w1 w') := fun w1 hb => by
    have := refTaken_any B c v l j A j.lines.length cap w1 (HCW.out w1 hb)
    rwa [h2] at this
  have ky : Hid (∀ w1, Below W.heap.size W w1 → Calls Tryz.prog 204 #[j.val A j.lines.length cap] w1 fun e w' => ∃ A' c', e = .returned (.agg #[.int .i64 j.id, .int .i64 j.ent, .int .i64 j.per, .string j.ref, .slice A' j.lines.length c', .bool j.void]) ∧ w'.ownsRow w1.heap.size 113 3 (.slice A' j.lines.length c') j.lines.length (lins j.lines) ∧ Below w1.heap.size w1 w') := fun w1 hb =>
    entryCopy_any j A j.lines.length cap Br w1 (HRW.out w1 hb) (by have := hb.size; omega) (by omega) h0
  have HPF : Hid ((findK JR.id l j.id).isSome = false) := by rw [← hasId_map]; exact h1
  have hple := posK_le (key := JR.id) l j.id
  have hl3 : ¬ (200 : Int) ≤ (l.length : Int) := by omega
  have hlt0 := h.lt
  obtain ⟨Av, capv, rfl⟩ := h.form
  have HE := Lib.hid hE
  clear h hR hE h1 h2 hW hbW
  have HP : Hid (posK JR.id l j.id = posK JR.id l j.id) := rfl
  obtain ⟨p, hp⟩ : ∃ p, p = posK JR.id l j.id := ⟨_, rfl⟩
  have HPP := Lib.hid hp
  rw [← hp] at kp hple
  clear hp HP
  unfold Jrn.val at *
  go_enter Tryz.func200, Tryz.ntmps200
  go_wp2_with fail
  rw [HW.out]
  refine kc.out.mono ?_
  rintro e w1 ⟨rfl, hb1⟩
  have HB1 := Lib.hid hb1
  obtain ⟨b0, b1, b2, b3, b4, b5⟩ := box6 HW.out hb1
  clear hb1
  go_wp2_with fail
  refine (kp.out w1 HB1.out).mono ?_
  rintro e w2 ⟨rfl, hb2⟩
  have HB2 : Hid (Below W.heap.size W w2) := HB1.out.trans (hb2.mono HB1.out.size)
  clear hb2 b0 b1 b2 b3 b4 b5
  obtain ⟨b0, b1, b2, b3, b4, b5⟩ := box6 HW.out HB2.out
  go_wp2_with fail
  refine (kr.out w2 HB2.out).mono ?_
  rintro e w3 ⟨rfl, hb3⟩
  have HB3 : Hid (Below W.heap.size W w3) := HB2.out.trans (hb3.mono HB2.out.size)
  clear hb3 b0 b1 b2 b3 b4 b5
  have hcc := (HCW.out w3 HB3.out).cell
  obtain ⟨b0, b1, b2, b3, b4, b5⟩ := box6 HW.out HB3.out
  have hz3 := HB3.out.size
  have hclt3 : c < w3.heap.size := by omega
  have HIN : Hid (∀ w4 A' c', Below w3.heap.size w3 w4 → Calls Tryz.prog 223 #[.slice Av l.length capv, .int .i64 p, .slice (some ⟨w4.heap.size, 0, none⟩) 1 1] (w4.alloc (.cells #[.int .i64 j.id, .int .i64 j.ent, .int .i64 j.per, .string j.ref, .slice A' j.lines.length c', .bool j.void] 111)) fun e w' => ∃ v', e = .returned v' ∧ Inserted (w4.alloc (.cells #[.int .i64 j.id, .int .i64 j.ent, .int .i64 j.per, .string j.ref, .slice A' j.lines.length c', .bool j.void] 111)) B (.slice Av l.length capv) (l.take p ++ ⟨j, A', c'⟩ :: l.drop p) v' w') := fun w4 A' c' hb => by
    have h4 := (HCW.out w3 HB3.out).below hb
    exact insert_any l ⟨j, A', c'⟩ B w4.heap.size p l.length capv Av _ rfl (own_kept h4.own fun q hq _ => Below.heap_alloc w4 _ _ hq) (heap_new w4 _) (fun e => by have := own_lt h4.own _ e; omega) (by omega) (by have := h4.low; have := h4.lt; simp; omega) hple
  have KY : Hid (Calls Tryz.prog 204 #[.agg #[.int .i64 j.id, .int .i64 j.ent, .int .i64 j.per, .string j.ref, .slice A j.lines.length cap, .bool j.void]] w3.drew fun e w' => ∃ A' c', e = .returned (.agg #[.int .i64 j.id, .int .i64 j.ent, .int .i64 j.per, .string j.ref, .slice A' j.lines.length c', .bool j.void]) ∧ w'.ownsRow w3.heap.size 113 3 (.slice A' j.lines.length c') j.lines.length (lins j.lines) ∧ Below w3.heap.size w3 w') := by
    refine (ky.out w3.drew HB3.out.drew).mono ?_
    rintro e w4 ⟨A', c', rfl, hown, hb4⟩
    exact ⟨A', c', rfl, hown, (Below.refl _ w3).drew.trans hb4⟩
  clear kp kr kc ky
  go_wp2_with fail
  go_region_law (first
    | (go_simp; go_at_call 204; refine KY.out.mono ?_; rintro e w4 ⟨A', c', rfl, hown, hbb⟩; have hcc4 := (hbb.cell (p := ⟨c, 0, none⟩) hclt3).trans hcc; have hcl4 : c < w4.heap.size := (by have := hbb.size; omega); have HOW := Lib.hid hown; have HB4 := Lib.hid hbb; clear hown hbb)
    | (go_simp; go_at_call 223; refine (HIN.out _ _ _ HB4.out).mono ?_; rintro e w5 ⟨v5, rfl, hins⟩; obtain ⟨A5, m5, c5, rfl⟩ := own_slice hins.1; have hb5 : w5.heap[c]? = w4.heap[c]? := (hins.2.1.block c (by simp; omega) (HCW.out w3 HB3.out).apart).trans (Below.heap_alloc w4 _ _ hcl4); have hblk := hb5.trans (((HCW.out w3 HB3.out).below HB4.out).blk); have hc5 : w5.cell? ⟨c, 0, none⟩ = some (.slice Av l.length capv) := (by rw [cell_of hblk]; rfl); have hf5 := warm_of hblk 0; have HIN5 := Lib.hid hins; clear hins hb5 hblk))
  all_goals
    go_wp2_with fail
    go_ret
    have hbw3 : Below w.heap.size w w3 := HBW.out.trans (HB3.out.mono HBW.out.size)
    have hbw : Below w.heap.size w w4 := hbw3.trans (HB4.out.mono hbw3.size)
    exact ⟨rfl, TomeTo.put (a := ⟨j, A', c'⟩) hbw ((HCW.out w3 HB3.out).below HB4.out) hlt0 HPP.out HPF.out HE.out (by omega) (own_base HOW.out hbw3.size) HIN5.out⟩

set_option maxRecDepth 100000 in
set_option maxHeartbeats 2000000 in
theorem post_no (B c : Nat) (v : Value) (l : List JR) (j : Jrn) (A : Option Addr) (cap Br : Nat) (w : World) (h : TomeAt w B c v l) (hR : Rd w Br 3 A j.lines.length (lins j.lines)) (hBr : Br ≤ w.heap.size) (hN : j.lines.length ≤ maxLen) (hS : j.ref.size ≤ maxLen) (hE : postE (l.map JR.j) j ≠ 0) :
    Calls Tryz.prog 200 #[.pointer (some ⟨c, 0, none⟩), j.val A j.lines.length cap] w fun e w' => e = .returned (.int .i64 (postE (l.map JR.j) j)) ∧ TomeTo w B c v l (l.map JR.j) w' := by
  obtain ⟨W, hW⟩ : ∃ W, w.alloc (.cells #[.int .i64 j.id, .int .i64 j.ent, .int .i64 j.per, .string j.ref, .slice A j.lines.length cap, .bool j.void] 111) = W := ⟨_, rfl⟩
  have hbW : Below w.heap.size w W := by rw [← hW]; exact (Below.refl _ _).alloc (Nat.le_refl _) _
  have hzW : W.heap.size = w.heap.size + 1 := by rw [← hW]; simp
  have HW := Lib.hid hW
  have HFIN : Hid (∀ w1, Below W.heap.size W w1 → TomeTo w B c v l (l.map JR.j) w1) := fun w1 hb => TomeTo.same h (hbW.trans (hb.mono hbW.size))
  have HCW : Hid (∀ w1, Below W.heap.size W w1 → TomeAt w1 B c v l) := fun w1 hb => (h.below hbW).below hb
  have kc := Lib.hid (check_any j A j.lines.length cap Br W (hR.far hbW hBr) (by omega) hN hS)
  have kp : Hid (∀ w1, Below W.heap.size W w1 → Calls Tryz.prog 221 #[.pointer (some ⟨c, 0, none⟩), .int .i64 j.id] w1 fun e w' => e = .returned (.tuple #[.int .i64 (posK JR.id l j.id : Nat), .bool (hasId (l.map JR.j) j.id)]) ∧ Below w1.heap.size w1 w') := fun w1 hb => by
    have := place_any B c v l j.id w1 (HCW.out w1 hb)
    rwa [← hasId_map] at this
  have kr : Hid (∀ w1, Below W.heap.size W w1 → Calls Tryz.prog 222 #[.pointer (some ⟨c, 0, none⟩), j.val A j.lines.length cap] w1 fun e w' => e = .returned (.bool (takenJ (l.map JR.j) j)) ∧ Below w1.heap.size w1 w') := fun w1 hb =>
    refTaken_any B c v l j A j.lines.length cap w1 (HCW.out w1 hb)
  have hlt0 := h.lt
  obtain ⟨Av, capv, rfl⟩ := h.form
  have hlen := h.len
  clear h hR hbW hW
  unfold maxLen at hN
  unfold Jrn.val at *
  by_cases h1 : checkE j = 0
  · rw [h1] at kc
    cases h2 : hasId (l.map JR.j) j.id
    · rw [h2] at kp
      cases h4 : takenJ (l.map JR.j) j
      · rw [h4] at kr
        have h5 : 200 ≤ (l.map JR.j).length := by
          rcases Nat.lt_or_ge (l.map JR.j).length 200 with h5 | h5
          · exact absurd (postE_ok h1 h2 h4 (by omega)) hE
          · exact h5
        rw [postE_full h1 h2 h4 h5]
        rw [List.length_map] at h5
        have hI : (200 : Int) ≤ (l.length : Int) := by omega
        clear hE h1 h2 h4 h5
        generalize posK JR.id l j.id = p at *
        go_enter Tryz.func200, Tryz.ntmps200
        go_wp2_with fail
        rw [HW.out]
        refine kc.out.mono ?_
        rintro e w1 ⟨rfl, hb1⟩
        have HB1 := Lib.hid hb1
        obtain ⟨b0, b1, b2, b3, b4, b5⟩ := box6 HW.out hb1
        clear hb1
        go_wp2_with fail
        refine (kp.out w1 HB1.out).mono ?_
        rintro e w2 ⟨rfl, hb2⟩
        have HB2 : Hid (Below W.heap.size W w2) := HB1.out.trans (hb2.mono HB1.out.size)
        clear hb2 b0 b1 b2 b3 b4 b5
        obtain ⟨b0, b1, b2, b3, b4, b5⟩ := box6 HW.out HB2.out
        go_wp2_with fail
        refine (kr.out w2 HB2.out).mono ?_
        rintro e w3 ⟨rfl, hb3⟩
        have HB3 : Hid (Below W.heap.size W w3) := HB2.out.trans (hb3.mono HB2.out.size)
        clear hb3 b0 b1 b2 b3 b4 b5
        have hcc := (HCW.out w3 HB3.out).cell
        go_wp2_with fail
        go_ret
        exact ⟨rfl, HFIN.out _ HB3.out⟩
      · rw [h4] at kr
        rw [postE_ref h1 h2 h4]
        clear hE h1 h2 h4
        generalize posK JR.id l j.id = p at *
        go_enter Tryz.func200, Tryz.ntmps200
        go_wp2_with fail
        rw [HW.out]
        refine kc.out.mono ?_
        rintro e w1 ⟨rfl, hb1⟩
        have HB1 := Lib.hid hb1
        obtain ⟨b0, b1, b2, b3, b4, b5⟩ := box6 HW.out hb1
        clear hb1
        go_wp2_with fail
        refine (kp.out w1 HB1.out).mono ?_
        rintro e w2 ⟨rfl, hb2⟩
        have HB2 : Hid (Below W.heap.size W w2) := HB1.out.trans (hb2.mono HB1.out.size)
        clear hb2 b0 b1 b2 b3 b4 b5
        obtain ⟨b0, b1, b2, b3, b4, b5⟩ := box6 HW.out HB2.out
        go_wp2_with fail
        refine (kr.out w2 HB2.out).mono ?_
        rintro e w3 ⟨rfl, hb3⟩
        have HB3 : Hid (Below W.heap.size W w3) := HB2.out.trans (hb3.mono HB2.out.size)
        clear hb3 b0 b1 b2 b3 b4 b5
        go_wp2_with fail
        go_ret
        exact ⟨rfl, HFIN.out _ HB3.out⟩
    · rw [h2] at kp
      rw [postE_dup h1 h2]
      clear hE h1 h2
      generalize posK JR.id l j.id = p at *
      go_enter Tryz.func200, Tryz.ntmps200
      go_wp2_with fail
      rw [HW.out]
      refine kc.out.mono ?_
      rintro e w1 ⟨rfl, hb1⟩
      have HB1 := Lib.hid hb1
      obtain ⟨b0, b1, b2, b3, b4, b5⟩ := box6 HW.out hb1
      clear hb1
      go_wp2_with fail
      refine (kp.out w1 HB1.out).mono ?_
      rintro e w2 ⟨rfl, hb2⟩
      have HB2 : Hid (Below W.heap.size W w2) := HB1.out.trans (hb2.mono HB1.out.size)
      clear hb2 b0 b1 b2 b3 b4 b5
      go_wp2_with fail
      go_ret
      exact ⟨rfl, HFIN.out _ HB2.out⟩
  · rw [postE_check h1]
    have hne : (checkE j != 0) = true := by simpa using h1
    clear hE h1
    generalize checkE j = E at *
    go_enter Tryz.func200, Tryz.ntmps200
    go_wp2_with fail
    rw [HW.out]
    refine kc.out.mono ?_
    rintro e w1 ⟨rfl, hb1⟩
    have HB1 := Lib.hid hb1
    clear hb1
    go_wp2_with fail
    go_ret
    exact ⟨rfl, HFIN.out _ HB1.out⟩

theorem post_any (B c : Nat) (v : Value) (l : List JR) (j : Jrn) (A : Option Addr) (cap Br : Nat) (w : World) (h : TomeAt w B c v l) (hR : Rd w Br 3 A j.lines.length (lins j.lines)) (hBr : Br ≤ w.heap.size) (h0 : A = none → cap = 0) (hN : j.lines.length ≤ maxLen) (hS : j.ref.size ≤ maxLen) :
    Calls Tryz.prog 200 #[.pointer (some ⟨c, 0, none⟩), j.val A j.lines.length cap] w fun e w' => e = .returned (.int .i64 (postE (l.map JR.j) j)) ∧ TomeTo w B c v l (postL (l.map JR.j) j) w' := by
  by_cases hE : postE (l.map JR.j) j = 0
  · have h1 : checkE j = 0 := by
      cases (inferInstance : Decidable (checkE j = 0)) with
      | isTrue h => exact h
      | isFalse h => rw [postE_check h] at hE; exact absurd hE h
    have h2 : hasId (l.map JR.j) j.id = false := by
      cases h2 : hasId (l.map JR.j) j.id
      · rfl
      · rw [postE_dup h1 h2] at hE; cases hE
    have h3 : takenJ (l.map JR.j) j = false := by
      cases h3 : takenJ (l.map JR.j) j
      · rfl
      · rw [postE_ref h1 h2 h3] at hE; cases hE
    have h4 : ¬ 200 ≤ (l.map JR.j).length := fun h4 => by rw [postE_full h1 h2 h3 h4] at hE; cases hE
    rw [List.length_map] at h4
    unfold postL
    rw [if_pos hE, hE]
    exact post_ok B c v l j A cap Br w h hR hBr h0 h1 h2 h3 h4
  · rw [postL_no hE]
    exact post_no B c v l j A cap Br w h hR hBr hN hS hE
set_option maxRecDepth 100000 in
theorem post_nil (j : Jrn) (A : Option Addr) (n cap : Nat) (w : World) : Calls Tryz.prog 200 #[.pointer none, j.val A n cap] w fun e w' => e = .returned (.int .i64 1) ∧ Below w.heap.size w w' := by
  have HB : Hid (∀ o, Below w.heap.size w (w.alloc o)) := fun o => (Below.refl _ _).alloc (Nat.le_refl _) o
  unfold Jrn.val
  go_enter Tryz.func200, Tryz.ntmps200
  go_wp2
  go_ret
  exact ⟨rfl, HB.out _⟩
end Go.Proofs.YtjlokkjbdgcooaaGreat

