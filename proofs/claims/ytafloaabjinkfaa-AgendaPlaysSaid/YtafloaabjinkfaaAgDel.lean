/-
  Contracts of slices.DeleteFunc and container/heap's Init over agenda's queue, and of (*Agenda).Take.
-/
import Derived.Test.YtafloaabjinkfaaAgTake
namespace Go.Proofs.Ytafloaabjinkfaa
open Go.RowKit Go.Sort

set_option maxRecDepth 100000 in
set_option maxHeartbeats 1000000 in
theorem del_nil (F : Value) (w : World) : Calls Try.prog 18 #[.slice none 0 0, F] w fun e w' => e = .returned (.slice none 0 0) ∧ w = w' := by
  have K := Lib.hid (index_nil F)
  go_enter Try.func18, Try.ntmps18
  go_wp2_with fail
  refine (K.out _).mono ?_
  rintro e w1 ⟨rfl, rfl⟩
  go_wp2_with fail
  go_ret
  exact ⟨rfl, rfl⟩
set_option maxRecDepth 100000 in
set_option maxHeartbeats 2000000 in
theorem del_any (g n c q : Nat) (f : Nat → Itm) (i : Int) (w : World) (h : RRow w g c n f) (hq : w.cell? ⟨q, 0, none⟩ = some (.int .i64 i)) (hne : q ≠ g) (hn : n ≤ 1000000) :
    Calls Try.prog 18 #[.slice (some ⟨g, 0, none⟩) n c, .func (.func 19) #[] #[.pointer (some ⟨q, 0, none⟩)]] w fun e w' => ∃ m f', e = .returned (.slice (some ⟨g, 0, none⟩) m c) ∧ RRow w' g c m f' ∧ lst f' m = keepI i (lst f n) ∧ w.grownBy w' (some g) := by
  have hnc : n ≤ c := by obtain ⟨_, _, a, b, _⟩ := h; exact a
  have hcm : c ≤ maxLen := by obtain ⟨_, _, a, b, _⟩ := h; exact b
  unfold maxLen at hcm
  have K := Lib.hid (index_any g n c q f i w h hq)
  have H := Lib.hid h; have HQ := Lib.hid hq; have HNE := Lib.hid hne
  clear h hq hne
  go_enter Try.func18, Try.ntmps18
  go_wp2_with fail
  refine K.out.mono ?_
  rintro e w1 ⟨⟨r, rfl, hr⟩, hb1⟩
  have HB1 := Lib.hid hb1
  clear hb1
  rcases hr with ⟨rfl, hall⟩ | ⟨p, rfl, hp, hid, hbef⟩
  · have HALL := Lib.hid hall
    clear hall
    go_wp2_with fail
    go_ret
    exact ⟨n, f, rfl, H.out.laid HB1.out, (keep_all HALL.out).symm, grown_of_below HB1.out⟩
  · have hpm : ((p : Int) == -1) = false := by simp
    have HID := Lib.hid hid; have HBEF := Lib.hid hbef
    have H0 : Hid (lst f p = keepI i (lst f (p + 1))) := (keep_step (f1 := f) (i := i) (k := p) (p := p) (keep_all hbef).symm).1 hid
    clear hid hbef
    go_wp2_with fail
    go_loopw [5, 6, 7] (fun iv jv _ wr => ∃ (m k : Nat) (f1 : Nat → Itm), m < k ∧ k ≤ n ∧ iv = .int .i64 m ∧ jv = .int .i64 k ∧ Hid (RRow wr g c n f1) ∧ Hid (lst f1 m = keepI i (lst f k)) ∧ Hid (∀ j, k ≤ j → j < n → f1 j = f j) ∧ Hid (w.grownBy wr (some g))) (fun _ jv _ _ => n - (intOf jv).toNat)
    case atStart => exact ⟨p, p + 1, f, by omega, by omega, rfl, by go_num, H.out.laid HB1.out, H0.out, fun _ _ _ => rfl, grown_of_below HB1.out⟩
    case round =>
      obtain ⟨m, k, f1, hmk, hk, rfl, rfl, HR, HL, HS, HG⟩ := hrel
      by_cases hlt : k < n
      · have hkI : (k : Int) < (n : Int) := by omega
        have hmI : (m : Int) < (n : Int) := by omega
        obtain ⟨c0, c1, c2⟩ := HR.out.cells hlt
        have hfk := HS.out k (Nat.le_refl _) hlt
        rw [hfk] at c0 c1 c2
        have hgl := HR.out.lt
        have hq1 : wr.cell? ⟨q, 0, none⟩ = some (.int .i64 i) := (World.cell?_of_block (HG.out.block q (block_of_cell HQ.out) (fun e => HNE.out (by injection e)))).trans HQ.out
        obtain ⟨W2, hW2⟩ : ∃ W2, wr.alloc (.cells #[.int .i64 (f k).per, .int .i64 (f k).rk, .int .i64 (f k).id] 33) = W2 := ⟨_, rfl⟩
        have hb2 : Below wr.heap.size wr W2 := by rw [← hW2]; exact (Below.refl _ _).alloc (Nat.le_refl _) _
        have hx := heap_new wr (.cells #[.int .i64 (f k).per, .int .i64 (f k).rk, .int .i64 (f k).id] 33)
        rw [hW2] at hx
        have KI := Lib.hid (isId_any (f k) i q W2 ((hb2.cell (block_of_cell hq1)).trans hq1))
        have HB2 := Lib.hid hb2; have HX := Lib.hid hx; have HW2 := Lib.hid hW2
        have HST := Lib.hid (keep_step (k := k) HL.out)
        clear hfk hq1 hb2 hx hW2
        go_wp2_with fail
        rw [HW2.out]
        refine KI.out.mono ?_
        rintro e w3 ⟨rfl, hb3⟩
        have hx3 := (hb3.block _ (lt_of_blk HX.out)).trans HX.out
        obtain ⟨x0, x1, x2⟩ := cells3_regrown hx3
        have hr3 := (HR.out.laid HB2.out).laid hb3
        have HG3 : Hid (w.grownBy w3 (some g)) := grown_laid (grown_laid HG.out HB2.out) hb3
        by_cases he : (f k).id = i
        · have t1 : ((f k).id == i) = true := by simpa using he
          have HL3 := Lib.hid (HST.out.1 he)
          have HR3 := Lib.hid hr3
          clear he hr3 hx3 hb3
          go_wp2_with fail
          exact ⟨⟨m, k + 1, f1, by omega, by omega, rfl, by go_num, HR3, HL3, fun j hj hjn => HS.out j (by omega) hjn, HG3⟩, by simp [intOf]; omega⟩
        · have t1 : ((f k).id == i) = false := by simpa using he
          have HL3 := Lib.hid (HST.out.2 he)
          have hf3 := hr3.warm
          have hgl3 := hr3.lt
          obtain ⟨d0, d1, d2⟩ := hr3.cells (k := m) (by omega)
          obtain ⟨hs1, hs2⟩ := setItm_row (f k) hr3 (i := m) (by omega)
          have HR4 := Lib.hid hs1; have HG4 : Hid (w.grownBy (setItm w3 g m (f k)) (some g)) := HG3.out.trans hs2
          clear he hr3 hx3 hb3 hs1 hs2
          go_wp2_with fail
          refine ⟨⟨m + 1, k + 1, put f1 m (f k), by omega, by omega, by go_num, by go_num, HR4, HL3, fun j hj hjn => ?_, HG4⟩, by simp [intOf]; omega⟩
          simp only [put, if_neg (show ¬ j = m by omega)]
          exact HS.out j (by omega) hjn
      · obtain rfl : k = n := by omega
        have hcl := fun ty => run_clear_itms wr g c k m (c - m) f1 HR.out hmk ty
        have HC := Lib.hid (cleared_row (zerosI (k - m)) HR.out (show m ≤ k by omega))
        have HGC := Lib.hid (HG.out.trans (grown_sets g (zerosI (k - m)) (m * 3) wr))
        have hmkI : (m : Int) ≤ (k : Int) := by omega
        have hmc : m ≤ c := by omega
        have hmc2 : ¬ c = m := by omega
        have hgl := HR.out.lt
        generalize wr.setCells g (m * 3) (zerosI (k - m)) = W9 at *
        go_wp2_with fail
        go_ret
        exact ⟨m, f1, rfl, HC.out, HL.out, HGC.out⟩
set_option maxRecDepth 100000 in
set_option maxHeartbeats 1000000 in
theorem init_nil (b : Nat) (w : World) (hc : w.cell? ⟨b, 0, none⟩ = some (.slice none 0 0)) : Calls Try.prog 20 #[.iface 49 (.pointer (some ⟨b, 0, none⟩))] w fun e w' => e = .returned (.tuple #[]) ∧ w = w' := by
  have hm := method_len b w _ hc
  go_enter Try.func20, Try.ntmps20
  go_wp2_with fail
  refine (lenI_any none 0 0 w (by unfold maxLen; omega)).mono ?_
  rintro e w' ⟨rfl, rfl⟩
  go_wp2_with fail
  go_loopw [3] (fun iv wr => iv = .int .i64 (-1) ∧ wr = w) (fun _ _ => 0)
  case atStart => exact ⟨by first | rfl | go_num, rfl⟩
  case round =>
    obtain ⟨rfl, rfl⟩ := hrel
    go_wp2_with fail
    go_end0
    exact ⟨rfl, rfl⟩
set_option maxRecDepth 100000 in
set_option maxHeartbeats 1000000 in
theorem init_any (b g n cap : Nat) (f : Nat → Itm) (w : World) (hb : Box w b g n cap) (hr : RRow w g cap n f) (hsm : n < 1000000) :
    Calls Try.prog 20 #[.iface 49 (.pointer (some ⟨b, 0, none⟩))] w fun e w' => e = .returned (.tuple #[]) ∧ ∃ f', RRow w' g cap n f' ∧ Hp.Heap itmLt n f' ∧ Hp.Perm n f f' ∧ w.grownBy w' (some g) := by
  have hm := method_len b w _ hb.cell
  obtain ⟨h, hh⟩ : ∃ h : Nat, h = n / 2 := ⟨_, rfl⟩
  have hhI : ((n : Int) / 2) = (h : Int) := by omega
  have hh2 : h * 2 ≤ n := by omega
  have HS0 : Hid (Hp.HeapS itmLt n h f) := by rw [hh]; exact Hp.HeapS.start itmLt n f
  clear hh
  go_enter Try.func20, Try.ntmps20
  go_wp2_with fail
  refine (lenI_any _ n cap w (by unfold maxLen; omega)).mono ?_
  rintro e w' ⟨rfl, rfl⟩
  go_wp2_with fail
  go_loopw [3] (fun iv wr => ∃ (m : Nat) (f1 : Nat → Itm), m ≤ h ∧ iv = .int .i64 ((m : Int) - 1) ∧ Hid (RRow wr g cap n f1) ∧ Hid (Hp.HeapS itmLt n m f1) ∧ Hid (Hp.Perm n f f1) ∧ Hid (w.grownBy wr (some g))) (fun iv _ => (intOf iv + 1).toNat)
  case atStart => exact ⟨h, f, Nat.le_refl _, by first | rfl | go_num, hr, HS0, Hp.Perm.refl _ _, World.grownBy.refl _ _⟩
  case round =>
    obtain ⟨m, f1, hmh, rfl, HR, HH, HP, HG⟩ := hrel
    cases m with
    | zero =>
      go_wp2_with fail
      go_end0
      exact ⟨rfl, f1, HR.out, HH.out.all, HP.out, HG.out⟩
    | succ m =>
      have e1 : ((m + 1 : Nat) : Int) - 1 = (m : Int) := by omega
      rw [e1]
      have hge : (m : Int) ≥ 0 := by omega
      go_wp2_with fail
      refine (down_any b g n cap n m m f1 wr (hb.grown HG.out) HR.out HH.out.down (Nat.le_refl _) (Nat.le_refl _) (by omega) hsm).mono ?_
      rintro e w2 ⟨⟨x, rfl⟩, f2, hr2, hh2', hp2, hg2⟩
      have H1 := Lib.hid hr2; have H2 := Lib.hid hh2'; have H3 := Lib.hid (HP.out.trans hp2); have H4 := Lib.hid (HG.out.trans hg2)
      clear hr2 hh2' hp2 hg2
      go_wp2_with fail
      exact ⟨⟨m, f2, by omega, by go_num, H1, H2, H3, H4⟩, by simp [intOf]⟩
/-- What is left, as a list that rises. -/
theorem keep_rises {L : List Itm} (i : Int) (h : Rises L) : Rises (keepI i L) := by unfold Rises keepI at *; exact h.sublist List.filter_sublist
theorem keep_perm {L M : List Itm} (i : Int) (h : L.Perm M) : (keepI i L).Perm (keepI i M) := by unfold keepI; exact h.filter _
theorem keep_len (i : Int) (L : List Itm) : (keepI i L).length ≤ L.length := by unfold keepI; exact List.length_filter_le _ _
set_option maxRecDepth 100000 in
theorem agTake_nil (i : Int) (w : World) : Calls Try.prog 12 #[.pointer none, .int .i64 i] w fun e w' => e = .returned (.int .i64 0) ∧ Below w.heap.size w w' := by
  go_enter Try.func12, Try.ntmps12
  go_wp2
  go_ret
  exact ⟨rfl, (Below.refl _ _).alloc (Nat.le_refl _) _⟩
set_option maxRecDepth 100000 in
set_option maxHeartbeats 2000000 in
theorem agTake_any (i : Int) {w : World} {B b : Nat} {v : Value} {L : List Itm} (h : AgAt w B b v L) :
    Calls Try.prog 12 #[.pointer (some ⟨b, 0, none⟩), .int .i64 i] w fun e w' => e = .returned (.int .i64 ((L.length : Int) - ((keepI i L).length : Int))) ∧ AgStay w B b v (keepI i L) w' := by
  obtain ⟨W1, hW1⟩ : ∃ W1, w.alloc (.cells #[.int .i64 i] 3) = W1 := ⟨_, rfl⟩
  have hb1 : Below w.heap.size w W1 := by rw [← hW1]; exact (Below.refl _ _).alloc (Nat.le_refl _) _
  have hq : W1.heap[w.heap.size]? = some (.cells #[.int .i64 i] 3 (0, 0)) := by rw [← hW1]; exact heap_new w _
  have hq0 : W1.cell? ⟨w.heap.size, 0, none⟩ = some (.int .i64 i) := by rw [cell_of hq]; rfl
  have h1 := h.below hb1
  have hl := h.len
  have hA : Hid (∀ k, InAg b v k → k < w.heap.size) := h.ltB
  have hkl := keep_len i L
  have HW := Lib.hid hW1; have HB1 := Lib.hid hb1
  have hcw := h.cell
  have hbw := h.lt
  clear hW1 h
  have hcb := h1.cell
  have hbl := h1.lt
  have H1 := Lib.hid h1
  obtain ⟨f, hh, hheap, hrise, hperm, _⟩ := h1
  rcases hh.own.2 with ⟨rfl, hn0⟩ | ⟨g, c, cur, rfl, hB, _⟩
  · have hl0 : L = [] := List.eq_nil_of_length_eq_zero hn0
    subst hl0
    have hf := warm_of hh.blk 0
    have hfin : Hid (∀ W2, Below w.heap.size W1 W2 → AgAt W2 B b (.slice none 0 0) [] → AgStay w B b (.slice none 0 0) (keepI i []) W2) := fun W2 hb2 h2 => ⟨_, h2, But.of_below (HB1.out.trans hb2), rfl⟩
    have HSET : Hid (AgAt (W1.setCell ⟨b, 0, none⟩ (.slice none 0 0)) B b (.slice none 0 0) []) := ⟨f, ⟨by rw [set_here hh.blk]; rfl, ⟨rfl, .inl ⟨rfl, rfl⟩⟩, hh.low⟩, fun k h0 hk => by simp at hk, List.Pairwise.nil, List.Perm.refl _, by simp⟩
    clear hh hheap hrise hperm hn0 hb1 hq hq0 hkl hl
    go_enter Try.func12, Try.ntmps12
    go_wp2_with fail
    rw [HW.out]
    refine (del_nil _ _).mono ?_
    rintro e w2 ⟨rfl, rfl⟩
    clear hcw
    go_wp2_with fail
    have hc2 := HSET.out.cell
    have HC2 := Lib.hid hc2
    have hbl2 := HSET.out.lt
    have HBUT : Hid (But (InAg b (.slice none 0 0)) w (W1.setCell ⟨b, 0, none⟩ (.slice none 0 0))) := (But.of_below HB1.out).trans ((But.of_grown (grown_set W1 b 0 _)).wide fun k _ hk => .inl (by injection hk with hk; exact hk.symm))
    generalize W1.setCell ⟨b, 0, none⟩ (.slice none 0 0) = W3 at *
    refine (init_nil b W3 hc2).mono ?_
    rintro e w4 ⟨rfl, rfl⟩
    go_wp2_with fail
    go_ret
    exact ⟨rfl, _, HSET.out, HBUT.out, rfl⟩
  · obtain ⟨hrow, hBg⟩ := row_of_own hh.own
    have hbg : b ≠ g := by
      rintro rfl
      exact own_ne hh.own hh.blk (by decide) rfl
    have hgw : g < w.heap.size := hA.out g (.inr rfl)
    have KD := Lib.hid (del_any g L.length c w.heap.size f i W1 hrow hq0 (by omega) (by omega))
    have hnc : L.length ≤ c := by obtain ⟨_, _, a, _⟩ := hrow; exact a
    have HH := Lib.hid hh; have HRI := Lib.hid hrise; have HPM := Lib.hid hperm
    have HBG : Hid (B ≤ g ∧ b ≠ g) := ⟨hBg, hbg⟩
    clear hh hheap hrise hperm hrow hB hBg hbg hb1 hq hq0
    go_enter Try.func12, Try.ntmps12
    go_wp2_with fail
    rw [HW.out]
    refine KD.out.mono ?_
    rintro e w2 ⟨m, f', rfl, hr2, hl2, hg2⟩
    have hb2 : w2.heap[b]? = some (.cells #[.slice (some ⟨g, 0, none⟩) L.length c] 28 (0, 0)) := (hg2.block b hbl (fun e => HBG.out.2 (by injection e))).trans HH.out.blk
    have hf2 := warm_of hb2 0
    have hc2 : w2.cell? ⟨b, 0, none⟩ = some (.slice (some ⟨g, 0, none⟩) L.length c) := by rw [cell_of hb2]; rfl
    have hbl2 := lt_of_blk hb2
    have hkm : (keepI i L).length = m := by
      rw [(keep_perm i HPM.out).length_eq, ← hl2, lst_len]
    obtain ⟨W3, hW3⟩ : ∃ W3, w2.setCell ⟨b, 0, none⟩ (.slice (some ⟨g, 0, none⟩) m c) = W3 := ⟨_, rfl⟩
    have hbx : Box W3 b g m c := ⟨by rw [← hW3, set_here hb2]; rfl, HBG.out.2⟩
    have hr3 : RRow W3 g c m f' := hr2.kept (by rw [← hW3, Below.heap_setCell _ _ _ _ (fun e => HBG.out.2 e.symm)])
    have HBUT3 : Hid (But (InAg b (.slice (some ⟨g, 0, none⟩) L.length c)) w W3) := by
      rw [← hW3]
      exact ((But.of_below HB1.out).trans ((But.of_grown hg2).wide fun k _ hk => .inr (by injection hk with hk; subst hk; rfl))).trans ((But.of_grown (grown_set w2 b 0 _)).wide fun k _ hk => .inl (by injection hk with hk; exact hk.symm))
    have HBX := Lib.hid hbx; have HW3 := Lib.hid hW3
    have HL2 := Lib.hid hl2; have HKM := Lib.hid hkm
    have hmI : m ≤ L.length := by rw [← hkm]; exact hkl
    have KI := Lib.hid (init_any b g m c f' W3 hbx hr3 (by omega))
    clear hb2 hbx hr3 hr2 hl2 hg2 hW3 hkm
    go_wp2_with fail
    rw [HW3.out]
    refine KI.out.mono ?_
    rintro e w4 ⟨rfl, f2, hr4, hheap4, hp4, hg4⟩
    have hbx4 := HBX.out.grown hg4
    have hc4 := hbx4.cell
    have hbl4 := hbx4.lt
    have HFIN : Hid (AgStay w B b (.slice (some ⟨g, 0, none⟩) L.length c) (keepI i L) w4) := by
      refine ⟨.slice (some ⟨g, 0, none⟩) m c, ⟨f2, ?_⟩, HBUT3.out.trans ((But.of_grown hg4).wide fun k _ hk => .inr (by injection hk with hk; subst hk; rfl)), rfl⟩
      rw [HKM.out]
      refine ⟨⟨hbx4.1, own_of_row hr4 HBG.out.1, HH.out.low⟩, hheap4, keep_rises i HRI.out, ?_, by omega⟩
      exact ((keep_perm i HPM.out).trans (List.Perm.of_eq HL2.out.symm)).trans (lst_perm hp4).symm
    have e1 : (L.length : Int) - ((keepI i L).length : Int) = (L.length : Int) - (m : Int) := by rw [HKM.out]
    rw [e1] at *
    clear hr4 hheap4 hp4 hg4 hbx4 e1
    go_wp2_with fail
    go_ret
    exact ⟨by rw [HKM.out]; rfl, HFIN.out⟩
end Go.Proofs.Ytafloaabjinkfaa
