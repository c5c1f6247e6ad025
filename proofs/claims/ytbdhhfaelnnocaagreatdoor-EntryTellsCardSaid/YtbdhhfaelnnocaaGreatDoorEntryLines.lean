/-
  Contract of the reader's lines.
-/
import Derived.Test.YtbdhhfaelnnocaaGreatDoorEntryLine
import Derived.Test.YtbdhhfaelnnocaaGreatDoorLinsLent
namespace Go.Proofs.YtbdhhfaelnnocaaGreatDoor
open Go.RowKit Go.Sort

/-- Lines of a text that is being read: what was read, what is left. -/
theorem linesOf_on {m : Nat} {ps : List (List UInt8)} {L : List Lin} {X : Option (List Lin)} {l : Lin} (hX : X = (linesOf (m + 1) ps).map (L ++ ·)) (hne : ps ≠ []) (hl : lineOf (ps.headD []) = some l) : X = (linesOf m ps.tail).map ((L ++ [l]) ++ ·) := by
  cases ps with
  | nil => exact absurd rfl hne
  | cons p r =>
    simp only [List.headD, List.tail] at *
    rw [hX, linesOf, hl]
    simp only
    cases linesOf m r with
    | none => rfl
    | some R => simp
theorem linesOf_bad {m : Nat} {ps : List (List UInt8)} {L : List Lin} {X : Option (List Lin)} (hX : X = (linesOf (m + 1) ps).map (L ++ ·)) (hne : ps ≠ []) (hl : lineOf (ps.headD []) = none) : X = none := by
  cases ps with
  | nil => exact absurd rfl hne
  | cons p r =>
    simp only [List.headD] at hl
    rw [hX, linesOf, hl]
    rfl
theorem linesOf_end {m : Nat} {ps : List (List UInt8)} {L : List Lin} {X : Option (List Lin)} (hX : X = (linesOf m ps).map (L ++ ·)) (h : m = 0 ∨ ps = []) : X = some L := by
  rw [hX]
  rcases h with rfl | rfl
  · cases ps <;> simp [linesOf]
  · cases m <;> simp [linesOf]

def slLen : Option Value → Nat
  | some (.slice _ n _) => n
  | _ => 0
theorem Kp.grown {S : Nat → Prop} {a b : World} {row : Option Nat} (h : a.grownBy b row) (hr : ∀ k, row = some k → S k) : Kp S a b :=
  ⟨h.os, h.tape, h.output, h.size, fun k hk hs => h.block k hk fun e => hs (hr k e.symm)⟩

set_option maxRecDepth 100000 in
set_option maxHeartbeats 2000000 in
theorem rdLines_any (B b q : Nat) (ps : List (List UInt8)) (j : Jrn) (w : World) (G : GB B w) (hBb : B ≤ b) (hBq : B ≤ q) (h : RdrAt w b 32 ps) (hq : JAt w q j none 0 0) (hne : q ≠ b) :
    Calls Tryz.prog 83 #[.pointer (some ⟨b, 0, none⟩), .pointer (some ⟨q, 0, none⟩)] w fun e w' => e = .returned (.bool (linesOf 9 ps).isSome) ∧
      (∀ L, linesOf 9 ps = some L → ∃ A c, JAt w' q j A L.length c ∧ w'.ownsRow w.heap.size 34 3 (.slice A L.length c) L.length (lins L)) ∧ Kp (fun k => k = b ∨ k = q) w w' := by
  obtain ⟨X, hX⟩ : ∃ X, linesOf 9 ps = X := ⟨_, rfl⟩
  have HX0 : Hid (X = (linesOf 9 ps).map ([] ++ ·)) := by
    unfold Hid
    rw [hX]
    cases X <;> simp
  rw [hX]
  obtain ⟨z, hz⟩ : ∃ z : Bool, X.isSome = z := ⟨_, rfl⟩
  have HZ := Lib.hid hz
  rw [hz]
  have hbl := lt_of_blk h.blk
  have hql := lt_of_blk hq
  have HG := Lib.hid G
  have HR0 := Lib.hid h
  have HJ0 := Lib.hid hq
  have hle := G.le
  have HBS : Hid (∀ k, (k = b ∨ k = q ∨ w.heap.size ≤ k) → B ≤ k) := fun k hk => by rcases hk with rfl | rfl | hk <;> omega
  have FIN : Hid (∀ w', Kp (fun k => k = b ∨ k = q ∨ w.heap.size ≤ k) w w' → Kp (fun k => k = b ∨ k = q) w w') := fun w' hk => Kp.fresh hk (Kp.refl _ _) (fun k hk => by
    rcases hk with rfl | rfl | hk
    · exact .inl (.inl rfl)
    · exact .inl (.inr rfl)
    · exact .inr hk)
  clear hX h hq G hz
  go_enter Tryz.func83, Tryz.ntmps83
  go_wp2_with fail
  go_loopw [5] (fun _ wr => ∃ (m : Nat) (L : List Lin) (qs : List (List UInt8)) (A : Option Addr) (c : Nat), m + L.length = 9 ∧ Hid (X = (linesOf m qs).map (L ++ ·)) ∧ RdrAt wr b 32 qs ∧ JAt wr q j A L.length c ∧ wr.ownsRow w.heap.size 34 3 (.slice A L.length c) L.length (lins L) ∧ Kp (fun k => k = b ∨ k = q ∨ w.heap.size ≤ k) w wr) (fun _ wr => 9 - slLen (wr.cell? ⟨q, 4, none⟩))
  case atStart => exact ⟨9, [], ps, none, 0, rfl, HX0, HR0.out, HJ0.out, World.ownsRow_nil _ _ _ _, Kp.refl _ _⟩
  case round =>
    obtain ⟨m, L, qs, A, c, hm, hX, hr, hj, hown, hk⟩ := hrel
    have hzr := hk.size
    have cm := cell_of hr.blk 2
    have c4 := cell_of hj 4
    simp only [List.getElem?_toArray, List.getElem?_cons_zero, List.getElem?_cons_succ] at cm c4
    have hlen9 : L.length ≤ 9 := by omega
    by_cases hend : m = 0 ∨ qs = []
    · have hXL := linesOf_end hX.out hend
      subst hXL
      obtain rfl : true = z := HZ.out
      have HP : Hid (∃ A c, JAt wr q j A L.length c ∧ wr.ownsRow w.heap.size 34 3 (.slice A L.length c) L.length (lins L)) := ⟨A, c, hj, hown⟩
      have HK := Lib.hid (FIN.out _ hk)
      clear hX hr hj hown hk
      by_cases hqs : qs = []
      · subst hqs
        clear hend
        simp only [List.isEmpty_nil, Bool.not_true] at cm
        go_wp2_with fail
        go_ret
        exact ⟨rfl, (fun L' h => by injection h with h; subst h; exact HP.out), HK.out⟩
      · have hm0 : m = 0 := by rcases hend with h | h; exact h; exact absurd h hqs
        have hl9 : L.length = 9 := by omega
        have hne0 : (!qs.isEmpty) = true := by simpa using hqs
        rw [hne0] at cm
        rw [hl9] at c4
        clear hend hqs hne0
        go_wp2_with fail
        go_ret
        exact ⟨rfl, (fun L' h => by injection h with h; subst h; exact HP.out), HK.out⟩
    · have hm0 : ¬ m = 0 := fun h => hend (.inl h)
      have hqs : ¬ qs = [] := fun h => hend (.inr h)
      obtain ⟨m', rfl⟩ : ∃ m', m = m' + 1 := ⟨m - 1, by omega⟩
      have hne0 : (!qs.isEmpty) = true := by simpa using hqs
      rw [hne0] at cm
      have hl8 : L.length ≤ 8 := by omega
      have hl8' : (L.length : Int) ≤ 8 := by omega
      obtain ⟨W1, hW1⟩ : ∃ W1, wr.alloc (.cells #[.int .i64 0, .int .i64 0, .int .i64 0] 34) = W1 := ⟨_, rfl⟩
      have hbw : Below wr.heap.size wr W1 := by rw [← hW1]; exact (Below.refl _ _).alloc (Nat.le_refl _) _
      have hzW : W1.heap.size = wr.heap.size + 1 := by rw [← hW1]; simp
      have G1 : GB B W1 := (HG.out.kp hk HBS.out).below hbw
      have hlb : W1.heap[wr.heap.size]? = some (.cells #[.int .i64 0, .int .i64 0, .int .i64 0] 34 (0, 0)) := by rw [← hW1]; exact heap_new wr _
      have hbr := lt_of_blk hr.blk
      have hqr := lt_of_blk hj
      have kl := Lib.hid (rdLine_any B b wr.heap.size 32 qs W1 G1 hBb (by omega) (hr.kept (S := fun _ => False) (Kp.of_below hbw) (fun h => h.elim)) hlb (by omega))
      have HW1 := Lib.hid hW1
      have HBW := Lib.hid hbw
      have HJ := Lib.hid hj
      have HOW := Lib.hid hown
      have HK := Lib.hid hk
      have HZW := Lib.hid hzW
      have HMS : Hid (9 - slLen (wr.cell? ⟨q, 4, none⟩) = 9 - L.length) := by unfold Hid; rw [c4]; rfl
      clear hr hj hown hk hbw hW1 hlb G1 hzW hend
      obtain ⟨LO, hLO⟩ : ∃ LO, lineOf (qs.headD []) = LO := ⟨_, rfl⟩
      rw [hLO] at kl
      cases LO with
      | none =>
        have hXL := linesOf_bad hX.out hqs hLO
        subst hXL
        obtain rfl : false = z := HZ.out
        rw [show (none : Option Lin).isSome = false from rfl] at kl
        go_wp2_with fail
        rw [HW1.out]
        refine kl.out.mono ?_
        rintro e w2 ⟨rfl, _, _, hk2⟩
        have HK2 : Hid (Kp (fun k => k = b ∨ k = q ∨ w.heap.size ≤ k) w w2) := (HK.out.trans (Kp.of_below HBW.out)).trans (hk2.mono fun k h => by
          rcases h with rfl | rfl
          · exact .inl rfl
          · exact .inr (.inr hzr))
        clear hk2
        go_wp2_with fail
        go_ret
        exact ⟨rfl, (fun L' h => by cases h), FIN.out _ HK2.out⟩
      | some l =>
        have HX2 := Lib.hid (linesOf_on hX.out hqs hLO)
        rw [show (some l).isSome = true from rfl] at kl
        clear hX hLO
        go_wp2_with fail
        rw [HW1.out]
        refine kl.out.mono ?_
        rintro e w2 ⟨rfl, hr2, hl2, hk2⟩
        have hl2 := hl2 l rfl
        have hz2 := hk2.size
        have hz2' : wr.heap.size < w2.heap.size := by have := HZW.out; omega
        have HK2 : Hid (Kp (fun k => k = b ∨ k = q ∨ w.heap.size ≤ k) w w2) := (HK.out.trans (Kp.of_below HBW.out)).trans (hk2.mono fun k h => by
          rcases h with rfl | rfl
          · exact .inl rfl
          · exact .inr (.inr hzr))
        have hj2 : JAt w2 q j A L.length c := by
          have h1 : JAt W1 q j A L.length c := (HBW.out.block q hqr).trans HJ.out
          exact h1.kept hk2 (by rintro (h | h); exact hne h; omega)
        have hown2 : w2.ownsRow w.heap.size 34 3 (.slice A L.length c) L.length (lins L) := by
          refine own_kept HOW.out fun k hk1 hk2' => ?_
          have hge := own_ge HOW.out k hk2'
          exact (hk2.block k (by have := HZW.out; omega) (by rintro (h | h) <;> omega)).trans (HBW.out.block k hk1)
        have c0 := cell_of hl2 0
        have c1 := cell_of hl2 1
        have c2 := cell_of hl2 2
        have d4 := cell_of hj2 4
        simp only [List.getElem?_toArray, List.getElem?_cons_zero, List.getElem?_cons_succ] at c0 c1 c2 d4
        obtain ⟨l1, l2, l3⟩ := l
        dsimp only at c0 c1 c2
        have hown3 : ((w2.alloc (.cells #[.int .i64 l1, .int .i64 l2, .int .i64 l3] 34)).drew).ownsRow w.heap.size 34 3 (.slice A L.length c) L.length (lins L) := own_kept hown2 fun k hk1 _ => Below.heap_alloc _ _ _ hk1
        have hrd : Rd ((w2.alloc (.cells #[.int .i64 l1, .int .i64 l2, .int .i64 l3] 34)).drew) (w2.heap.size + 1) 3 (some ⟨w2.heap.size, 0, none⟩) 1 (lins [⟨l1, l2, l3⟩]) := ⟨rfl, fun _ => ⟨_, rfl, by simp, cells_new w2 [.int .i64 l1, .int .i64 l2, .int .i64 l3] _⟩⟩
        obtain ⟨v5, w5, hrun, hown5, hg5, _⟩ := append_fresh (P := Tryz.prog) (ty := 22) (c := 1) infoLin Tryz.underlying22 rfl (by omega) w.heap.size _ L.length _ hown3 hrd (linsOne _) (by unfold maxLen; omega) (by omega) (by simp; omega)
        rw [← lins_append] at hown5
        obtain ⟨A5, c5, rfl⟩ := own_form hown5
        have hk5 : Kp (fun k => k = b ∨ k = q ∨ w.heap.size ≤ k) w2 w5 := (((Kp.refl _ w2).alloc _).trans (Kp.of_drew ⟨1, rfl⟩)).trans (Kp.grown hg5 fun k hk => .inr (.inr (own_ge hown3 k hk)))
        have keep : ∀ k, k < w.heap.size → w5.heap[k]? = w2.heap[k]? := fun k hk1 => by
          have h1 := hg5.block k (by simp; omega) (fun e => by have := own_ge hown3 k e.symm; omega)
          exact h1.trans (Below.heap_alloc _ _ _ (by omega))
        have hj5 : JAt w5 q j A L.length c := (keep q hql).trans hj2
        have hr5 : RdrAt w5 b 32 qs.tail := ⟨(keep b hbl).trans hr2.blk, hr2.free, hr2.len⟩
        have f4 := warm_of hj5 4
        have e4 := cell_of hj5 4
        simp only [List.getElem?_toArray, List.getElem?_cons_zero, List.getElem?_cons_succ] at e4
        have HEND : Hid (RdrAt (w5.setCell ⟨q, 4, none⟩ (.slice A5 (L.length + 1) c5)) b 32 qs.tail ∧ JAt (w5.setCell ⟨q, 4, none⟩ (.slice A5 (L.length + 1) c5)) q j A5 (L ++ [(⟨l1, l2, l3⟩ : Lin)]).length c5 ∧ (w5.setCell ⟨q, 4, none⟩ (.slice A5 (L.length + 1) c5)).ownsRow w.heap.size 34 3 (.slice A5 (L ++ [(⟨l1, l2, l3⟩ : Lin)]).length c5) (L ++ [(⟨l1, l2, l3⟩ : Lin)]).length (lins (L ++ [(⟨l1, l2, l3⟩ : Lin)])) ∧ Kp (fun k => k = b ∨ k = q ∨ w.heap.size ≤ k) w (w5.setCell ⟨q, 4, none⟩ (.slice A5 (L.length + 1) c5)) ∧ 9 - slLen ((w5.setCell ⟨q, 4, none⟩ (.slice A5 (L.length + 1) c5)).cell? ⟨q, 4, none⟩) < 9 - L.length) := by
          have hjn : JAt (w5.setCell ⟨q, 4, none⟩ (.slice A5 (L.length + 1) c5)) q j A5 (L.length + 1) c5 := set_here hj5
          have hks : Kp (fun k => k = q) w5 (w5.setCell ⟨q, 4, none⟩ (.slice A5 (L.length + 1) c5)) := Kp.setCell (S := fun k => k = q) (p := ⟨q, 4, none⟩) (Kp.refl _ _) (Eq.refl q) _
          refine ⟨hr5.kept hks (fun h => hne h.symm), by rw [List.length_append]; exact hjn, ?_, (HK2.out.trans hk5).trans (hks.mono fun k h => .inr (.inl h)), ?_⟩
          · rw [List.length_append]
            refine own_kept hown5 fun k hk1 hk2' => hks.block k hk1 ?_
            have := own_ge hown5 k hk2'
            intro e
            omega
          · have := cell_of hjn 4
            simp only [List.getElem?_toArray, List.getElem?_cons_zero, List.getElem?_cons_succ] at this
            rw [this]
            simp only [slLen]
            omega
        have HR5 := Lib.hid hrun
        have hqw2 : q < w2.heap.size := by omega
        have hqw5 : q < w5.heap.size := lt_of_blk hj5
        clear hrun hown5 hg5 hown3 hown2 hrd hk5 keep hj5 hr5 hr2 hl2 hk2 hj2 kl HX0
        go_wp2_with fail
        go_region_law (refine step_append_run rfl (.tmp 25) (.tmp 27) 22 rfl (.slice A L.length c) (.slice (some ⟨w2.heap.size, 0, none⟩) 1 1) _ w5 (by simp [Act.eval]) (by simp [Act.eval]) HR5.out ?_)
        all_goals
          go_wp2_with fail
          obtain ⟨f1, f2, f3, f5, f6⟩ := HEND.out
          refine ⟨⟨m', L ++ [(⟨l1, l2, l3⟩ : Lin)], qs.tail, A5, c5, by rw [List.length_append]; simp; omega, HX2, f1, f2, f3, f5⟩, ?_⟩
          rw [HMS.out]
          exact f6
end Go.Proofs.YtbdhhfaelnnocaaGreatDoor
