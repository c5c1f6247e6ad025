/-
  The statement IncomeMonths.
-/
-- HOLE2: obtain ⟨fuel0, hf0⟩ := h0
-- obtain ⟨fuel1, hf1⟩ := h1
-- obtain ⟨l0, q0⟩ := argAccs hf0
-- obtain ⟨l1, q1, n1, m1, _⟩ := argJrns hf1
-- exact incomeMonths_walk l0 l1 a0 a1 len0 len1 cap0 cap1 a2 a3 a4 W q0.rd q1 q0.len n1
import Derived.Test.YtjlokkjbdgcooaaGreatMany34
import Derived.Test.YtjlokkjbdgcooaaGreatIncMonths
import Derived.Test.YtjlokkjbdgcooaaGreatMany35
import Derived.Test.YtjlokkjbdgcooaaGreatMany36
import Derived.Test.YtjlokkjbdgcooaaGreatMany37
import Derived.BigQuiet
namespace Go.Proofs.YtjlokkjbdgcooaaGreat
open Mo
open Go.RowKit Go.Sort

theorem balR_is (o : OfT) (M : List Jrn) : BalIs (balsOf (gathL (pkL o) M)) (balE o M) (balR o M) := by
  refine Classical.epsilon_spec (p := BalIs (balsOf (gathL (pkL o) M)) (balE o M)) ?_
  by_cases h : balE o M = 0
  · exact ⟨_, fun _ => putsM_plus _, fun h' => absurd h h'⟩
  · exact ⟨[], fun h' => absurd h' h, fun _ => rfl⟩
theorem monN_net {C : List Acc} {M : List Jrn} {ent p : Int} (h : monOk C M ent p = true) : monN C M ent p = netL C ⟨ent, p, p⟩ M := by
  unfold monOk at h
  rw [Bool.and_eq_true, decide_eq_true_eq] at h
  exact netB_R (balR_is _ _) h.1
theorem monN_fits {C : List Acc} {M : List Jrn} {ent p : Int} (h : monOk C M ent p = true) : -1000000000000000 ≤ monN C M ent p ∧ monN C M ent p ≤ 1000000000000000 := by
  unfold monOk incFits at h
  simp only [Bool.and_eq_true] at h
  exact fits1_iff.1 h.2.2.2
/-- What the program's Months told, in one form. -/
theorem monthsEnd_is {w w' : World} {C : List Acc} {M : List Jrn} {ent frm : Int} {n : Nat} {e : Ending} (h : MonthsEnd w C M ent frm n e w') : ∃ (A : Option Addr) (m c : Nat) (E : Int), e = .returned (.tuple #[.slice A m c, .int .i64 E]) ∧ Below w.heap.size w w' ∧
    ((∃ i : Nat, i < n + 1 ∧ monOk C M ent (frm + (i : Int)) = false) ∧ E = 2 ∧ m = 0 ∨ (∀ i : Nat, i < n + 1 → monOk C M ent (frm + (i : Int)) = true) ∧ E = 0 ∧ m = n + 1 ∧ w'.ownsRow w.heap.size 3 1 (.slice A m c) m (ints .i64 (mons C M ent frm (n + 1)))) := by
  obtain ⟨hb, ⟨h1, rfl⟩ | ⟨h1, A, c, rfl, hown⟩⟩ := h
  · exact ⟨none, 0, 0, 2, rfl, hb, .inl ⟨h1, rfl, rfl⟩⟩
  · exact ⟨A, n + 1, c, 0, rfl, hb, .inr ⟨h1, rfl, rfl, hown⟩⟩

set_option maxRecDepth 100000 in
set_option maxHeartbeats 8000000 in
theorem incomeMonths_walk (rows : List Acc) (l : List JR) (A0 A : Option Addr) (n0 n c0 c : Nat) (ent frm nI : Int) (w : World) (h0 : Rd w w.heap.size 3 A0 n0 (accs rows)) (h : JlRd w w.heap.size A n l) (hn0 : n0 ≤ maxLen) (hn : n ≤ maxLen) :
    Calls Tryz.prog 7 #[.slice A0 n0 c0, .slice A n c, .int .i64 ent, .int .i64 frm, .int .i64 nI] w fun e w' => e = .returned (.bool true) ∧ Below w.heap.size w w' := by
  have kf := Lib.hid (fewM_any 40 (by omega) l A n c _ w h.rd (Nat.le_refl _) hn h.size)
  have KA : Hid (∀ w1, Calls Tryz.prog 42 #[] w1 fun e w' => e = .returned (.bool true) ∧ Below w1.heap.size w1 w') := alive11_any
  have KSET : Hid (∀ w1, Below w.heap.size w w1 → Calls Tryz.prog 32 #[.slice A0 n0 c0, .slice A n c] w1 (SetEnd w1)) := fun w1 hb =>
    trialSet_any rows l A0 A n0 n c0 c w.heap.size w1 (h0.far hb (Nat.le_refl _)) (h.far hb (Nat.le_refl _)) hb.size hn0 hn
  clear h h0 hn hn0
  go_enter Tryz.func7, Tryz.ntmps7
  go_wp2_with fail
  refine kf.out.mono ?_
  rintro e w1 ⟨z, rfl, _, hb1⟩
  have HB1 := Lib.hid hb1
  clear hb1 kf
  cases z
  · go_wp2_with fail
    refine (KA.out _).mono ?_
    rintro e w2 ⟨rfl, hb2⟩
    have HB2 := Lib.hid (HB1.out.trans (hb2.mono HB1.out.size))
    clear hb2
    go_wp2_with fail
    go_ret
    exact ⟨rfl, HB2.out⟩
  by_cases g : frm < 0 ∨ 1100 < frm ∨ nI < 0 ∨ 30 < nI ∨ ent < 1 ∨ 9 < ent
  · by_cases g1 : frm < 0
    · go_wp2_with fail
      refine (KA.out _).mono ?_
      rintro e w2 ⟨rfl, hb2⟩
      have HB2 := Lib.hid (HB1.out.trans (hb2.mono HB1.out.size))
      clear hb2
      go_wp2_with fail
      go_ret
      exact ⟨rfl, HB2.out⟩
    by_cases g2 : 1100 < frm
    · go_wp2_with fail
      refine (KA.out _).mono ?_
      rintro e w2 ⟨rfl, hb2⟩
      have HB2 := Lib.hid (HB1.out.trans (hb2.mono HB1.out.size))
      clear hb2
      go_wp2_with fail
      go_ret
      exact ⟨rfl, HB2.out⟩
    by_cases g3 : nI < 0
    · go_wp2_with fail
      refine (KA.out _).mono ?_
      rintro e w2 ⟨rfl, hb2⟩
      have HB2 := Lib.hid (HB1.out.trans (hb2.mono HB1.out.size))
      clear hb2
      go_wp2_with fail
      go_ret
      exact ⟨rfl, HB2.out⟩
    by_cases g4 : 30 < nI
    · go_wp2_with fail
      refine (KA.out _).mono ?_
      rintro e w2 ⟨rfl, hb2⟩
      have HB2 := Lib.hid (HB1.out.trans (hb2.mono HB1.out.size))
      clear hb2
      go_wp2_with fail
      go_ret
      exact ⟨rfl, HB2.out⟩
    by_cases g5 : ent < 1
    · go_wp2_with fail
      refine (KA.out _).mono ?_
      rintro e w2 ⟨rfl, hb2⟩
      have HB2 := Lib.hid (HB1.out.trans (hb2.mono HB1.out.size))
      clear hb2
      go_wp2_with fail
      go_ret
      exact ⟨rfl, HB2.out⟩
    · have g6 : 9 < ent := by omega
      go_wp2_with fail
      refine (KA.out _).mono ?_
      rintro e w2 ⟨rfl, hb2⟩
      have HB2 := Lib.hid (HB1.out.trans (hb2.mono HB1.out.size))
      clear hb2
      go_wp2_with fail
      go_ret
      exact ⟨rfl, HB2.out⟩
  have g1 : ¬ frm < 0 := by omega
  have g2 : ¬ 1100 < frm := by omega
  have g3 : ¬ nI < 0 := by omega
  have g4 : ¬ 30 < nI := by omega
  have g5 : ¬ ent < 1 := by omega
  have g6 : ¬ 9 < ent := by omega
  clear g
  go_wp2_with fail
  refine (KA.out _).mono ?_
  rintro e w2 ⟨rfl, hb2⟩
  have HB2 := Lib.hid (HB1.out.trans (hb2.mono HB1.out.size))
  have KS2 := Lib.hid (KSET.out w2 HB2.out)
  clear hb2 KA KSET
  go_wp2_with fail
  refine KS2.out.mono ?_
  rintro e w3 ⟨cb, bb, Bc, Bb, vc, vb, C, lb, Ar, cr, Aj, cj, X, rfl, hC, hT, hl, hG, hX40, hAC, hJ, hGA, hC30, hb3⟩
  obtain ⟨N, rfl⟩ : ∃ N : Nat, nI = (N : Int) := ⟨nI.toNat, by omega⟩
  have HB3 := Lib.hid (HB2.out.trans (hb3.mono HB2.out.size))
  have hc : lb.length ≤ 100 := by
    have := congrArg List.length hl
    rw [List.length_map, List.length_map] at this
    omega
  obtain ⟨M, hM⟩ : ∃ M, lb.map JR.j = M := ⟨_, rfl⟩
  have hok : ∀ j ∈ M, checkE j = 0 := fun j hj => by
    rw [← hM] at hj
    obtain ⟨a, ha, rfl⟩ := List.mem_map.1 hj
    exact hT.ok a ha
  have hXM : X.map JR.j = M := by rw [← hl, hM]
  have hokX : ∀ a ∈ X, checkE a.j = 0 := fun a ha => hok _ (by rw [← hXM]; exact List.mem_map.2 ⟨a, ha, rfl⟩)
  have hml : M.length ≤ 40 := by rw [← hXM, List.length_map]; exact hX40
  have hgl : ∀ o, (balsOf (gathL (pkL o) M)).length ≤ 320 := fun o => by
    rw [balsOf_len]
    have := gathL_len (pk := pkL o) (l := M) fun j hj => pkL_le8 (hok j hj)
    omega
  have HGL := Lib.hid hgl
  have hw0 : IntKind.i64.wrap (frm + (N : Int)) = frm + (N : Int) := by rw [IntKind.wrap_i64]; omega
  obtain ⟨W4, hW4⟩ : ∃ W4, w3.alloc (.cells #[.int .i64 ent, .int .i64 frm, .int .i64 (frm + (N : Int))] 80) = W4 := ⟨_, rfl⟩
  have hb4 : Below w3.heap.size w3 W4 := by rw [← hW4]; exact (Below.refl _ _).alloc (Nat.le_refl _) _
  have hh4 : W4.heap[w3.heap.size]? = some (.cells #[.int .i64 ent, .int .i64 frm, .int .i64 (frm + (N : Int))] 80 (0, 0)) := by rw [← hW4]; exact heap_new w3 _
  have hmayp : ∀ p q, 0 ≤ p → p ≤ q → q ≤ 1199 → mayO ⟨ent, p, q⟩ = true := fun p q h1 h2 h3 => by
    unfold mayO okP inB
    simp
    omega
  have km := months_any Bc cb Bb bb vc vb C lb M ent frm N W4 (hC.below hb4) (hT.below hb4) hc hM (fun o => by have := hgl o; omega) hGA (by omega) (by omega) (by omega) (hmayp _ _ (by omega) (by omega) (by omega)) fun p h1 h2 => hmayp _ _ (by omega) (by omega) (by omega)
  have KM := Lib.hid km
  have HW4 := Lib.hid hW4
  have HB4 := Lib.hid (HB3.out.trans (hb4.mono HB3.out.size))
  have HT4 := Lib.hid (hT.below hb4)
  have HC4 := Lib.hid (hC.below hb4)
  have HA4 := Lib.hid ((hAC.far hb4 (Nat.le_refl _)).wide hb4.size)
  have HJ4 := Lib.hid (hJ.far hb4 (Nat.le_refl _))
  have HZ4 : Hid (w3.heap.size ≤ W4.heap.size) := hb4.size
  have HH4 := Lib.hid hh4
  have HM := Lib.hid hM; have HXM := Lib.hid hXM; have HGA := Lib.hid hGA; have HOKX := Lib.hid hokX
  have HMAY := Lib.hid hmayp
  obtain ⟨m, hm⟩ : ∃ m, C.length = m := ⟨_, rfl⟩
  rw [hm] at HA4 hC30 ⊢
  have HMC := Lib.hid hm
  clear hT hl hG hM KS2 hb3 hok hXM hokX hgl hW4 hb4 hh4 hJ hml hC hAC hGA km hmayp hm
  go_wp2_with fail
  rw [HW4.out]
  refine KM.out.mono ?_
  rintro e w5 hme
  obtain ⟨Am, nm, cm, Em, rfl, hb5, hres⟩ := monthsEnd_is hme
  have HRES := Lib.hid hres
  have hh5 := (hb5.block _ (lt_of_blk HH4.out)).trans HH4.out
  have HH5 := Lib.hid hh5
  have x0 := cell_of hh5 0
  have x1 := cell_of hh5 1
  have x2 := cell_of hh5 2
  dsimp at x0 x1 x2
  have kk := make_any Bc cb Bb bb vc vb C lb M ⟨ent, frm, frm + (N : Int)⟩ w5 (HC4.out.below hb5) (HT4.out.below hb5) hc HM.out (by have := HGL.out ⟨ent, frm, frm + (N : Int)⟩; omega) HGA.out (by have := HMC.out; omega)
  unfold OfT.val at kk
  dsimp only at kk
  have KK := Lib.hid kk
  have HB5 : Hid (Below W4.heap.size W4 w5) := hb5
  clear hme hb5 hres hh5 kk KM
  go_wp2_with fail
  refine KK.out.mono ?_
  rintro e w6 hme
  obtain ⟨B1, B2, m1, d1, m2, d2, ve, vs, vn, rfl, hvn, hb6⟩ := makeEnd_net hme
  have HB6 : Hid (Below W4.heap.size W4 w6) := HB5.out.trans (hb6.mono HB5.out.size)
  have HVN := Lib.hid hvn
  obtain ⟨I, hII⟩ : ∃ I, incE C ⟨ent, frm, frm + (N : Int)⟩ M = I := ⟨_, rfl⟩
  rw [hII] at HVN ⊢
  have HII := Lib.hid hII
  obtain ⟨W7, hW7⟩ : ∃ W7, w6.alloc (.cells #[.slice B1 m1 d1, .slice B2 m2 d2, .int .i64 ve, .int .i64 vs, .int .i64 vn] 97) = W7 := ⟨_, rfl⟩
  have hb7 : Below w6.heap.size w6 W7 := by rw [← hW7]; exact (Below.refl _ _).alloc (Nat.le_refl _) _
  have hh7 : W7.heap[w6.heap.size]? = some (.cells #[.slice B1 m1 d1, .slice B2 m2 d2, .int .i64 ve, .int .i64 vs, .int .i64 vn] 97 (0, 0)) := by rw [← hW7]; exact heap_new w6 _
  have HB7 : Hid (Below W4.heap.size W4 W7) := HB6.out.trans (hb7.mono HB6.out.size)
  have HRW : Hid (∀ w', Below W7.heap.size W7 w' → (∀ i : Nat, i < N + 1 → monOk C M ent (frm + (i : Int)) = true) → Em = 0 ∧ nm = N + 1 ∧ Rd w' w'.heap.size 1 Am nm (ints .i64 (mons C M ent frm (N + 1)))) := fun w' hb hall => by
    rcases HRES.out with ⟨⟨i, hi, hbad⟩, _⟩ | ⟨_, h1, h2, hown⟩
    · rw [hall i hi] at hbad; cases hbad
    · refine ⟨h1, h2, ?_⟩
      have h3 : Rd w5 w5.heap.size 1 Am nm (ints .i64 (mons C M ent frm (N + 1))) := rd_of_own hown
      have hb57 : Below w5.heap.size w5 W7 := hb6.trans (hb7.mono hb6.size)
      have hb5' : Below w5.heap.size w5 w' := hb57.trans (hb.mono hb57.size)
      exact (h3.far hb5' (Nat.le_refl _)).wide hb5'.size
  have HBAD : Hid (∀ i : Nat, i < N + 1 → monOk C M ent (frm + (i : Int)) = false → Em = 2 ∧ nm = 0) := fun i hi hbad => by
    rcases HRES.out with ⟨_, h1, h2⟩ | ⟨h, _⟩
    · exact ⟨h1, h2⟩
    · rw [h i hi] at hbad; cases hbad
  have HW7 := Lib.hid hW7; have HH7 := Lib.hid hh7
  clear hme hvn hb6 hII hb7 hh7 hW7 KK x0 x1 x2 HRES
  go_wp2_with fail
  rw [HW7.out]
  go_loopw [21, 22, 23] (fun lv sv pv wr => ∃ k : Nat, k ≤ N + 1 ∧ pv = .int .i64 (frm + (k : Int)) ∧ (∃ A' c', lv = .slice A' k c' ∧ wr.ownsRow W7.heap.size 3 1 (.slice A' k c') k (ints .i64 (mons C M ent frm k))) ∧ (∃ s, sv = .int .i64 s ∧ Hid ((mons C M ent frm k).sum = s) ∧ Hid (-(1000000000000000 * (k : Int)) ≤ s ∧ s ≤ 1000000000000000 * (k : Int))) ∧ Hid (∀ i : Nat, i < k → monOk C M ent (frm + (i : Int)) = true) ∧ Below W7.heap.size W7 wr) (fun _ _ pv _ => (frm + (N : Int) + 1 - intOf pv).toNat)
  case atStart => exact ⟨0, by omega, by simp, ⟨none, 0, rfl, World.ownsRow_nil _ _ _ _⟩, ⟨0, rfl, rfl, by unfold Hid; omega⟩, fun i hi => absurd hi (by omega), Below.refl _ _⟩
  case round =>
    obtain ⟨k, hk, rfl, ⟨A', c', rfl, hown⟩, ⟨s, rfl, HS, HSB⟩, HOKS, hbel⟩ := hrel
    have hzr := hbel.size
    have HO := Lib.hid hown; have HBE := Lib.hid hbel
    by_cases hlt : k < N + 1
    · have hle : frm + (k : Int) ≤ frm + (N : Int) := by omega
      have HBR : Hid (Below W4.heap.size W4 wr) := HB7.out.trans (hbel.mono HB7.out.size)
      have kr := refBals_any ⟨ent, frm + (k : Int), frm + (k : Int)⟩ X Aj X.length cj w3.heap.size wr (HJ4.out.far HBR.out HZ4.out) (Nat.le_trans HZ4.out HBR.out.size) (by omega) HOKX.out
      rw [HXM.out] at kr
      have KR := Lib.hid kr
      have HST := Lib.hid (mons_succ C M ent frm k)
      have hw1 : IntKind.i64.wrap (frm + (k : Int) + 1) = frm + (k : Int) + 1 := by rw [IntKind.wrap_i64]; omega
      have hmo := monOk_iff (C := C) (M := M) (ent := ent) (p := frm + (k : Int))
      have hfit := fun h => monN_fits (C := C) (M := M) (ent := ent) (p := frm + (k : Int)) h
      obtain ⟨p, hp⟩ : ∃ p, frm + (k : Int) = p := ⟨_, rfl⟩
      have HP := Lib.hid hp
      rw [hp] at hle KR HST hw1 hmo hfit ⊢
      have HFIT := Lib.hid hfit
      clear hp hown hbel kr hmo hfit
      go_wp2_with fail
      refine KR.out.mono ?_
      rintro e w8 hbe
      obtain ⟨Ap, cp, R, rfl, hR, hownR, hb8⟩ := balEnd_is hbe
      have hRR := balIs_R hR
      have hrl : R.length ≤ 320 := Nat.le_trans hR.len (HGL.out _)
      have hfa : fitsAll (amts R) = true := by
        by_cases h : balE ⟨ent, p, p⟩ M = 0
        · exact (hR.1 h).fits (balE_zero h).2
        · rw [hR.2 h]; rfl
      have HB8 : Hid (Below W7.heap.size W7 w8) := HBE.out.trans (hb8.mono hzr)
      have hb48 : Below W4.heap.size W4 w8 := HB7.out.trans (HB8.out.mono HB7.out.size)
      have kn := refNet_any C R Ar Ap m cr R.length cp w8.heap.size w8 ((HA4.out.far hb48 (Nat.le_refl _)).wide hb48.size) (rd_of_own hownR) (Nat.le_refl _) (by omega) (by omega) hfa HGA.out
      have HOK : Hid (monOk C M ent p = (decide (balE ⟨ent, p, p⟩ M = 0) && incFits C R)) := by unfold Hid monOk; rw [hRR]
      have HMN : Hid (monN C M ent p = earnB C R - spentB C R) := by unfold Hid monN; rw [← hRR]; rfl
      have HFI : Hid (incFits C R = (fits1 (earnB C R) && (fits1 (spentB C R) && fits1 (netB C R)))) := rfl
      have KN := Lib.hid kn
      have HO8 := Lib.hid (own_kept HO.out fun q hq _ => hb8.block q hq)
      obtain ⟨E, hEE⟩ : ∃ E, balE ⟨ent, p, p⟩ M = E := ⟨_, rfl⟩
      rw [hEE] at HOK ⊢
      generalize earnB C R = Ve at *
      generalize spentB C R = Vs at *
      obtain ⟨Z, hZ⟩ : ∃ Z, incFits C R = Z := ⟨_, rfl⟩
      rw [hZ] at HOK KN HFI
      clear hbe hR hRR hownR hb8 hb48 kn hfa hEE hZ KR
      go_wp2_with fail
      refine KN.out.mono ?_
      rintro e w9 ⟨rfl, hb9⟩
      have HB9 : Hid (Below W7.heap.size W7 w9) := HB8.out.trans (hb9.mono HB8.out.size)
      have hown9 := own_kept HO8.out fun q hq _ => hb9.block q hq
      have hz9 := HB9.out.size
      clear hb9 KN
      by_cases hE0 : E = 0
      · cases Z
        · have hbad : monOk C M ent p = false := by rw [HOK.out]; simp
          obtain ⟨r1, r2⟩ := HBAD.out k hlt (by rw [HP.out]; exact hbad)
          subst hE0 r1 r2
          clear hown9 hbad
          go_wp2_with fail
          go_ret
          exact ⟨rfl, HB4.out.trans ((HB7.out.trans (HB9.out.mono HB7.out.size)).mono HB4.out.size)⟩
        · have hgood : monOk C M ent p = true := by rw [HOK.out, hE0]; rfl
          have hfi := HFI.out
          have hfi2 : fits1 Ve = true ∧ fits1 Vs = true := by
            cases h1 : fits1 Ve
            · rw [h1] at hfi; cases hfi
            · cases h2 : fits1 Vs
              · rw [h1, h2] at hfi; cases hfi
              · exact ⟨rfl, rfl⟩
          have q1 := fits1_iff.1 hfi2.1
          have q2 := fits1_iff.1 hfi2.2
          have hn1 := HFIT.out hgood
          have hmn := HMN.out
          have hsb := HSB.out
          have v1 : IntKind.i64.wrap (Ve - Vs) = Ve - Vs := by rw [IntKind.wrap_i64]; omega
          have v2 : IntKind.i64.wrap (s + Ve) = s + Ve := by rw [IntKind.wrap_i64]; omega
          have v3 : IntKind.i64.wrap (s + Ve - Vs) = s + Ve - Vs := by rw [IntKind.wrap_i64]; omega
          have HGOOD := Lib.hid hgood
          have HSUM : Hid ((mons C M ent frm (k + 1)).sum = s + Ve - Vs) := by
            rw [Hid, HST.out, List.sum_append, HS.out, hmn]
            simp
            omega
          have HBD : Hid (-(1000000000000000 * ((k + 1 : Nat) : Int)) ≤ s + Ve - Vs ∧ s + Ve - Vs ≤ 1000000000000000 * ((k + 1 : Nat) : Int)) := by unfold Hid; omega
          obtain ⟨v10, w10, hrun, hown10, _, hb10⟩ := append_intO (w := w9) (Ve - Vs) hown9 hz9 (by omega)
          obtain ⟨A10, c10, rfl⟩ := own_form hown10
          have HO10 := Lib.hid hown10
          have HB10 : Hid (Below W7.heap.size W7 w10) := HB9.out.trans hb10
          have HL : Hid (mons C M ent frm (k + 1) = mons C M ent frm k ++ [Ve - Vs]) := by rw [Hid, HST.out, hmn]
          subst hE0
          clear hgood hfi hfi2 q1 q2 hn1 hmn hsb hown10 hb10 hown9
          go_wp2_with (at_builtin; refine Lib.wpList_append_run _ rfl _ _ _ _ rfl _ _ rfl rfl _ _ (hrun _) ?_)
          refine ⟨⟨k + 1, by omega, by rw [← HP.out]; go_num, ⟨A10, c10, rfl, by rw [HL.out]; exact HO10.out⟩, ⟨_, rfl, HSUM, HBD⟩, fun i hi => ?_, HB10.out⟩, by have := HP.out; simp [intOf]; omega⟩
          by_cases e : i = k
          · subst e; rw [HP.out]; exact HGOOD.out
          · exact HOKS.out i (by omega)
      · have hbad : monOk C M ent p = false := by rw [HOK.out, decide_eq_false hE0]; rfl
        obtain ⟨r1, r2⟩ := HBAD.out k hlt (by rw [HP.out]; exact hbad)
        have t1 : (E != 0) = true := by simpa using hE0
        subst r1 r2
        clear hown9 hbad hE0
        go_wp2_with fail
        go_ret
        exact ⟨rfl, HB4.out.trans ((HB7.out.trans (HB9.out.mono HB7.out.size)).mono HB4.out.size)⟩
    · obtain rfl : k = N + 1 := by omega
      have hgt : ¬ frm + ((N + 1 : Nat) : Int) ≤ frm + (N : Int) := by omega
      obtain ⟨r1, r2, hrd⟩ := HRW.out wr hbel HOKS.out
      subst r1 r2
      have ks := sameInts_any (mons C M ent frm (N + 1)) (mons C M ent frm (N + 1)) Am A' (N + 1) (N + 1) cm c' wr.heap.size wr.heap.size wr hrd (rd_of_own hown) (by unfold maxLen; omega) (by unfold maxLen; omega)
      rw [beq_self_eq_true (mons C M ent frm (N + 1))] at ks
      have KS := Lib.hid ks
      have hhr := (hbel.block _ (lt_of_blk HH7.out)).trans HH7.out
      have HHR := Lib.hid hhr
      have hnet : I = 0 → vn = s := fun h => by
        rw [HVN.out h, ← HS.out, mons_sum C M ent frm N fun i hi => monN_net (HOKS.out i hi)]
        refine netB_R (balR_is _ _) ?_
        have h2 := HII.out
        rw [h] at h2
        unfold incE at h2
        by_cases h3 : balE ⟨ent, frm, frm + (N : Int)⟩ M = 0
        · exact h3
        · rw [if_neg h3] at h2; exact absurd h2 h3
      have HNET := Lib.hid hnet
      have KV := Lib.hid (fun w1 => refValid_any (frm + (N : Int)) w1)
      have hokP : okP (frm + (N : Int)) = true := by unfold okP; simp; omega
      rw [hokP] at KV
      clear hown hbel ks hrd hhr hnet hokP
      go_wp2_with fail
      refine KS.out.mono ?_
      rintro e w8 ⟨rfl, hd⟩
      have hb8 : Below wr.heap.size wr w8 := hd.below
      have HB8 : Hid (Below W7.heap.size W7 w8) := HBE.out.trans (hb8.mono hzr)
      have hh8 := (hb8.block _ (lt_of_blk HHR.out)).trans HHR.out
      have y4 := cell_of hh8 4
      dsimp at y4
      clear hd hb8 hh8 KS
      by_cases hI : I = 0
      · have hv := HNET.out hI
        subst hI hv
        go_wp2_with fail
        refine (KV.out _).mono ?_
        rintro e w9 ⟨rfl, rfl⟩
        go_wp2_with fail
        go_ret
        exact ⟨rfl, HB4.out.trans ((HB7.out.trans (HB8.out.mono HB7.out.size)).mono HB4.out.size)⟩
      · have t1 : (I != 0) = true := by simpa using hI
        clear hI
        go_wp2_with fail
        refine (KV.out _).mono ?_
        rintro e w9 ⟨rfl, rfl⟩
        go_wp2_with fail
        go_ret
        exact ⟨rfl, HB4.out.trans ((HB7.out.trans (HB8.out.mono HB7.out.size)).mono HB4.out.size)⟩
end Go.Proofs.YtjlokkjbdgcooaaGreat

