/-
  Several texts, one behind the other: what each holds stands ahead of it.
-/
import Derived.Test.YtjlokkjbdgcooaaGreatMany34
import Derived.Test.YtjlokkjbdgcooaaGreatMany29
import Derived.Test.YtjlokkjbdgcooaaGreatMany28
import Derived.BigQuiet
import Derived.Test.YtjlokkjbdgcooaaGreatMany6
import Derived.Deep.RegionLaw
import Derived.Test.YtjlokkjbdgcooaaGreatMany1
import Derived.Maps.AppendAt

/-
  Contract of the reference's Net.
-/
namespace Go.Proofs.YtjlokkjbdgcooaaGreat
open Go.RowKit
open Mo

theorem sum_out {C : List Acc} {R : List Bal} : (amts (outL C R)).sum = spentB C R := rfl
set_option maxRecDepth 100000 in
set_option maxHeartbeats 2000000 in
theorem refNet_any (C : List Acc) (R : List Bal) (Ar A : Option Addr) (m cr n c B : Nat) (w : World) (hr : Rd w B 3 Ar m (accs C)) (h : Rd w B 2 A n (bals R)) (hB : B ≤ w.heap.size) (hm : m ≤ 1000) (hn : n ≤ 1000) (hf : fitsAll (amts R) = true) (hg : GoodA C) :
    Calls Tryz.prog 45 #[.slice Ar m cr, .slice A n c] w fun e w' => e = .returned (.tuple #[.int .i64 (earnB C R), .int .i64 (spentB C R), .bool (incFits C R)]) ∧ Below w.heap.size w w' := by
  have k1 := refPick_any true 4 C R Ar A m cr n c B w hr h hB hm hn hf
  rw [pkR_in hg, sum_in] at k1
  have HK2 : Hid (∀ w1, Below w.heap.size w w1 → Calls Tryz.prog 44 #[.slice Ar m cr, .slice A n c, .int .i64 5, .bool false] w1 fun e w' => ∃ A' c', e = .returned (.tuple #[.slice A' (outL C R).length c', .int .i64 (spentB C R)]) ∧ w'.ownsRow w1.heap.size 161 2 (.slice A' (outL C R).length c') (outL C R).length (bals (outL C R)) ∧ Below w1.heap.size w1 w') := fun w1 hb => by
    have k2 := refPick_any false 5 C R Ar A m cr n c B w1 (hr.far hb hB) (h.far hb hB) (Nat.le_trans hB hb.size) hm hn hf
    rw [pkR_out hg, sum_out] at k2
    exact k2
  have K1 := Lib.hid k1
  have HF : Hid (incFits C R = (fits1 (earnB C R) && (fits1 (spentB C R) && fits1 (earnB C R - spentB C R)))) := rfl
  rw [HF.out]
  clear k1 hr h HF
  generalize earnB C R = ve at *
  generalize spentB C R = vs at *
  obtain ⟨zz, hzz⟩ : ∃ zz, (fits1 ve && (fits1 vs && fits1 (ve - vs))) = zz := ⟨_, rfl⟩
  have HZ := Lib.hid hzz
  rw [hzz]
  clear hzz
  go_enter Tryz.func45, Tryz.ntmps45
  go_wp2_with fail
  refine K1.out.mono ?_
  rintro e w1 ⟨A1, c1, rfl, _, hb1⟩
  have HB1 := Lib.hid hb1
  have K2 := Lib.hid (HK2.out w1 hb1)
  clear hb1 K1 HK2
  go_wp2_with fail
  refine K2.out.mono ?_
  rintro e w2 ⟨A2, c2, rfl, _, hb2⟩
  have HB2 := Lib.hid (HB1.out.trans (hb2.mono HB1.out.size))
  clear hb2 K2
  go_wp2_with fail
  refine (Mo.refFits_any ve _).mono ?_
  rintro e w' ⟨rfl, rfl⟩
  cases f1 : fits1 ve
  · obtain rfl : zz = false := by rw [← HZ.out, f1]; rfl
    clear f1
    go_wp2_with fail
    go_ret3
    exact ⟨rfl, HB2.out⟩
  go_wp2_with fail
  refine (Mo.refFits_any vs _).mono ?_
  rintro e w' ⟨rfl, rfl⟩
  cases f2 : fits1 vs
  · obtain rfl : zz = false := by rw [← HZ.out, f1, f2]; rfl
    clear f1 f2
    go_wp2_with fail
    go_ret3
    exact ⟨rfl, HB2.out⟩
  have g1 := fits1_iff.1 f1
  have g2 := fits1_iff.1 f2
  have hw : IntKind.i64.wrap (ve - vs) = ve - vs := by rw [IntKind.wrap_i64]; omega
  have HZ2 : Hid (fits1 (ve - vs) = zz) := by rw [Hid, ← HZ.out, f1, f2]; rfl
  clear f1 f2 HZ
  go_wp2_with fail
  refine (Mo.refFits_any (ve - vs) _).mono ?_
  rintro e w' ⟨rfl, rfl⟩
  rw [HZ2.out]
  clear hw HZ2
  go_wp2_with fail
  go_ret3
  exact ⟨rfl, HB2.out⟩
end Go.Proofs.YtjlokkjbdgcooaaGreat

/-
  Contract of the reference's Balances of chapter 10.
-/
namespace Go.Proofs.YtjlokkjbdgcooaaGreat
open Mo
open Go.RowKit

set_option maxRecDepth 100000 in
set_option maxHeartbeats 4000000 in
theorem refBals_any (o : OfT) (X : List JR) (A : Option Addr) (n c B : Nat) (w : World) (h : JlRd w B A n X) (hB : B ≤ w.heap.size) (hn : n ≤ 100) (hok : ∀ a ∈ X, checkE a.j = 0) :
    Calls Tryz.prog 33 #[.slice A n c, .int .i64 o.ent, .int .i64 o.frm, .int .i64 o.til] w (BalEnd w o (X.map JR.j)) := by
  have KR := Lib.hid (refRight_any o w)
  have h8 : ∀ a ∈ X, a.j.lines.length ≤ 8 := fun a ha => (checkE_len (hok a ha)).1
  have KL := Lib.hid (refLines_any o X A n c B w h hB (by omega) h8)
  have hXl : X.length = n := by have := h.rd.1; rw [jrs_len] at this; omega
  have hM : ∀ j ∈ X.map JR.j, checkE j = 0 := fun j hj => by
    obtain ⟨a, ha, rfl⟩ := List.mem_map.1 hj
    exact hok a ha
  have hgl := gathL_len (pk := pkL o) (l := X.map JR.j) fun j hj => pkL_le8 (hM j hj)
  rw [List.length_map, hXl] at hgl
  have hfit := gath_fitsB (o := o) hM
  obtain ⟨M, hMM⟩ : ∃ M, X.map JR.j = M := ⟨_, rfl⟩
  rw [hMM] at KL hgl hfit ⊢
  have hpf := putsM_fits hfit
  have hpp := putsM_plus (balsOf (gathL (pkL o) M))
  have hpl := putsM_len (balsOf (gathL (pkL o) M))
  unfold BalEnd PlusEnd
  obtain ⟨LS, hLS⟩ : ∃ LS, gathL (pkL o) M = LS := ⟨_, rfl⟩
  rw [hLS] at KL hgl hfit hpf hpp hpl ⊢
  rw [show (balsOf LS).length = LS.length by unfold balsOf; simp] at hpl
  have HFIT := Lib.hid hfit; have HPF := Lib.hid hpf; have HPP := Lib.hid hpp
  obtain ⟨z, hz⟩ : ∃ z, mayO o = z := ⟨_, rfl⟩
  obtain ⟨pb, hpb⟩ : ∃ pb, plusB (balsOf LS) = pb := ⟨_, rfl⟩
  rw [hz] at KR ⊢
  rw [hpb] at HPF ⊢
  clear h h8 hM hXl hMM hLS hfit hpf hpp hz hpb hok
  obtain ⟨oe, of, ot⟩ := o
  dsimp only at *
  cases z
  · go_enter Tryz.func33, Tryz.ntmps33
    go_wp2_with fail
    refine KR.out.mono ?_
    rintro e w1 ⟨rfl, rfl⟩
    go_wp2_with fail
    go_ret2
    exact .inl ⟨by first | rfl | trivial, rfl, Below.refl _ _⟩
  · go_enter Tryz.func33, Tryz.ntmps33
    go_wp2_with fail
    refine KR.out.mono ?_
    rintro e w1 ⟨rfl, rfl⟩
    go_wp2_with fail
    refine KL.out.mono ?_
    rintro e w2 ⟨A2, c2, rfl, hown2, hb2⟩
    have hz2 := hb2.size
    have HB2 := Lib.hid hb2
    have HR2 : Hid (Rd w2 w2.heap.size 3 A2 LS.length (lins LS)) := rd_of_own hown2
    obtain ⟨m, hm⟩ : ∃ m, LS.length = m := ⟨_, rfl⟩
    rw [hm] at HR2 hgl hpl ⊢
    have HLM := Lib.hid hm
    clear hown2 hb2 KL KR hm
    go_wp2_with fail
    go_loopw [10, 12] (fun lv iv wr => ∃ k : Nat, k ≤ m ∧ iv = .int .i64 k ∧ (∃ L A' c', lv = .slice A' (List.length L) c' ∧ List.length L ≤ k ∧ Hid (putsM ((balsOf LS).take k) = L) ∧ Rd wr wr.heap.size 2 A' (List.length L) (bals L)) ∧ Below w2.heap.size w2 wr) (fun _ iv _ => m - (intOf iv).toNat)
    case atStart => exact ⟨0, Nat.zero_le _, rfl, ⟨[], none, 0, rfl, by simp, rfl, Rd.nil_⟩, Below.refl _ _⟩
    case round =>
      obtain ⟨k, hk, rfl, ⟨L, A', c', rfl, hLl, HI, hrd⟩, hbel⟩ := hrel
      have hzr := hbel.size
      have HBE := Lib.hid hbel
      by_cases hlt : k < m
      · obtain ⟨ad, x, rfl, hb0, hx, p0, p1, p2⟩ := (HR2.out.below hbel).lin hlt
        have p1' := cell_behind (j := 1) p1 (by omega)
        have p2' := cell_behind (j := 2) p2 (by omega)
        have hkI : (k : Int) < (m : Int) := by omega
        have hbx : (balsOf LS)[k]? = some (balOf x) := by unfold balsOf; rw [List.getElem?_map, hx]; rfl
        have hst := putsM_step hbx
        rw [HI.out] at hst
        have hfx := HFIT.out (balOf x) (List.mem_of_getElem? hbx)
        have hbd : ∀ b ∈ L, -4000000000000000000 ≤ b.amt ∧ b.amt ≤ 4000000000000000000 := by
          rw [← HI.out]
          exact putsM_bound (fun y hy => HFIT.out y (List.mem_of_mem_take hy)) (by rw [List.length_take]; omega)
        have hx12 : -1000000000000000 ≤ x.amt ∧ x.amt ≤ 1000000000000000 := by unfold fits1 at hfx; exact of_decide_eq_true hfx
        have hrdd : Rd wr.drew wr.heap.size 2 A' (List.length L) (bals L) := hrd
        have KP := Lib.hid (refPutB_any L x.acct x.amt A' (List.length L) c' wr.heap.size wr.drew hrdd (Nat.le_refl _) (by omega) hbd (by omega) (by omega))
        have HST := Lib.hid hst
        have hpm := putM_len L x.acct x.amt
        clear hx p1 p2 hb0 hbx hst hfx hbd hrd hbel hrdd
        go_wp2_with fail
        have HFIN : Hid (∀ (A4 : Option Addr) (c4 : Nat) (w4 : World), w4.ownsRow wr.drew.heap.size 161 2 (.slice A4 (putM L x.acct x.amt).length c4) (putM L x.acct x.amt).length (bals (putM L x.acct x.amt)) → Below wr.drew.heap.size wr.drew w4 → Rd w4 w4.heap.size 2 A4 (putM L x.acct x.amt).length (bals (putM L x.acct x.amt)) ∧ Below w2.heap.size w2 w4) := fun A4 c4 w4 k1 k2 => ⟨rd_of_own k1, HBE.out.trans (((Below.refl _ wr).drew.trans k2).mono hzr)⟩
        unfold PickEnd at KP
        go_region_law (go_simp; go_at_call 115; refine KP.out.mono ?_; rintro e w4 ⟨A4, c4, rfl, hown4, hb4⟩)
        all_goals
          obtain ⟨g1, g2⟩ := HFIN.out _ _ _ hown4 hb4
          have HR4 := Lib.hid g1; have HB4 := Lib.hid g2
          clear hown4 hb4 g1 g2
          go_wp2_with fail
          exact ⟨⟨k + 1, by omega, by go_num, ⟨putM L x.acct x.amt, _, _, rfl, by omega, HST.out, HR4.out⟩, HB4.out⟩, by simp [intOf]; omega⟩
      · have hkm : k = m := by omega
        have htk : (balsOf LS).take k = balsOf LS := List.take_of_length_le (by unfold balsOf; rw [List.length_map, HLM.out]; omega)
        have hi := HI.out
        rw [htk] at hi
        subst hi
        have HBW := Lib.hid (HB2.out.trans (hbel.mono hz2))
        have kp := refPlain_any (putsM (balsOf LS)) A' _ c' wr.heap.size wr hrd (Nat.le_refl _) (by omega)
        rw [HPF.out] at kp
        have HPL : Hid (plainL (putsM (balsOf LS)) = if pb = true then (putsM (balsOf LS)).filter fun x => x.amt != 0 else []) := by
          have h := HPF.out
          unfold plainL
          rw [Hid, h]
        obtain ⟨PL, hPL⟩ : ∃ PL, plainL (putsM (balsOf LS)) = PL := ⟨_, rfl⟩
        rw [hPL] at kp HPL
        have KP := Lib.hid kp
        clear hbel hrd kp htk hPL
        go_wp2_with fail
        refine KP.out.mono ?_
        rintro e w4 ⟨A4, c4, rfl, hown4, hb4⟩
        have HB4 := Lib.hid (HBW.out.trans (hb4.mono HBW.out.size))
        have HO4 := Lib.hid (own_base hown4 HBW.out.size)
        clear hown4 hb4 KP
        cases pb
        · go_wp2_with fail
          go_ret2
          exact ⟨HB4.out, rfl⟩
        · have hpl := HPL.out
          rw [if_pos rfl] at hpl
          subst hpl
          go_wp2_with fail
          go_ret2
          exact ⟨HB4.out, A4, c4, _, HPP.out, rfl, HO4.out⟩
end Go.Proofs.YtjlokkjbdgcooaaGreat

/-
  Contracts of the statements' Room, Few.
-/
namespace Go.Proofs.YtjlokkjbdgcooaaGreat
open Go.RowKit

def roomV (left s1 s2 : Int) : Int := if left < s1 then -1 else if left - s1 < s2 then -1 else left - s1 - s2
set_option maxRecDepth 100000 in
set_option maxHeartbeats 1000000 in
theorem room_two (left s1 s2 : Int) (b c : Nat) (w : World) (h0 : 0 ≤ left) (h1 : left ≤ 2000) (h2 : 0 ≤ s1) (h3 : 0 ≤ s2) (k0 : w.cell? ⟨b, 0, none⟩ = some (.int .i64 s1)) (k1 : w.cell? ⟨b, 1, none⟩ = some (.int .i64 s2)) :
    Calls Tryz.prog 108 #[.int .i64 left, .slice (some ⟨b, 0, none⟩) 2 c] w fun e w' => e = .returned (.int .i64 (roomV left s1 s2)) ∧ w = w' := by
  unfold roomV
  have t0 : ¬ left < 0 := by omega
  by_cases t1 : left < s1
  · rw [if_pos t1]
    go_enter Tryz.func108, Tryz.ntmps108
    go_wp2_with fail
    refine wp_loop_rounds 2 ?_
    rw [rounds_succ]
    go_wp2_with fail
    go_ret
    exact ⟨rfl, rfl⟩
  · rw [if_neg t1]
    have w1 : IntKind.i64.wrap (left - s1) = left - s1 := by rw [IntKind.wrap_i64]; omega
    have t2 : ¬ left - s1 < 0 := by omega
    by_cases t3 : left - s1 < s2
    · rw [if_pos t3]
      go_enter Tryz.func108, Tryz.ntmps108
      go_wp2_with fail
      refine wp_loop_rounds 2 ?_
      rw [rounds_succ]
      go_wp2_with fail
      rw [rounds_succ]
      go_wp2_with fail
      go_ret
      exact ⟨rfl, rfl⟩
    · rw [if_neg t3]
      have w2 : IntKind.i64.wrap (left - s1 - s2) = left - s1 - s2 := by rw [IntKind.wrap_i64]; omega
      go_enter Tryz.func108, Tryz.ntmps108
      go_wp2_with fail
      refine wp_loop_rounds 3 ?_
      rw [rounds_succ]
      go_wp2_with fail
      rw [rounds_succ]
      go_wp2_with fail
      rw [rounds_succ]
      go_wp2_with fail
      go_ret
      exact ⟨rfl, rfl⟩
/-- Journals that are short enough. -/
def shortJ (l : List JR) : Prop := ∀ a ∈ l, a.j.ref.size ≤ 2000 ∧ a.j.lines.length ≤ 2000

def FewEnd (w : World) (l : List JR) (n : Nat) (e : Ending) (w' : World) : Prop := ∃ z : Bool, e = .returned (.bool z) ∧ (z = true → n ≤ 30 ∧ shortJ l) ∧ Below w.heap.size w w'
theorem FewEnd.mk {w : World} {l : List JR} {n : Nat} {e : Ending} {w' : World} (z : Bool) (h1 : e = .returned (.bool z)) (h2 : z = true → n ≤ 30 ∧ shortJ l) (h3 : Below w.heap.size w w') : FewEnd w l n e w' := ⟨z, h1, h2, h3⟩
set_option maxRecDepth 100000 in
set_option maxHeartbeats 4000000 in
theorem few_any (l : List JR) (A : Option Addr) (n c B : Nat) (w : World) (h : Rd w B 6 A n (jrs l)) (hB : B ≤ w.heap.size) (hn : n ≤ maxLen) (hsz : ∀ a ∈ l, a.j.ref.size ≤ maxLen ∧ a.j.lines.length ≤ maxLen) :
    Calls Tryz.prog 30 #[.int .i64 30, .slice A n c] w (FewEnd w l n) := by
  unfold maxLen at *
  have HL := Lib.hid h.jrs_len
  have HR := Lib.hid h
  have HSZ := Lib.hid hsz
  clear h hsz
  go_enter Tryz.func30, Tryz.ntmps30
  go_wp2_with fail
  go_loopw [5, 6] (fun rv iv wr => ∃ (k : Nat) (r : Int), k ≤ n ∧ k ≤ 31 ∧ iv = .int .i64 k ∧ rv = .int .i64 r ∧ r ≤ 2000 ∧ Hid (0 ≤ r → ∀ i a, i < k → l[i]? = some a → a.j.ref.size ≤ 2000 ∧ a.j.lines.length ≤ 2000) ∧ Below w.heap.size w wr) (fun _ iv _ => 31 - (intOf iv).toNat)
  case atStart => exact ⟨0, 2000, Nat.zero_le _, by omega, rfl, rfl, by omega, fun _ i a hi => by omega, Below.refl _ _⟩
  case round =>
    obtain ⟨k, r, hk, hk31, rfl, rfl, hr, hsh, hbel⟩ := hrel
    have hzr := hbel.size
    by_cases hgo : k < n ∧ k ≤ 30 ∧ 0 ≤ r
    · obtain ⟨hlt, hk30, hr0⟩ := hgo
      have hkn : (k : Int) < (n : Int) := by omega
      have hk30I : (k : Int) ≤ 30 := by omega
      obtain ⟨ad, b, rfl, hb1, hx, p1, p2, p3, p4, p5, p6⟩ := (HR.out.far hbel hB).jr hlt
      have hs1 := HSZ.out b (List.mem_of_getElem? hx)
      have KR : Hid (∀ w1, w1.cell? ⟨wr.heap.size, 0, none⟩ = some (.int .i64 (b.j.ref.size : Nat)) → w1.cell? ⟨wr.heap.size, 1, none⟩ = some (.int .i64 (b.j.lines.length : Nat)) → Calls Tryz.prog 108 #[.int .i64 r, .slice (some ⟨wr.heap.size, 0, none⟩) 2 2] w1 fun e w' => e = .returned (.int .i64 (roomV r (b.j.ref.size : Nat) (b.j.lines.length : Nat))) ∧ w1 = w') := fun w1 h1 h2 => room_two r _ _ wr.heap.size 2 w1 hr0 hr (by omega) (by omega) h1 h2
      have HV : Hid (roomV r (b.j.ref.size : Nat) (b.j.lines.length : Nat) ≤ 2000 ∧ (0 ≤ roomV r (b.j.ref.size : Nat) (b.j.lines.length : Nat) → ∀ i a, i < k + 1 → l[i]? = some a → a.j.ref.size ≤ 2000 ∧ a.j.lines.length ≤ 2000)) := by
        unfold Hid roomV
        split
        · exact ⟨by omega, fun h => by omega⟩
        · split
          · exact ⟨by omega, fun h => by omega⟩
          · refine ⟨by omega, fun _ i a hi ha => ?_⟩
            rcases Nat.lt_or_ge i k with h1 | h1
            · exact hsh.out hr0 i a h1 ha
            · obtain rfl : i = k := by omega
              rw [hx] at ha
              injection ha with ha
              subst ha
              omega
      have HB2 : Hid (∀ o, Below w.heap.size w (wr.drew.alloc o)) := fun o => hbel.drew.alloc hzr o
      have hblt : ad.block < wr.heap.size := by omega
      clear hx hsh hbel
      generalize roomV r (b.j.ref.size : Nat) (b.j.lines.length : Nat) = V at *
      go_wp2_with fail
      go_region_law (go_simp; go_at_call 108; refine (KR.out _ (by simp [go_sem]) (by simp [go_sem])).mono ?_; rintro e w' ⟨rfl, rfl⟩)
      all_goals
        go_wp2_with fail
        exact ⟨⟨k + 1, V, by omega, by omega, by go_num, rfl, HV.out.1, HV.out.2, HB2.out _⟩, by simp [intOf]; omega⟩
    · have HFIN : Hid ((decide ((n : Int) ≤ 30) && decide (0 ≤ r)) = true → n ≤ 30 ∧ shortJ l) := by
        intro hh
        simp only [Bool.and_eq_true, decide_eq_true_eq] at hh
        have hkn : k = n := by omega
        refine ⟨by omega, fun a ha => ?_⟩
        obtain ⟨i, hi⟩ := List.mem_iff_getElem?.1 ha
        exact hsh.out hh.2 i a (by have := (List.getElem?_eq_some_iff.1 hi).1; have := HL.out; omega) hi
      have HB := Lib.hid hbel
      clear hsh hbel
      by_cases g1 : k < n
      · have hkn : (k : Int) < (n : Int) := by omega
        by_cases g2 : (k : Int) ≤ 30
        · have g3 : ¬ 0 ≤ r := by omega
          by_cases g4 : (n : Int) ≤ 30
          all_goals
            go_wp2_with fail
            go_ret
            exact FewEnd.mk _ rfl (fun h => by simp_all) HB.out
        · have g4 : ¬ (n : Int) ≤ 30 := by omega
          go_wp2_with fail
          go_ret
          exact FewEnd.mk _ rfl (fun h => by simp_all) HB.out
      · have hkn : ¬ (k : Int) < (n : Int) := by omega
        by_cases g4 : (n : Int) ≤ 30
        · by_cases g5 : 0 ≤ r
          all_goals
            go_wp2_with fail
            go_ret
            exact FewEnd.mk _ rfl (fun h => HFIN.out (by simp_all)) HB.out
        · go_wp2_with fail
          go_ret
          exact FewEnd.mk _ rfl (fun h => by simp_all) HB.out
end Go.Proofs.YtjlokkjbdgcooaaGreat

/-
  Contract of the statements' Few, whatever the number.
-/
namespace Go.Proofs.YtjlokkjbdgcooaaGreat
open Go.RowKit

def FewEndM (m : Nat) (w : World) (l : List JR) (n : Nat) (e : Ending) (w' : World) : Prop := ∃ z : Bool, e = .returned (.bool z) ∧ (z = true → n ≤ m ∧ shortJ l) ∧ Below w.heap.size w w'
theorem FewEndM.mk {m : Nat} {w : World} {l : List JR} {n : Nat} {e : Ending} {w' : World} (z : Bool) (h1 : e = .returned (.bool z)) (h2 : z = true → n ≤ m ∧ shortJ l) (h3 : Below w.heap.size w w') : FewEndM m w l n e w' := ⟨z, h1, h2, h3⟩
set_option maxRecDepth 100000 in
set_option maxHeartbeats 4000000 in
theorem fewM_any (m : Nat) (hm : m ≤ 1000) (l : List JR) (A : Option Addr) (n c B : Nat) (w : World) (h : Rd w B 6 A n (jrs l)) (hB : B ≤ w.heap.size) (hn : n ≤ maxLen) (hsz : ∀ a ∈ l, a.j.ref.size ≤ maxLen ∧ a.j.lines.length ≤ maxLen) :
    Calls Tryz.prog 30 #[.int .i64 (m : Int), .slice A n c] w (FewEndM m w l n) := by
  unfold maxLen at *
  have HL := Lib.hid h.jrs_len
  have HR := Lib.hid h
  have HSZ := Lib.hid hsz
  clear h hsz
  go_enter Tryz.func30, Tryz.ntmps30
  go_wp2_with fail
  go_loopw [5, 6] (fun rv iv wr => ∃ (k : Nat) (r : Int), k ≤ n ∧ k ≤ m + 1 ∧ iv = .int .i64 k ∧ rv = .int .i64 r ∧ r ≤ 2000 ∧ Hid (0 ≤ r → ∀ i a, i < k → l[i]? = some a → a.j.ref.size ≤ 2000 ∧ a.j.lines.length ≤ 2000) ∧ Below w.heap.size w wr) (fun _ iv _ => m + 1 - (intOf iv).toNat)
  case atStart => exact ⟨0, 2000, Nat.zero_le _, by omega, rfl, rfl, by omega, fun _ i a hi => by omega, Below.refl _ _⟩
  case round =>
    obtain ⟨k, r, hk, hk31, rfl, rfl, hr, hsh, hbel⟩ := hrel
    have hzr := hbel.size
    by_cases hgo : k < n ∧ k ≤ m ∧ 0 ≤ r
    · obtain ⟨hlt, hk30, hr0⟩ := hgo
      have hkn : (k : Int) < (n : Int) := by omega
      have hk30I : (k : Int) ≤ (m : Int) := by omega
      obtain ⟨ad, b, rfl, hb1, hx, p1, p2, p3, p4, p5, p6⟩ := (HR.out.far hbel hB).jr hlt
      have hs1 := HSZ.out b (List.mem_of_getElem? hx)
      have KR : Hid (∀ w1, w1.cell? ⟨wr.heap.size, 0, none⟩ = some (.int .i64 (b.j.ref.size : Nat)) → w1.cell? ⟨wr.heap.size, 1, none⟩ = some (.int .i64 (b.j.lines.length : Nat)) → Calls Tryz.prog 108 #[.int .i64 r, .slice (some ⟨wr.heap.size, 0, none⟩) 2 2] w1 fun e w' => e = .returned (.int .i64 (roomV r (b.j.ref.size : Nat) (b.j.lines.length : Nat))) ∧ w1 = w') := fun w1 h1 h2 => room_two r _ _ wr.heap.size 2 w1 hr0 hr (by omega) (by omega) h1 h2
      have HV : Hid (roomV r (b.j.ref.size : Nat) (b.j.lines.length : Nat) ≤ 2000 ∧ (0 ≤ roomV r (b.j.ref.size : Nat) (b.j.lines.length : Nat) → ∀ i a, i < k + 1 → l[i]? = some a → a.j.ref.size ≤ 2000 ∧ a.j.lines.length ≤ 2000)) := by
        unfold Hid roomV
        split
        · exact ⟨by omega, fun h => by omega⟩
        · split
          · exact ⟨by omega, fun h => by omega⟩
          · refine ⟨by omega, fun _ i a hi ha => ?_⟩
            rcases Nat.lt_or_ge i k with h1 | h1
            · exact hsh.out hr0 i a h1 ha
            · obtain rfl : i = k := by omega
              rw [hx] at ha
              injection ha with ha
              subst ha
              omega
      have HB2 : Hid (∀ o, Below w.heap.size w (wr.drew.alloc o)) := fun o => hbel.drew.alloc hzr o
      have hblt : ad.block < wr.heap.size := by omega
      clear hx hsh hbel
      generalize roomV r (b.j.ref.size : Nat) (b.j.lines.length : Nat) = V at *
      go_wp2_with fail
      go_region_law (go_simp; go_at_call 108; refine (KR.out _ (by simp [go_sem]) (by simp [go_sem])).mono ?_; rintro e w' ⟨rfl, rfl⟩)
      all_goals
        go_wp2_with fail
        exact ⟨⟨k + 1, V, by omega, by omega, by go_num, rfl, HV.out.1, HV.out.2, HB2.out _⟩, by simp [intOf]; omega⟩
    · have HFIN : Hid ((decide ((n : Int) ≤ (m : Int)) && decide (0 ≤ r)) = true → n ≤ m ∧ shortJ l) := by
        intro hh
        simp only [Bool.and_eq_true, decide_eq_true_eq] at hh
        have hkn : k = n := by omega
        refine ⟨by omega, fun a ha => ?_⟩
        obtain ⟨i, hi⟩ := List.mem_iff_getElem?.1 ha
        exact hsh.out hh.2 i a (by have := (List.getElem?_eq_some_iff.1 hi).1; have := HL.out; omega) hi
      have HB := Lib.hid hbel
      clear hsh hbel
      by_cases g1 : k < n
      · have hkn : (k : Int) < (n : Int) := by omega
        by_cases g2 : (k : Int) ≤ (m : Int)
        · have g3 : ¬ 0 ≤ r := by omega
          by_cases g4 : (n : Int) ≤ (m : Int)
          all_goals
            go_wp2_with fail
            go_ret
            exact FewEndM.mk _ rfl (fun h => by simp_all) HB.out
        · have g4 : ¬ (n : Int) ≤ (m : Int) := by omega
          go_wp2_with fail
          go_ret
          exact FewEndM.mk _ rfl (fun h => by simp_all) HB.out
      · have hkn : ¬ (k : Int) < (n : Int) := by omega
        by_cases g4 : (n : Int) ≤ (m : Int)
        · by_cases g5 : 0 ≤ r
          all_goals
            go_wp2_with fail
            go_ret
            exact FewEndM.mk _ rfl (fun h => HFIN.out (by simp_all)) HB.out
        · go_wp2_with fail
          go_ret
          exact FewEndM.mk _ rfl (fun h => by simp_all) HB.out
end Go.Proofs.YtjlokkjbdgcooaaGreat

/-
  Contracts of the statements' helpers over lists of ints: copies, lent lists, comparisons.
-/
namespace Go.Proofs.YtjlokkjbdgcooaaGreat
open Go.RowKit

set_option maxRecDepth 100000 in
set_option maxHeartbeats 400000 in
theorem copyInts_any (l : List Int) (A : Option Addr) (n c B : Nat) (w : World) (h : Rd w B 1 A n (ints .i64 l)) (hn : n ≤ 17592186044000) :
    Calls Tryz.prog 49 #[.slice A n c] w fun e w' => ∃ A' c', e = .returned (.slice A' n c') ∧ w'.ownsRow w.heap.size 3 1 (.slice A' n c') n (ints .i64 l) ∧ Below w.heap.size w w' := by
  obtain ⟨v', w', hrun, hown, hg, _⟩ := append_fresh (P := Tryz.prog) (w := w) (ty := 22) (c := c) infoInt Tryz.underlying22 rfl (by omega) w.heap.size (.slice none 0 0) 0 [] (World.ownsRow_nil w _ _ _) h (ints_one _ _) (by unfold maxLen; omega) (by omega) (Nat.le_refl _)
  rw [Nat.zero_add, List.nil_append] at hown
  obtain ⟨A', c', rfl⟩ := own_form hown
  have HO := Lib.hid hown
  have HG := Lib.hid hg
  have HR := Lib.hid hrun
  clear hown hg h hn hrun
  go_enter Tryz.func49, Tryz.ntmps49
  go_wp2_with (at_builtin; refine wpList_append_run rfl _ _ _ rfl _ _ _ _ rfl rfl HR.out ?_)
  go_ret
  exact ⟨A', c', rfl, HO.out, (Below.refl _ _).grown HG.out (Nat.le_refl _) (fun k h => by cases h)⟩
end Go.Proofs.YtjlokkjbdgcooaaGreat

/-
  Contracts of SameInts, LentInts, StaysInts.
-/
namespace Go.Proofs.YtjlokkjbdgcooaaGreat
open Go.RowKit

theorem same_step {l m : List Int} {k : Nat} (h : l.length = m.length) (hk : k < l.length) (h1 : l.take k = m.take k) (h2 : l[k]?.getD 0 = m[k]?.getD 0) : l.take (k + 1) = m.take (k + 1) := by
  rw [List.take_succ_eq_append_getElem hk, List.take_succ_eq_append_getElem (by omega), h1]
  simp [hk, show k < m.length by omega] at h2
  rw [h2]

set_option maxRecDepth 100000 in
set_option maxHeartbeats 400000 in
theorem sameInts_any (l m : List Int) (A1 A2 : Option Addr) (n1 n2 c1 c2 B1 B2 : Nat) (w : World) (h1 : Rd w B1 1 A1 n1 (ints .i64 l)) (h2 : Rd w B2 1 A2 n2 (ints .i64 m)) (hn1 : n1 ≤ maxLen) (hn2 : n2 ≤ maxLen) :
    Calls Tryz.prog 20 #[.slice A1 n1 c1, .slice A2 n2 c2] w fun e w' => e = .returned (.bool (l == m)) ∧ Drew w w' := by
  unfold maxLen at hn1 hn2
  have L1 := Lib.hid h1.ints_len
  have L2 := Lib.hid h2.ints_len
  by_cases hne : n1 = n2
  · subst hne
    have t1 : ((n1 : Int) != (n1 : Int)) = false := by simp
    go_enter Tryz.func20, Tryz.ntmps20
    go_wp2_with fail
    go_loopw [5] (fun i wr => ∃ k : Nat, k ≤ n1 ∧ i = .int .i64 k ∧ Hid (l.take k = m.take k) ∧ Drew w wr) (fun i _ => n1 - (intOf i).toNat)
    case atStart => exact ⟨0, Nat.zero_le _, rfl, by simp [Hid], Drew.refl _⟩
    case round =>
      obtain ⟨k, hk, rfl, hs, q, rfl⟩ := hrel
      by_cases hlt : k < n1
      · obtain ⟨a1, rfl, hb1, hc1⟩ := h1.int hlt
        obtain ⟨a2, rfl, hb2, hc2⟩ := h2.int hlt
        have hkn : (k : Int) < (n1 : Int) := by omega
        have HX : Hid (l[k]?.getD 0 = m[k]?.getD 0 → l.take (k + 1) = m.take (k + 1)) := fun h => same_step (by have := L1.out; have := L2.out; omega) (by have := L1.out; omega) hs.out h
        have HY : Hid (l[k]?.getD 0 ≠ m[k]?.getD 0 → (l == m) = false) := by
          intro h
          rw [beq_eq_false_iff_ne]
          intro e
          exact h (by rw [e])
        generalize l[k]?.getD 0 = x at *
        generalize m[k]?.getD 0 = y at *
        by_cases hxy : x = y
        · have t2 : (x == y) = true := by rw [beq_iff_eq]; exact hxy
          have HXY := Lib.hid hxy
          clear hxy
          go_wp2_with fail
          go_quiet (fail)
          go_wp2
          exact ⟨⟨k + 1, by omega, by go_num, HX.out HXY.out, Drew.add _ _⟩, by simp [intOf]; omega⟩
        · have t2 : (x == y) = false := by rw [beq_eq_false_iff_ne]; exact hxy
          have HXY := Lib.hid hxy
          clear hxy
          go_wp2_with fail
          go_quiet (fail)
          go_wp2
          go_ret
          exact ⟨ret_bool (HY.out HXY.out).symm, ⟨_, World.drewN_drewN _ _ _⟩⟩
      · go_wp2
        go_ret
        refine ⟨ret_bool ?_, _, rfl⟩
        have := hs.out
        rw [List.take_of_length_le (by have := L1.out; omega), List.take_of_length_le (by have := L2.out; omega)] at this
        rw [this]; simp
  · have t1 : ((n1 : Int) != (n2 : Int)) = true := by rw [bne_iff_ne]; omega
    have HN := Lib.hid hne
    clear hne
    go_enter Tryz.func20, Tryz.ntmps20
    go_wp2
    go_ret
    refine ⟨ret_bool ?_, Drew.refl _⟩
    symm
    rw [beq_eq_false_iff_ne]
    intro e
    have := L1.out; have := L2.out
    rw [e] at *
    have := HN.out; omega

end Go.Proofs.YtjlokkjbdgcooaaGreat
