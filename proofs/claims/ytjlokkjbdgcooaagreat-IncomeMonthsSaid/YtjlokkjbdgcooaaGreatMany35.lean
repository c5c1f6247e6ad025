/-
  Several texts, one behind the other: what each holds stands ahead of it.
-/
import Derived.Test.YtjlokkjbdgcooaaGreatMany27
import Derived.Test.YtjlokkjbdgcooaaGreatMany30
import Derived.Test.YtjlokkjbdgcooaaGreatMany18
import Derived.Test.YtjlokkjbdgcooaaGreatMany29
import Derived.Test.YtjlokkjbdgcooaaGreatIncMake
import Derived.BigQuiet

/-
  Contract of the reference's Kind.
-/
namespace Go.Proofs.YtjlokkjbdgcooaaGreat
open Go.RowKit

set_option maxRecDepth 100000 in
set_option maxHeartbeats 1000000 in
theorem refKind_any (l : List Acc) (x : Int) (A : Option Addr) (n c B : Nat) (w : World) (h : Rd w B 3 A n (accs l)) (hB : B ≤ w.heap.size) (hn : n ≤ 1000000) :
    Calls Tryz.prog 125 #[.slice A n c, .int .i64 x] w fun e w' => e = .returned (.int .i64 (kindA l x)) ∧ Below w.heap.size w w' := by
  have kg := refAccount_any l x A n c B w h hB hn
  unfold getV at kg
  unfold kindA
  clear h
  generalize (findA l x).getD acc0 = a at *
  generalize (findA l x).isSome = t at *
  obtain ⟨x1, x2, x3⟩ := a
  unfold Acc.val at kg
  go_enter Tryz.func125, Tryz.ntmps125
  go_wp2_with fail
  refine kg.mono ?_
  rintro e w2 ⟨rfl, hb⟩
  have hz := hb.size
  have HB := Lib.hid hb
  clear hb
  go_wp2
  go_ret
  refine ⟨rfl, ?_⟩
  first | exact HB.out.alloc (by omega) _ | exact (((HB.out.alloc (by omega) _).setCell (by simp; omega) _).setCell (by simp; omega) _).setCell (by simp; omega) _
end Go.Proofs.YtjlokkjbdgcooaaGreat

/-
  Contracts of the document's own Fits and Add.
-/
namespace Go.Proofs.YtjlokkjbdgcooaaGreat.Mo
open Go.RowKit

set_option maxHeartbeats 400000 in
theorem refFits_any (a : Int) (w : World) : Calls Tryz.prog 50 #[.int .i64 a] w fun e w' => e = .returned (.bool (fits1 a)) ∧ w = w' := by
  by_cases h1 : -1000000000000000 ≤ a
  · go_enter Tryz.func50, Tryz.ntmps50
    go_wp2
    go_ret
    exact ⟨ret_bool (by unfold fits1; rw [Bool.eq_iff_iff]; simp; omega), rfl⟩
  · go_enter Tryz.func50, Tryz.ntmps50
    go_wp2
    go_ret
    exact ⟨ret_bool (by unfold fits1; rw [Bool.eq_iff_iff]; simp; omega), rfl⟩

theorem fitsTo_bd {l : List Int} {k : Nat} (h : fitsAll (l.take k) = true) (hk : k ≤ l.length) : -(1000000000000000 * (k : Int)) ≤ sumTo l k ∧ sumTo l k ≤ 1000000000000000 * (k : Int) := by
  have := fitsAll_bd h k (by simp; omega)
  simpa [sumTo, List.take_take] using this

end Go.Proofs.YtjlokkjbdgcooaaGreat.Mo

/-
  Contracts of the reference's Pick and Net.
-/
namespace Go.Proofs.YtjlokkjbdgcooaaGreat
open Go.RowKit
open Mo

def turnB (z : Bool) (l : List Bal) : List Bal := if z = true then negB l else l
def pkR (C : List Acc) (kd : Int) (l : List Bal) : List Bal := l.filter fun x => decide (kindA C x.acct = kd)
def turnX (z : Bool) (x : Int) : Int := if z = true then -x else x
theorem turnB_append (z : Bool) (l m : List Bal) : turnB z (l ++ m) = turnB z l ++ turnB z m := by
  cases z
  · rfl
  · simp [turnB, negB]
theorem turnB_len (z : Bool) (l : List Bal) : (turnB z l).length = l.length := by
  cases z
  · rfl
  · exact negB_len l
theorem pkR_len (C : List Acc) (kd : Int) (l : List Bal) : (pkR C kd l).length ≤ l.length := List.length_filter_le _ _
theorem amts_bound : ∀ L : List Bal, fitsAll (amts L) = true → -(1000000000000000 * (L.length : Int)) ≤ (amts L).sum ∧ (amts L).sum ≤ 1000000000000000 * (L.length : Int)
  | [], _ => by simp [amts]
  | x :: r, h => by
    rw [fitsAll_iff] at h
    have hx := fits1_iff.1 (h x.amt (by simp [amts]))
    have ih := amts_bound r (by
      rw [fitsAll_iff]
      intro y hy
      exact h y (by unfold amts at hy ⊢; rw [List.map_cons]; exact List.mem_cons_of_mem _ hy))
    unfold amts at ih ⊢
    rw [List.map_cons, List.sum_cons, List.length_cons]
    omega
theorem turnB_fits {z : Bool} {l : List Bal} (h : fitsAll (amts l) = true) : fitsAll (amts (turnB z l)) = true := by
  cases z
  · exact h
  · show fitsAll (amts (negB l)) = true
    rw [fitsAll_negB]; exact h
theorem filter_fits {p : Bal → Bool} {l : List Bal} (h : fitsAll (amts l) = true) : fitsAll (amts (l.filter p)) = true := by
  rw [fitsAll_iff] at h ⊢
  intro x hx
  obtain ⟨y, hy, rfl⟩ := List.mem_map.1 hx
  exact h _ (List.mem_map.2 ⟨y, (List.mem_filter.1 hy).1, rfl⟩)
theorem take_fits {l : List Bal} (k : Nat) (h : fitsAll (amts l) = true) : fitsAll (amts (l.take k)) = true := by
  rw [fitsAll_iff] at h ⊢
  intro x hx
  obtain ⟨y, hy, rfl⟩ := List.mem_map.1 hx
  exact h _ (List.mem_map.2 ⟨y, List.mem_of_mem_take hy, rfl⟩)
theorem amts_snoc (L : List Bal) (x : Bal) : (amts (L ++ [x])).sum = (amts L).sum + x.amt := by simp [amts]

set_option maxRecDepth 100000 in
set_option maxHeartbeats 4000000 in
theorem refPick_any (z : Bool) (kd : Int) (C : List Acc) (l : List Bal) (Ar A : Option Addr) (m cr n c B : Nat) (w : World) (hr : Rd w B 3 Ar m (accs C)) (h : Rd w B 2 A n (bals l)) (hB : B ≤ w.heap.size) (hm : m ≤ 1000) (hn : n ≤ 1000) (hf : fitsAll (amts l) = true) :
    Calls Tryz.prog 44 #[.slice Ar m cr, .slice A n c, .int .i64 kd, .bool z] w fun e w' => ∃ A' c', e = .returned (.tuple #[.slice A' (turnB z (pkR C kd l)).length c', .int .i64 (amts (turnB z (pkR C kd l))).sum]) ∧ w'.ownsRow w.heap.size 161 2 (.slice A' (turnB z (pkR C kd l)).length c') (turnB z (pkR C kd l)).length (bals (turnB z (pkR C kd l))) ∧ Below w.heap.size w w' := by
  have hll : l.length = n := h.bals_len
  have HR := Lib.hid hr; have HL := Lib.hid h; have HF := Lib.hid hf; have HLL := Lib.hid hll
  clear hr h hf hll
  go_enter Tryz.func44, Tryz.ntmps44
  go_wp2_with fail
  go_loopw [10, 11, 12] (fun lv sv iv wr => ∃ k : Nat, k ≤ n ∧ iv = .int .i64 k ∧ (∃ L A' c', lv = .slice A' (List.length L) c' ∧ sv = .int .i64 (amts L).sum ∧ List.length L ≤ k ∧ Hid (turnB z (pkR C kd (l.take k)) = L) ∧ wr.ownsRow w.heap.size 161 2 (.slice A' (List.length L) c') (List.length L) (bals L)) ∧ Below w.heap.size w wr) (fun _ _ iv _ => n - (intOf iv).toNat)
  case atStart => exact ⟨0, Nat.zero_le _, rfl, ⟨[], none, 0, rfl, rfl, by simp, by cases z <;> rfl, World.ownsRow_nil _ _ _ _⟩, Below.refl _ _⟩
  case round =>
    obtain ⟨k, hk, rfl, ⟨L, A', c', rfl, rfl, hLl, HI, hown⟩, hbel⟩ := hrel
    have hzr := hbel.size
    by_cases hlt : k < n
    · obtain ⟨ad, x, rfl, hb0, hx, p0, p1⟩ := (HL.out.far hbel hB).bal hlt
      have p1' := cell_behind (j := 1) p1 (by omega)
      have hkI : (k : Int) < (n : Int) := by omega
      have HY := Lib.hid (filter_yes (p := fun x => decide (kindA C x.acct = kd)) hx)
      have HN := Lib.hid (filter_no (p := fun x => decide (kindA C x.acct = kd)) hx)
      have hfx := fits1_iff.1 ((fitsAll_iff.1 HF.out) x.amt (List.mem_map.2 ⟨x, List.mem_of_getElem? hx, rfl⟩))
      have hsb : -(1000000000000000 * (L.length : Int)) ≤ (amts L).sum ∧ (amts L).sum ≤ 1000000000000000 * (L.length : Int) := amts_bound L (by rw [← HI.out]; exact turnB_fits (filter_fits (take_fits k HF.out)))
      have KK := Lib.hid (refKind_any C x.acct Ar m cr B wr (HR.out.far hbel hB) (by omega) (by omega))
      have HO := Lib.hid hown; have HBE := Lib.hid hbel
      have HX : Hid (∀ u, u = kindA C x.acct → (decide (kindA C x.acct = kd)) = decide (u = kd)) := fun u h => by rw [h]
      clear hx hown hbel p1
      obtain ⟨kk, hkk⟩ : ∃ kk, kindA C x.acct = kk := ⟨_, rfl⟩
      rw [hkk] at KK
      have HKK := Lib.hid hkk
      obtain ⟨S, hS⟩ : ∃ S, (amts L).sum = S := ⟨_, rfl⟩
      have HS := Lib.hid hS
      rw [hS] at hsb ⊢
      clear hkk hS HX
      obtain ⟨x1, x2⟩ := x
      dsimp only at *
      have hw1 : IntKind.i64.wrap (-x2) = -x2 := by rw [IntKind.wrap_i64]; omega
      have hw2 : IntKind.i64.wrap (S + x2) = S + x2 := by rw [IntKind.wrap_i64]; omega
      have hw3 : IntKind.i64.wrap (S + -x2) = S + -x2 := by rw [IntKind.wrap_i64]; omega
      go_wp2_with fail
      refine KK.out.mono ?_
      rintro e w4 ⟨rfl, hb4⟩
      have hz4 := hb4.size
      have HB4 := Lib.hid (HBE.out.trans (hb4.mono hzr))
      have q0 : w4.cell? (ad.add (k * 2)) = some (.int .i64 x1) := by rw [hb4.cell (by rw [add_block]; omega)]; exact p0
      have q1 : w4.cell? ⟨(ad.add (k * 2)).block, (ad.add (k * 2)).off + 1, none⟩ = some (.int .i64 x2) := by rw [hb4.cell (by show (ad.add (k * 2)).block < _; rw [add_block]; omega)]; exact p1'
      have hown4 := own_kept HO.out fun q hq _ => hb4.block q hq
      have HO4 := Lib.hid hown4
      clear hb4 p0 p1' KK
      by_cases hkd : kk = kd
      · have t1 : (kk != kd) = false := by simpa using hkd
        have HY2 : Hid (turnB z (pkR C kd (l.take (k + 1))) = L ++ turnB z [⟨x1, x2⟩]) := by
          unfold Hid pkR
          rw [HY.out (by rw [HKK.out]; exact decide_eq_true hkd), turnB_append]
          have := HI.out
          unfold pkR at this
          rw [this]
        clear hkd
        cases z
        · have HY3 : Hid (turnB false (pkR C kd (l.take (k + 1))) = L ++ [⟨x1, x2⟩]) := HY2.out
          obtain ⟨W5, hW5⟩ : ∃ W5, w4.alloc (.cells #[.int .i64 x1, .int .i64 (x2)] 161) = W5 := ⟨_, rfl⟩
          have hb5 : Below w4.heap.size w4 W5 := by rw [← hW5]; exact (Below.refl _ _).alloc (Nat.le_refl _) _
          have hz5 : W5.heap.size = w4.heap.size + 1 := by rw [← hW5]; simp
          have hh5 : W5.heap[w4.heap.size]? = some (.cells #[.int .i64 x1, .int .i64 (x2)] 161 (0, 0)) := by rw [← hW5]; exact heap_new w4 _
          obtain ⟨v7, w7, hrun, hown7, hbut7, hb7, _⟩ := append_bal1 (w := W5) ⟨x1, x2⟩ (own_kept hown4 fun q hq _ => hb5.block q hq) (by omega) (by omega)
          obtain ⟨A7, c7, rfl⟩ := own_form hown7
          have HO7 := Lib.hid hown7
          have HB7 := Lib.hid ((HB4.out.trans (hb5.mono HB4.out.size)).trans hb7)
          have hh7 := (hbut7.block _ (lt_of_blk hh5) (fun e => by have := own_lt hown4 _ e; omega)).trans hh5
          have y1 := cell_of hh7 1
          dsimp at y1
          have HSS : Hid ((amts (L ++ [(⟨x1, x2⟩ : Bal)])).sum = S + (x2)) := by unfold Hid; rw [amts_snoc, HS.out]
          have HLE : Hid ((L ++ [(⟨x1, x2⟩ : Bal)]).length = L.length + 1) := by simp [Hid]
          rw [hz5, ← hW5] at hrun
          dsimp only at hrun
          clear hown7 hb7 hb5 hz5 hW5 hown4 hh5 hbut7 hh7
          go_wp2_with (at_builtin; refine Lib.wpList_append_run _ rfl _ _ _ _ rfl _ _ rfl rfl _ _ (hrun _) ?_)
          exact ⟨⟨k + 1, by omega, by go_num, ⟨L ++ [⟨x1, x2⟩], A7, c7, by rw [HLE.out], by rw [HSS.out], by rw [HLE.out]; omega, HY3, by rw [HLE.out]; exact HO7.out⟩, HB7.out⟩, by simp [intOf]; omega⟩
        · have HY3 : Hid (turnB true (pkR C kd (l.take (k + 1))) = L ++ [⟨x1, -x2⟩]) := HY2.out
          obtain ⟨W5, hW5⟩ : ∃ W5, w4.alloc (.cells #[.int .i64 x1, .int .i64 (-x2)] 161) = W5 := ⟨_, rfl⟩
          have hb5 : Below w4.heap.size w4 W5 := by rw [← hW5]; exact (Below.refl _ _).alloc (Nat.le_refl _) _
          have hz5 : W5.heap.size = w4.heap.size + 1 := by rw [← hW5]; simp
          have hh5 : W5.heap[w4.heap.size]? = some (.cells #[.int .i64 x1, .int .i64 (-x2)] 161 (0, 0)) := by rw [← hW5]; exact heap_new w4 _
          obtain ⟨v7, w7, hrun, hown7, hbut7, hb7, _⟩ := append_bal1 (w := W5) ⟨x1, -x2⟩ (own_kept hown4 fun q hq _ => hb5.block q hq) (by omega) (by omega)
          obtain ⟨A7, c7, rfl⟩ := own_form hown7
          have HO7 := Lib.hid hown7
          have HB7 := Lib.hid ((HB4.out.trans (hb5.mono HB4.out.size)).trans hb7)
          have hh7 := (hbut7.block _ (lt_of_blk hh5) (fun e => by have := own_lt hown4 _ e; omega)).trans hh5
          have y1 := cell_of hh7 1
          dsimp at y1
          have HSS : Hid ((amts (L ++ [(⟨x1, -x2⟩ : Bal)])).sum = S + (-x2)) := by unfold Hid; rw [amts_snoc, HS.out]
          have HLE : Hid ((L ++ [(⟨x1, -x2⟩ : Bal)]).length = L.length + 1) := by simp [Hid]
          rw [hz5, ← hW5] at hrun
          dsimp only at hrun
          clear hown7 hb7 hb5 hz5 hW5 hown4 hh5 hbut7 hh7
          go_wp2_with (at_builtin; refine Lib.wpList_append_run _ rfl _ _ _ _ rfl _ _ rfl rfl _ _ (hrun _) ?_)
          exact ⟨⟨k + 1, by omega, by go_num, ⟨L ++ [⟨x1, -x2⟩], A7, c7, by rw [HLE.out], by rw [HSS.out], by rw [HLE.out]; omega, HY3, by rw [HLE.out]; exact HO7.out⟩, HB7.out⟩, by simp [intOf]; omega⟩
      · have t1 : (kk != kd) = true := by simpa using hkd
        have HN2 : Hid (turnB z (pkR C kd (l.take (k + 1))) = L) := by
          unfold Hid pkR
          rw [HN.out (by rw [HKK.out]; exact decide_eq_false hkd)]
          exact HI.out
        clear hkd hown4
        go_wp2_with fail
        exact ⟨⟨k + 1, by omega, by go_num, ⟨L, A', c', rfl, by rw [HS.out], by omega, HN2, HO4.out⟩, HB4.out⟩, by simp [intOf]; omega⟩
    · have hkn : k = n := by omega
      have hi := HI.out
      rw [List.take_of_length_le (by rw [HLL.out]; omega)] at hi
      subst hi
      have HO := Lib.hid hown; have HBE := Lib.hid hbel
      clear hown hbel
      go_wp2_with fail
      go_ret2
      exact ⟨_, _, rfl, HO.out, HBE.out⟩
theorem pkR_in {C : List Acc} (hg : GoodA C) (l : List Bal) : turnB true (pkR C 4 l) = inL C l := by
  unfold turnB inL pkR pickB
  rw [if_pos rfl]
  congr 1
  apply List.filter_congr
  intro x _
  rw [kindL_contains hg, Bool.eq_iff_iff]
  simp
  omega
theorem pkR_out {C : List Acc} (hg : GoodA C) (l : List Bal) : turnB false (pkR C 5 l) = outL C l := by
  unfold turnB outL pkR pickB
  rw [if_neg (by decide)]
  apply List.filter_congr
  intro x _
  rw [kindL_contains hg, Bool.eq_iff_iff]
  simp
  omega
end Go.Proofs.YtjlokkjbdgcooaaGreat

/-
  Contract of the reference's Net.
-/
namespace Go.Proofs.YtjlokkjbdgcooaaGreat
open Go.RowKit
open Mo

theorem sum_out {C : List Acc} {R : List Bal} : (amts (outL C R)).sum = spentB C R := rfl
set_option maxRecDepth 100000 in
set_option maxHeartbeats 2000000 in
theorem refNet_any (C : List Acc) (R : List Bal) (Ar A : Option Addr) (m cr n c B : Nat) (w : World) (hr : Rd w B 3 Ar m (accs C)) (h : Rd w B 2 A n (bals R)) (hB : B ≤ w.heap.size) (hm : m ≤ 1000) (hn : n ≤ 1000) (hf : fitsAll (amts R) = true) (hg : GoodA C) :
    Calls Tryz.prog 45 #[.slice Ar m cr, .slice A n c] w fun e w' => e = .returned (.tuple #[.int .i64 (earnB C R), .int .i64 (spentB C R), .bool (incFits C R)]) ∧ Below w.heap.size w w' := by
  have k1 := refPick_any true 4 C R Ar A m cr n c B w hr h hB hm hn hf
  rw [pkR_in hg, sum_in] at k1
  have HK2 : Hid (∀ w1, Below w.heap.size w w1 → Calls Tryz.prog 44 #[.slice Ar m cr, .slice A n c, .int .i64 5, .bool false] w1 fun e w' => ∃ A' c', e = .returned (.tuple #[.slice A' (outL C R).length c', .int .i64 (spentB C R)]) ∧ w'.ownsRow w1.heap.size 161 2 (.slice A' (outL C R).length c') (outL C R).length (bals (outL C R)) ∧ Below w1.heap.size w1 w') := fun w1 hb => by
    have k2 := refPick_any false 5 C R Ar A m cr n c B w1 (hr.far hb hB) (h.far hb hB) (Nat.le_trans hB hb.size) hm hn hf
    rw [pkR_out hg, sum_out] at k2
    exact k2
  have K1 := Lib.hid k1
  have HF : Hid (incFits C R = (fits1 (earnB C R) && (fits1 (spentB C R) && fits1 (earnB C R - spentB C R)))) := rfl
  rw [HF.out]
  clear k1 hr h HF
  generalize earnB C R = ve at *
  generalize spentB C R = vs at *
  obtain ⟨zz, hzz⟩ : ∃ zz, (fits1 ve && (fits1 vs && fits1 (ve - vs))) = zz := ⟨_, rfl⟩
  have HZ := Lib.hid hzz
  rw [hzz]
  clear hzz
  go_enter Tryz.func45, Tryz.ntmps45
  go_wp2_with fail
  refine K1.out.mono ?_
  rintro e w1 ⟨A1, c1, rfl, _, hb1⟩
  have HB1 := Lib.hid hb1
  have K2 := Lib.hid (HK2.out w1 hb1)
  clear hb1 K1 HK2
  go_wp2_with fail
  refine K2.out.mono ?_
  rintro e w2 ⟨A2, c2, rfl, _, hb2⟩
  have HB2 := Lib.hid (HB1.out.trans (hb2.mono HB1.out.size))
  clear hb2 K2
  go_wp2_with fail
  refine (Mo.refFits_any ve _).mono ?_
  rintro e w' ⟨rfl, rfl⟩
  cases f1 : fits1 ve
  · obtain rfl : zz = false := by rw [← HZ.out, f1]; rfl
    clear f1
    go_wp2_with fail
    go_ret3
    exact ⟨rfl, HB2.out⟩
  go_wp2_with fail
  refine (Mo.refFits_any vs _).mono ?_
  rintro e w' ⟨rfl, rfl⟩
  cases f2 : fits1 vs
  · obtain rfl : zz = false := by rw [← HZ.out, f1, f2]; rfl
    clear f1 f2
    go_wp2_with fail
    go_ret3
    exact ⟨rfl, HB2.out⟩
  have g1 := fits1_iff.1 f1
  have g2 := fits1_iff.1 f2
  have hw : IntKind.i64.wrap (ve - vs) = ve - vs := by rw [IntKind.wrap_i64]; omega
  have HZ2 : Hid (fits1 (ve - vs) = zz) := by rw [Hid, ← HZ.out, f1, f2]; rfl
  clear f1 f2 HZ
  go_wp2_with fail
  refine (Mo.refFits_any (ve - vs) _).mono ?_
  rintro e w' ⟨rfl, rfl⟩
  rw [HZ2.out]
  clear hw HZ2
  go_wp2_with fail
  go_ret3
  exact ⟨rfl, HB2.out⟩
end Go.Proofs.YtjlokkjbdgcooaaGreat

/-
  Contract of the reference's Balances of chapter 10.
-/
namespace Go.Proofs.YtjlokkjbdgcooaaGreat
open Mo
open Go.RowKit

set_option maxRecDepth 100000 in
set_option maxHeartbeats 4000000 in
theorem refBals_any (o : OfT) (X : List JR) (A : Option Addr) (n c B : Nat) (w : World) (h : JlRd w B A n X) (hB : B ≤ w.heap.size) (hn : n ≤ 100) (hok : ∀ a ∈ X, checkE a.j = 0) :
    Calls Tryz.prog 33 #[.slice A n c, .int .i64 o.ent, .int .i64 o.frm, .int .i64 o.til] w (BalEnd w o (X.map JR.j)) := by
  have KR := Lib.hid (refRight_any o w)
  have h8 : ∀ a ∈ X, a.j.lines.length ≤ 8 := fun a ha => (checkE_len (hok a ha)).1
  have KL := Lib.hid (refLines_any o X A n c B w h hB (by omega) h8)
  have hXl : X.length = n := by have := h.rd.1; rw [jrs_len] at this; omega
  have hM : ∀ j ∈ X.map JR.j, checkE j = 0 := fun j hj => by
    obtain ⟨a, ha, rfl⟩ := List.mem_map.1 hj
    exact hok a ha
  have hgl := gathL_len (pk := pkL o) (l := X.map JR.j) fun j hj => pkL_le8 (hM j hj)
  rw [List.length_map, hXl] at hgl
  have hfit := gath_fitsB (o := o) hM
  obtain ⟨M, hMM⟩ : ∃ M, X.map JR.j = M := ⟨_, rfl⟩
  rw [hMM] at KL hgl hfit ⊢
  have hpf := putsM_fits hfit
  have hpp := putsM_plus (balsOf (gathL (pkL o) M))
  have hpl := putsM_len (balsOf (gathL (pkL o) M))
  unfold BalEnd PlusEnd
  obtain ⟨LS, hLS⟩ : ∃ LS, gathL (pkL o) M = LS := ⟨_, rfl⟩
  rw [hLS] at KL hgl hfit hpf hpp hpl ⊢
  rw [show (balsOf LS).length = LS.length by unfold balsOf; simp] at hpl
  have HFIT := Lib.hid hfit; have HPF := Lib.hid hpf; have HPP := Lib.hid hpp
  obtain ⟨z, hz⟩ : ∃ z, mayO o = z := ⟨_, rfl⟩
  obtain ⟨pb, hpb⟩ : ∃ pb, plusB (balsOf LS) = pb := ⟨_, rfl⟩
  rw [hz] at KR ⊢
  rw [hpb] at HPF ⊢
  clear h h8 hM hXl hMM hLS hfit hpf hpp hz hpb hok
  obtain ⟨oe, of, ot⟩ := o
  dsimp only at *
  cases z
  · go_enter Tryz.func33, Tryz.ntmps33
    go_wp2_with fail
    refine KR.out.mono ?_
    rintro e w1 ⟨rfl, rfl⟩
    go_wp2_with fail
    go_ret2
    exact .inl ⟨by first | rfl | trivial, rfl, Below.refl _ _⟩
  · go_enter Tryz.func33, Tryz.ntmps33
    go_wp2_with fail
    refine KR.out.mono ?_
    rintro e w1 ⟨rfl, rfl⟩
    go_wp2_with fail
    refine KL.out.mono ?_
    rintro e w2 ⟨A2, c2, rfl, hown2, hb2⟩
    have hz2 := hb2.size
    have HB2 := Lib.hid hb2
    have HR2 : Hid (Rd w2 w2.heap.size 3 A2 LS.length (lins LS)) := rd_of_own hown2
    obtain ⟨m, hm⟩ : ∃ m, LS.length = m := ⟨_, rfl⟩
    rw [hm] at HR2 hgl hpl ⊢
    have HLM := Lib.hid hm
    clear hown2 hb2 KL KR hm
    go_wp2_with fail
    go_loopw [10, 12] (fun lv iv wr => ∃ k : Nat, k ≤ m ∧ iv = .int .i64 k ∧ (∃ L A' c', lv = .slice A' (List.length L) c' ∧ List.length L ≤ k ∧ Hid (putsM ((balsOf LS).take k) = L) ∧ Rd wr wr.heap.size 2 A' (List.length L) (bals L)) ∧ Below w2.heap.size w2 wr) (fun _ iv _ => m - (intOf iv).toNat)
    case atStart => exact ⟨0, Nat.zero_le _, rfl, ⟨[], none, 0, rfl, by simp, rfl, Rd.nil_⟩, Below.refl _ _⟩
    case round =>
      obtain ⟨k, hk, rfl, ⟨L, A', c', rfl, hLl, HI, hrd⟩, hbel⟩ := hrel
      have hzr := hbel.size
      have HBE := Lib.hid hbel
      by_cases hlt : k < m
      · obtain ⟨ad, x, rfl, hb0, hx, p0, p1, p2⟩ := (HR2.out.below hbel).lin hlt
        have p1' := cell_behind (j := 1) p1 (by omega)
        have p2' := cell_behind (j := 2) p2 (by omega)
        have hkI : (k : Int) < (m : Int) := by omega
        have hbx : (balsOf LS)[k]? = some (balOf x) := by unfold balsOf; rw [List.getElem?_map, hx]; rfl
        have hst := putsM_step hbx
        rw [HI.out] at hst
        have hfx := HFIT.out (balOf x) (List.mem_of_getElem? hbx)
        have hbd : ∀ b ∈ L, -4000000000000000000 ≤ b.amt ∧ b.amt ≤ 4000000000000000000 := by
          rw [← HI.out]
          exact putsM_bound (fun y hy => HFIT.out y (List.mem_of_mem_take hy)) (by rw [List.length_take]; omega)
        have hx12 : -1000000000000000 ≤ x.amt ∧ x.amt ≤ 1000000000000000 := by unfold fits1 at hfx; exact of_decide_eq_true hfx
        have hrdd : Rd wr.drew wr.heap.size 2 A' (List.length L) (bals L) := hrd
        have KP := Lib.hid (refPutB_any L x.acct x.amt A' (List.length L) c' wr.heap.size wr.drew hrdd (Nat.le_refl _) (by omega) hbd (by omega) (by omega))
        have HST := Lib.hid hst
        have hpm := putM_len L x.acct x.amt
        clear hx p1 p2 hb0 hbx hst hfx hbd hrd hbel hrdd
        go_wp2_with fail
        have HFIN : Hid (∀ (A4 : Option Addr) (c4 : Nat) (w4 : World), w4.ownsRow wr.drew.heap.size 161 2 (.slice A4 (putM L x.acct x.amt).length c4) (putM L x.acct x.amt).length (bals (putM L x.acct x.amt)) → Below wr.drew.heap.size wr.drew w4 → Rd w4 w4.heap.size 2 A4 (putM L x.acct x.amt).length (bals (putM L x.acct x.amt)) ∧ Below w2.heap.size w2 w4) := fun A4 c4 w4 k1 k2 => ⟨rd_of_own k1, HBE.out.trans (((Below.refl _ wr).drew.trans k2).mono hzr)⟩
        unfold PickEnd at KP
        go_region_law (go_simp; go_at_call 115; refine KP.out.mono ?_; rintro e w4 ⟨A4, c4, rfl, hown4, hb4⟩)
        all_goals
          obtain ⟨g1, g2⟩ := HFIN.out _ _ _ hown4 hb4
          have HR4 := Lib.hid g1; have HB4 := Lib.hid g2
          clear hown4 hb4 g1 g2
          go_wp2_with fail
          exact ⟨⟨k + 1, by omega, by go_num, ⟨putM L x.acct x.amt, _, _, rfl, by omega, HST.out, HR4.out⟩, HB4.out⟩, by simp [intOf]; omega⟩
      · have hkm : k = m := by omega
        have htk : (balsOf LS).take k = balsOf LS := List.take_of_length_le (by unfold balsOf; rw [List.length_map, HLM.out]; omega)
        have hi := HI.out
        rw [htk] at hi
        subst hi
        have HBW := Lib.hid (HB2.out.trans (hbel.mono hz2))
        have kp := refPlain_any (putsM (balsOf LS)) A' _ c' wr.heap.size wr hrd (Nat.le_refl _) (by omega)
        rw [HPF.out] at kp
        have HPL : Hid (plainL (putsM (balsOf LS)) = if pb = true then (putsM (balsOf LS)).filter fun x => x.amt != 0 else []) := by
          have h := HPF.out
          unfold plainL
          rw [Hid, h]
        obtain ⟨PL, hPL⟩ : ∃ PL, plainL (putsM (balsOf LS)) = PL := ⟨_, rfl⟩
        rw [hPL] at kp HPL
        have KP := Lib.hid kp
        clear hbel hrd kp htk hPL
        go_wp2_with fail
        refine KP.out.mono ?_
        rintro e w4 ⟨A4, c4, rfl, hown4, hb4⟩
        have HB4 := Lib.hid (HBW.out.trans (hb4.mono HBW.out.size))
        have HO4 := Lib.hid (own_base hown4 HBW.out.size)
        clear hown4 hb4 KP
        cases pb
        · go_wp2_with fail
          go_ret2
          exact ⟨HB4.out, rfl⟩
        · have hpl := HPL.out
          rw [if_pos rfl] at hpl
          subst hpl
          go_wp2_with fail
          go_ret2
          exact ⟨HB4.out, A4, c4, _, HPP.out, rfl, HO4.out⟩
end Go.Proofs.YtjlokkjbdgcooaaGreat
