/-
  The walk of the statement MoneyOrder.
-/
-- HOLE: obtain ⟨hr, hm, hw⟩ := rd_of_isRow w0
-- exact moneyOrder_walk _ a0 len0 cap0 a1 w hr hm (cap_of_isRow w0) (bounds_i64 w1).1 (bounds_i64 w1).2
import Derived.Test.YtbjeikfekhgeoaaLawMoneyAdds
import Derived.Deep.RegionLaw
namespace Go.Proofs.Ytbjeikfekhgeoaa
open Go.RowKit

theorem step_append_run {P : Program} {w : World} {ops : Array Oper} {o : Oper} {a : Act} {K : Act → World → Prop} {Q : Exit → Act → World → Prop} {E : Prop} (hgd : o.guard = none) (s x : Operand) (t : TypeId)
    (ho : o.op = .call { callee := .builtin .append, args := #[s, x], argTypes := #[t, t] }) (vs vx v' : Value) (w' : World) (hs : a.eval s = vs) (hx : a.eval x = vx)
    (hrun : (Builtin.append_ #[t, t] o.type #[vs, vx]).run P w = .ok v' w') (h : K (a.put o.dst v') w') : if Region.wanted o (yielded ops a.tmps) = true then Oper.wp P o a w K Q else E := by
  have hw : Region.wanted o (yielded ops a.tmps) = true := by simp [Region.wanted, hgd]
  rw [if_pos hw]
  unfold Oper.wp execOp
  simp only [ho, resolve, invoke, builtin, Sem.run_bind, Sem.run_pure, Result.andThen_ok, List.map_toArray, List.map_cons, List.map_nil, hs, hx, hrun]
  exact h

theorem turn_sum (l : List Int) (k : Nat) : addV (l.drop k ++ l.take k) = addV l ∧ addE (l.drop k ++ l.take k) = addE l := by
  have h1 : (l.drop k ++ l.take k).sum = l.sum := by
    rw [List.sum_append, Int.add_comm, ← List.sum_append, List.take_append_drop]
  have h2 : fitsAll (l.drop k ++ l.take k) = fitsAll l := by
    unfold fitsAll
    rw [List.all_append, Bool.and_comm, ← List.all_append, List.take_append_drop]
  unfold addV addE
  rw [h1, h2]; exact ⟨rfl, rfl⟩

theorem add_add (a : Addr) (i j : Nat) : (a.add i).add j = a.add (i + j) := by
  unfold Addr.add
  by_cases hi : i = 0 <;> by_cases hj : j = 0 <;> simp [hi, hj, Nat.add_assoc]
theorem Rd.drop {w : World} {B n k : Nat} {ad : Addr} {l : List Int} (h : Rd w B 1 (some ad) n (ints .i64 l)) (hk : k < n) : Rd w B 1 (some (ad.add k)) (n - k) (ints .i64 (l.drop k)) := by
  have hl := h.ints_len
  refine ⟨by simp [ints]; omega, fun _ => ?_⟩
  obtain ⟨a2, e, hb, hc⟩ := h.2 (by omega)
  injection e with e
  subst e
  refine ⟨_, rfl, by rw [add_block]; exact hb, fun j u hu => ?_⟩
  rw [add_add]
  refine hc _ u ?_
  rw [← hu]; simp [ints, List.getElem?_drop]
theorem Rd.take {w : World} {B n k : Nat} {A : Option Addr} {l : List Int} (h : Rd w B 1 A n (ints .i64 l)) (hk : k ≤ n) : Rd w B 1 A k (ints .i64 (l.take k)) := by
  have hl := h.ints_len
  refine ⟨by simp [ints]; omega, fun h0 => ?_⟩
  obtain ⟨a2, e, hb, hc⟩ := h.2 (by omega)
  refine ⟨a2, e, hb, fun j u hu => hc j u ?_⟩
  have hj : j < k := by
    obtain ⟨h6, _⟩ := List.getElem?_eq_some_iff.1 hu
    simp [ints] at h6; omega
  rw [← hu]; simp [ints, hj]

theorem addV_fits (l : List Int) : fits1 (addV l) = true := by
  unfold addV; split
  · rename_i h; simp at h; exact h.2
  · decide
theorem add_bad {l : List Int} (h : ¬ addE l = 0) : addE l = 2 ∧ addV l = 0 := by
  unfold addE addV at *; split <;> simp_all
theorem pair_sum {a : Int} (h : fits1 a = true) : addV [a, -a] = 0 ∧ addE [a, -a] = 0 := by
  have hn : fits1 (-a) = true := by
    have := fits1_of h
    unfold fits1; simp; omega
  have h1 : fitsAll [a, -a] = true := by simp [fitsAll, h, hn]
  have h2 : [a, -a].sum = 0 := by simp [List.sum]; omega
  unfold addV addE
  rw [h1, h2]; decide
theorem rd_two (w : World) (a b : Int) {T : TypeId} : Rd (w.alloc (.cells #[.int .i64 a, .int .i64 b] T)) (w.heap.size + 1) 1 (some ⟨w.heap.size, 0, none⟩) 2 (ints .i64 [a, b]) := by
  refine ⟨rfl, fun _ => ⟨_, rfl, by simp, ?_⟩⟩
  intro j u hu
  match j, hu with
  | 0, hu => simp [ints] at hu; subst hu; simp [Addr.add, go_sem]
  | 1, hu => simp [ints] at hu; subst hu; simp [Addr.add, go_sem]
  | j + 2, hu => simp [ints] at hu

set_option maxRecDepth 100000 in
set_option maxHeartbeats 1000000 in
theorem moneyOrder_walk (l : List Int) (A : Option Addr) (n c : Nat) (turn : Int) (w : World) (h : Rd w w.heap.size 1 A n (ints .i64 l)) (hm : n ≤ maxLen) (hcap : n ≤ c) (_ht1 : -9223372036854775808 ≤ turn) (_ht2 : turn ≤ 9223372036854775807) :
    Calls Try.prog 9 #[.slice A n c, .int .i64 turn] w fun e w' => e = .returned (.bool true) ∧ Below w.heap.size w w' := by
  have HM := Lib.hid hm
  unfold maxLen at hm
  have HL := Lib.hid h.ints_len
  by_cases h40 : 40 < n
  · go_enter Try.func9, Try.ntmps9
    go_wp2_with fail
    refine (alive_any w).mono ?_
    rintro e w1 ⟨rfl, hb⟩
    go_wp2
    go_ret
    exact ⟨rfl, hb⟩
  by_cases h0 : n = 0
  · subst h0
    go_enter Try.func9, Try.ntmps9
    go_wp2_with fail
    refine (alive_any w).mono ?_
    rintro e w1 ⟨rfl, hb⟩
    go_wp2
    go_ret
    exact ⟨rfl, hb⟩
  · obtain ⟨ad, rfl, _, _⟩ := h.2 (by omega)
    have hk : ∃ k : Nat, k < n ∧ (wrap64 (turn.tmod (n : Int) + n)).tmod (n : Int) = (k : Int) := by
      have h1 := Int.tmod_lt_of_pos turn (b := (n : Int)) (by omega)
      have h2 : -(n : Int) < turn.tmod n := by
        have := Int.lt_tmod_of_pos turn (b := (n : Int)) (by omega)
        omega
      rw [show wrap64 (turn.tmod (n : Int) + n) = turn.tmod (n : Int) + n from by unfold wrap64; omega]
      refine ⟨((turn.tmod (n : Int) + n).tmod (n : Int)).toNat, ?_, ?_⟩
      · have h3 := Int.tmod_lt_of_pos (turn.tmod (n : Int) + n) (b := (n : Int)) (by omega)
        have h4 := Int.tmod_nonneg (a := turn.tmod (n : Int) + n) (n : Int) (by omega)
        omega
      · have h4 := Int.tmod_nonneg (a := turn.tmod (n : Int) + n) (n : Int) (by omega)
        omega
    obtain ⟨k, hkn, hke⟩ := hk
    have hz : ((n : Int) == 0) = false := by rw [beq_eq_false_iff_ne]; omega
    go_enter Try.func9, Try.ntmps9
    go_wp2_with fail
    refine (alive_any w).mono ?_
    rintro e w1 ⟨rfl, hb1⟩
    have hz1 := hb1.size
    have hr1 := h.below hb1
    go_wp2_with fail
    refine (add_any l (some ad) n c _ w1 hr1 (by omega)).mono ?_
    rintro e w2 ⟨rfl, hb2⟩
    have hz2 := hb2.size
    have hr2 : Rd w2.drew w.heap.size 1 (some ad) n (ints .i64 l) := hr1.far hb2.drew hz1
    obtain ⟨v1, w3, hrun1, hown1, hg1, _⟩ := append_fresh (P := Try.prog) (w := w2.drew) (ty := 22) (c := c - k) infoInt Try.underlying22 rfl (by omega) w2.heap.size (.slice none 0 0) 0 [] (World.ownsRow_nil _ _ _ _) (hr2.drop hkn) (ints_one _ _) (by unfold maxLen; omega) (by omega) (Nat.le_refl _)
    have hB3 : Below w.heap.size w2.drew w3 := (Below.refl _ _).grown hg1 (Nat.le_trans hz1 hz2) (fun k h => by cases h)
    rw [Nat.zero_add, List.nil_append] at hown1
    obtain ⟨v2, w4, hrun2, hown2, hg2, _⟩ := append_fresh (P := Try.prog) (w := w3) (ty := 22) (c := c) infoInt Try.underlying22 rfl (by omega) w2.heap.size v1 (n - k) _ hown1 ((hr2.below hB3).take (Nat.le_of_lt hkn)) (ints_one _ _) (by unfold maxLen; omega) (by omega) hg1.size
    have HR1 := Lib.hid hrun1
    have HR2 := Lib.hid hrun2
    obtain ⟨A2, c2, rfl⟩ := own_form hown2
    have hk1 : k ≤ n := Nat.le_of_lt hkn
    have hk2 : k ≤ c := by omega
    have hkI : (k : Int) ≤ (n : Int) := by omega
    have hkc : ¬ c = k := by omega
    have HN : Hid (n - k + k = n) := by unfold Hid; omega
    rw [HN.out] at hown2
    have HO2 := Lib.hid hown2
    have HG2 : Hid (Below w.heap.size w w4) := ((hb1.trans (hb2.mono hz1)).drew.trans hB3).grown hg2 (Nat.le_trans (Nat.le_trans hz1 hz2) hg1.size) (fun q hq => Nat.le_trans (Nat.le_trans hz1 hz2) (own_ge hown1 q hq))
    clear hrun1 hrun2 hown1 hown2 hg1 hg2 hB3
    go_wp2_with fail
    go_region_law (first | (refine step_append_run rfl _ (.tmp 43) 22 rfl (.slice none 0 0) (.slice (some (ad.add k)) (n - k) (c - k)) v1 w3 rfl (by simp [Act.eval, Act.put]) HR1.out ?_) | (refine step_append_run rfl (.tmp 44) (.tmp 47) 22 rfl v1 (.slice (some ad) k c) _ w4 (by simp [Act.eval]) (by simp [Act.eval]) HR2.out ?_) | (go_simp; go_at_call 12; refine (add_any (l.drop k ++ l.take k) A2 n c2 _ w4 (by rw [ints, List.map_append]; exact rd_of_own HO2.out) (by omega)).mono ?_; rintro e w5 ⟨rfl, hb5⟩))
    all_goals
      rw [(turn_sum l k).1, (turn_sum l k).2]
      have hz5 := hb5.size
      have HB5 : Hid (Below w.heap.size w w5) := HG2.out.trans (hb5.mono HG2.out.size)
      clear hb5
      by_cases hE : addE l = 0
      · have hF : fits1 (addV l) = true := addV_fits l
        have hFb := fits1_of hF
        have HF := Lib.hid hF
        have HP := Lib.hid (pair_sum hF)
        rw [hE]
        clear hF hE
        generalize addV l = a at *
        go_wp2_with fail
        refine (add_any [a, -a] _ 2 _ (w5.heap.size + 1) _ (rd_two w5 a (-a)) (by omega)).mono ?_
        rintro e w6 ⟨rfl, hb6⟩
        rw [HP.out.1, HP.out.2]
        go_wp2_with fail
        refine (fits_one a w6 _ _).mono ?_
        rintro e w' ⟨rfl, rfl⟩
        rw [HF.out]
        go_wp2
        go_ret
        have hz6 := hb6.size
        simp at hz6
        have hzz := HB5.out.size
        refine ⟨rfl, ?_⟩
        exact ((HB5.out.alloc hzz _).trans (hb6.mono (by simp; omega))).alloc (by omega) _
      · have hE2 : addE l = 2 ∧ addV l = 0 := add_bad hE
        have HE := Lib.hid hE2
        clear hE hE2
        rw [HE.out.1, HE.out.2]
        go_wp2
        go_ret
        exact ⟨rfl, HB5.out⟩
end Go.Proofs.Ytbjeikfekhgeoaa
