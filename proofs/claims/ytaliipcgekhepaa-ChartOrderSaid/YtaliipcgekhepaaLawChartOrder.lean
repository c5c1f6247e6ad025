/-
  The walk of the statement ChartOrder.
-/
-- HOLE2: obtain ⟨fuel0, hf0⟩ := h0
-- obtain ⟨l0, q0⟩ := argAccs hf0
-- exact chartOrder_walk l0 a0 len0 cap0 a1 W q0.rd q0.len q0.cap
import Derived.Test.YtaliipcgekhepaaChartAlive
import Derived.Test.YtaliipcgekhepaaChartSort
import Derived.Test.YtaliipcgekhepaaArgAccs
namespace Go.Proofs.Ytaliipcgekhepaa
open Go.RowKit

theorem rd_list (w : World) (l : List Int) (T : TypeId) : Rd (w.alloc (.cells (ints .i64 l).toArray T)) (w.heap.size + 1) 1 (some ⟨w.heap.size, 0, none⟩) l.length (ints .i64 l) :=
  ⟨by simp [ints], fun _ => ⟨_, rfl, by simp, cells_new w _ T⟩⟩
theorem kinds_of {l : List Acc} (h : GoodA l) : ∀ a ∈ l, 1 ≤ a.kind ∧ a.kind ≤ 5 := fun a ha => by have := okRow_t (h.2 a ha); omega

set_option maxRecDepth 100000 in
set_option maxHeartbeats 2000000 in
theorem chartOrder_walk (l : List Acc) (A : Option Addr) (n c : Nat) (turn : Int) (w : World) (h : Rd w w.heap.size 3 A n (accs l)) (hm : n ≤ maxLen) (hcap : n ≤ c) :
    Calls Try.prog 4 #[.slice A n c, .int .i64 turn] w fun e w' => e = .returned (.bool true) ∧ Below w.heap.size w w' := by
  unfold maxLen at hm
  have HL := Lib.hid h.accs_len
  by_cases h40 : 20 < n
  · go_enter Try.func4, Try.ntmps4
    go_wp2_with fail
    refine (alive_any w).mono ?_
    rintro e w1 ⟨rfl, hb⟩
    go_wp2
    go_ret
    exact ⟨rfl, hb⟩
  by_cases h0 : n = 0
  · subst h0
    go_enter Try.func4, Try.ntmps4
    go_wp2_with fail
    refine (alive_any w).mono ?_
    rintro e w1 ⟨rfl, hb⟩
    go_wp2
    go_ret
    exact ⟨rfl, hb⟩
  obtain ⟨ad, rfl, _, _⟩ := h.2 (by omega)
  have hk : ∃ k : Nat, k < n ∧ (wrap64 (turn.tmod (n : Int) + n)).tmod (n : Int) = (k : Int) := by
    have h1 := Int.tmod_lt_of_pos turn (b := (n : Int)) (by omega)
    have h2 : -(n : Int) < turn.tmod n := by
      have := Int.lt_tmod_of_pos turn (b := (n : Int)) (by omega)
      omega
    rw [show wrap64 (turn.tmod (n : Int) + n) = turn.tmod (n : Int) + n from by unfold wrap64; omega]
    refine ⟨((turn.tmod (n : Int) + n).tmod (n : Int)).toNat, ?_, ?_⟩
    · have h3 := Int.tmod_lt_of_pos (turn.tmod (n : Int) + n) (b := (n : Int)) (by omega)
      have h4 := Int.tmod_nonneg (a := turn.tmod (n : Int) + n) (n : Int) (by omega)
      omega
    · have h4 := Int.tmod_nonneg (a := turn.tmod (n : Int) + n) (n : Int) (by omega)
      omega
  obtain ⟨k, hkn, hke⟩ := hk
  have hz : ((n : Int) == 0) = false := by rw [beq_eq_false_iff_ne]; omega
  go_enter Try.func4, Try.ntmps4
  go_wp2_with fail
  refine (alive_any w).mono ?_
  rintro e w1 ⟨rfl, hb1⟩
  have hz1 := hb1.size
  have hr1 := h.below hb1
  go_wp2_with fail
  refine (new_any l (some ad) n c _ w1 hr1 hz1 (by omega)).mono ?_
  rintro e w2 ⟨hb2, hpost⟩
  have hz2 := hb2.size
  have hr2 : Rd w2.drew w.heap.size 3 (some ad) n (accs l) := hr1.far hb2.drew hz1
  have hrd := hr2.dropS hkn
  rw [accs_drop] at hrd
  obtain ⟨v1, w3, hrun1, hown1, hg1, _⟩ := append_fresh (P := Try.prog) (w := w2.drew) (ty := 24) (c := c - k) infoAcc Try.underlying24 rfl (by omega) w2.heap.size (.slice none 0 0) 0 [] (World.ownsRow_nil _ _ _ _) hrd (accs_one _) (by unfold maxLen; omega) (by omega) (Nat.le_refl _)
  have hB3 : Below w.heap.size w2.drew w3 := (Below.refl _ _).grown hg1 (Nat.le_trans hz1 hz2) (fun k h => by cases h)
  have hB3' : Below w2.heap.size w2.drew w3 := (Below.refl _ _).grown hg1 (Nat.le_refl _) (fun k h => by cases h)
  rw [Nat.zero_add, List.nil_append] at hown1
  have hrt := (hr2.below hB3).takeS (Nat.le_of_lt hkn)
  rw [accs_take] at hrt
  obtain ⟨v2, w4, hrun2, hown2, hg2, _⟩ := append_fresh (P := Try.prog) (w := w3) (ty := 24) (c := c) infoAcc Try.underlying24 rfl (by omega) w2.heap.size v1 (n - k) _ hown1 hrt (accs_one _) (by unfold maxLen; omega) (by omega) hg1.size
  have HR1 := Lib.hid hrun1
  have HR2 := Lib.hid hrun2
  obtain ⟨A2, c2, rfl⟩ := own_form hown2
  have hk1 : k ≤ n := Nat.le_of_lt hkn
  have hk2 : k ≤ c := by omega
  have hkI : (k : Int) ≤ (n : Int) := by omega
  have hkc : ¬ c = k := by omega
  have HN : Hid (n - k + k = n) := by unfold Hid; omega
  rw [HN.out, ← accs_append] at hown2
  have HO2 := Lib.hid hown2
  have HG2 : Hid (Below w.heap.size w w4) := ((hb1.trans (hb2.mono hz1)).drew.trans hB3).grown hg2 (Nat.le_trans (Nat.le_trans hz1 hz2) hg1.size) (fun q hq => Nat.le_trans (Nat.le_trans hz1 hz2) (own_ge hown1 q hq))
  have HG24 : Hid (Below w2.heap.size w2 w4) := ((Below.refl _ _).drew.trans hB3').grown hg2 hg1.size (fun q hq => own_ge hown1 q hq)
  have kn := Lib.hid (new_any (l.drop k ++ l.take k) A2 n c2 _ w4 (rd_of_own hown2) (Nat.le_refl _) (by omega))
  have HP := Lib.hid (turn_perm l k)
  clear hrun1 hrun2 hown1 hown2 hg1 hg2 hB3 hB3' hrd hrt
  generalize l.drop k ++ l.take k = l2 at *
  have hE : (newE l ≠ 0 ∧ newE l2 ≠ 0) ∨ (newE l = 0 ∧ newE l2 = 0 ∧ newL l2 = newL l) := by
    by_cases h : newE l = 0
    · exact .inr ⟨h, (newE_perm HP.out).1 h, (newL_same HP.out h).symm⟩
    · exact .inl ⟨h, fun h2 => h ((newE_perm HP.out).2 h2)⟩
  rcases hE with ⟨hE1, hE2⟩ | ⟨hE1, hE2, hL⟩
  · rcases hpost with ⟨_, rfl⟩ | ⟨hE, _⟩
    rotate_left
    · exact absurd hE hE1
    have HB2 := Lib.hid hb2
    clear hb2
    have t1 : (newE l == 0) = false := by simp [hE1]
    have t2 : (newE l2 == 0) = false := by simp [hE2]
    have t3 : (newE l != 0) = true := by simp [hE1]
    generalize newE l = E1 at *
    go_wp2_with fail
    go_region_law (first | (refine step_append_run rfl _ (.tmp 43) 24 rfl (.slice none 0 0) (.slice (some (ad.add (k * 3))) (n - k) (c - k)) v1 w3 rfl (by simp [Act.eval, Act.put]) HR1.out ?_) | (refine step_append_run rfl (.tmp 44) (.tmp 47) 24 rfl v1 (.slice (some ad) k c) _ w4 (by simp [Act.eval]) (by simp [Act.eval]) HR2.out ?_) | (go_simp; go_at_call 12; refine kn.out.mono ?_; rintro e w5 ⟨hb5, ⟨_, rfl⟩ | ⟨hE, _⟩⟩; rotate_left; focus (exact absurd hE hE2)))
    all_goals
      generalize newE l2 = E2 at *
      have HB5 : Hid (Below w.heap.size w w5) := HG2.out.trans (hb5.mono HG2.out.size)
      clear hb5
      go_wp2
      go_ret
      exact ⟨rfl, HB5.out⟩
  · rcases hpost with ⟨hE, _⟩ | ⟨_, rfl, vA, hcA⟩
    · exact absurd hE1 hE
    have HCA := Lib.hid (hcA.below HG24.out)
    have hgood := hcA.good
    have HB2 := Lib.hid hb2
    have HKS := Lib.hid (kinds_of hgood)
    have HLEN : Hid ((newL l).length = n) := by rw [(newL_perm hE1).length_eq]; exact HL
    clear hb2 hcA
    go_wp2_with fail
    go_region_law (first | (refine step_append_run rfl _ (.tmp 43) 24 rfl (.slice none 0 0) (.slice (some (ad.add (k * 3))) (n - k) (c - k)) v1 w3 rfl (by simp [Act.eval, Act.put]) HR1.out ?_) | (refine step_append_run rfl (.tmp 44) (.tmp 47) 24 rfl v1 (.slice (some ad) k c) _ w4 (by simp [Act.eval]) (by simp [Act.eval]) HR2.out ?_) | (go_simp; go_at_call 12; refine kn.out.mono ?_; rintro e w5 ⟨hb5, ⟨hE, _⟩ | ⟨_, rfl, vB, hcB⟩⟩; focus (exact absurd hE2 hE)))
    all_goals
      rw [hL] at hcB
      have HCA5 := Lib.hid (HCA.out.below hb5)
      have HCB5 := Lib.hid hcB
      have hz4 := HG24.out.size
      have hz5 := hb5.size
      have HB5 : Hid (Below w.heap.size w w5) := HG2.out.trans (hb5.mono HG2.out.size)
      have hzz := HB5.out.size
      clear hb5 hcB HCA hL hE1 hE2
      generalize newL l = L at *
      go_wp2_with fail
      go_loopw [10, 11] (fun nv kv wr => ∃ j : Nat, j ≤ 5 ∧ kv = .int .i64 ((j + 1 : Nat) : Int) ∧ nv = .int .i64 ((kindN L j : Nat) : Int) ∧ Below w5.heap.size w5 wr) (fun _ kv _ => 6 - (intOf kv).toNat)
      case atStart => exact ⟨0, by omega, rfl, by rw [kindN_zero fun a ha => (HKS.out a ha).1]; rfl, Below.refl _ _⟩
      case round =>
        obtain ⟨j, hj, rfl, rfl, hbel⟩ := hrel
        have hzr := hbel.size
        have HBr := Lib.hid hbel
        have HCAr := Lib.hid (HCA5.out.below hbel)
        have HCBr := Lib.hid (HCB5.out.below hbel)
        have hkn1 : kindN L j ≤ L.length := List.length_filter_le _ _
        clear hbel
        have hLn := HLEN.out
        by_cases hlt : j < 5
        · have HS := Lib.hid (kindN_succ L j)
          have hkn2 : (kindL L [((j + 1 : Nat) : Int)]).length ≤ L.length := kindL_len L _
          have kk := Lib.hid (kind_any _ _ vA L [((j + 1 : Nat) : Int)] (some ⟨wr.heap.size, 0, none⟩) 1 1 (wr.heap.size + 1) _ (HCAr.out.below ((Below.refl _ _).alloc (Nat.le_refl _) (.cells #[.int .i64 ((j + 1 : Nat) : Int)] 3))) (rd_one wr (.int .i64 ((j + 1 : Nat) : Int)) 3) (by simp) (by omega))
          generalize kindN L j = N at *
          generalize hM : (kindL L [((j + 1 : Nat) : Int)]).length = M at *
          go_wp2_with fail
          refine kk.out.mono ?_
          rintro e w6 ⟨A6, c6, rfl, _, hb6⟩
          have HB6 : Hid (Below w5.heap.size w5 w6) := (HBr.out.alloc hzr _).trans (hb6.mono (by simp; omega))
          clear hb6
          go_wp2
          refine ⟨⟨j + 1, by omega, by go_num, ?_, HB6.out⟩, by simp [intOf]; omega⟩
          rw [HS.out]; go_num
        · obtain rfl : j = 5 := by omega
          rw [show kindN L 5 = n from (kindN_five fun a ha => (HKS.out a ha).2).trans HLEN.out]
          clear hkn1 hLn
          have hLn2 : L.length ≤ 1000000 := by rw [HLEN.out]; omega
          have HBw : Hid (Below w.heap.size w wr) := HB5.out.trans (HBr.out.mono hzz)
          go_wp2_with fail
          refine (all_any _ _ _ _ wr HCAr.out).mono ?_
          rintro e w6 ⟨A6, c6, rfl, ho6, hb6⟩
          have hz6 := hb6.size
          have HCA6 := Lib.hid (HCAr.out.below hb6)
          have HCB6 := Lib.hid (HCBr.out.below hb6)
          have HR6 := Lib.hid (rd_of_own ho6)
          have HB6 := Lib.hid hb6
          clear hb6 ho6
          go_wp2_with fail
          refine (all_any _ _ _ _ w6 HCB6.out).mono ?_
          rintro e w7 ⟨A7, c7, rfl, ho7, hb7⟩
          have hz7 := hb7.size
          have HCA7 := Lib.hid (HCA6.out.below hb7)
          have HR7 := Lib.hid (rd_of_own ho7)
          have HR67 := Lib.hid (HR6.out.below hb7)
          have HB7 : Hid (Below wr.heap.size wr w7) := HB6.out.trans (hb7.mono hz6)
          clear hb7 ho7
          go_wp2_with fail
          refine (sameAccounts_any L L _ _ _ _ _ _ _ _ w7 HR67.out HR7.out hLn2 hLn2).mono ?_
          rintro e w8 ⟨rfl, hd8⟩
          rw [show (L == L) = true by simp]
          have HB8 : Hid (Below wr.heap.size wr w8) := HB7.out.trans hd8.below
          have HCA8 := Lib.hid (HCA7.out.below hd8.below)
          have hz8 := HB8.out.size
          clear hd8
          go_wp2_with fail
          have ka := kind_any _ _ vA L [1, 2, 3, 4, 5] _ _ 5 _ _ (HCA8.out.below ((Below.refl _ _).alloc (Nat.le_refl _) _)) (rd_list w8 [1, 2, 3, 4, 5] 3) (by simp) (by simp)
          rw [kindL_all HKS.out, HLEN.out] at ka
          refine ka.mono ?_
          rintro e w9 ⟨A9, c9, rfl, _, hb9⟩
          have HB89 : Hid (Below w8.heap.size w8 w9) := ((Below.refl _ _).alloc (Nat.le_refl _) _).trans (hb9.mono (by simp))
          have HB9 : Hid (Below wr.heap.size wr w9) := HB8.out.trans (HB89.out.mono hz8)
          have HCA9 := Lib.hid (HCA8.out.below HB89.out)
          clear hb9 ka
          have kz := kind_any _ _ vA L [] none 0 0 0 w9 HCA9.out Rd.nil_ (Nat.zero_le _) (by omega)
          rw [kindL_none] at kz
          have KZ := Lib.hid kz
          clear kz
          go_wp2_with fail
          refine KZ.out.mono ?_
          rintro e w10 ⟨A10, c10, rfl, _, hb10⟩
          have HB10 : Hid (Below wr.heap.size wr w10) := HB9.out.trans (hb10.mono HB9.out.size)
          clear hb10
          go_wp2
          go_ret
          exact ⟨rfl, HBw.out.trans (HB10.out.mono (by omega))⟩
end Go.Proofs.Ytaliipcgekhepaa
