/-
  The walk of the statement MoneyAdds.
-/
-- HOLE: obtain ⟨hr, hm, _⟩ := rd_of_isRow w0
-- exact moneyAdds_walk _ a0 len0 cap0 w hr hm
import Derived.Test.YtbjeikfekhgeoaaMoneyAlive
import Derived.Test.YtbjeikfekhgeoaaRefMoney
import Derived.Test.YtbjeikfekhgeoaaIntsSame
namespace Go.Proofs.Ytbjeikfekhgeoaa
open Go.RowKit

theorem fitsAll_take_succ {l : List Int} {k : Nat} (hk : k < l.length) : fitsAll (l.take (k + 1)) = (fitsAll (l.take k) && fits1 (l[k]?.getD 0)) := by
  unfold fitsAll
  rw [List.take_succ_eq_append_getElem hk, List.all_append]
  simp [hk]
theorem Drew.below {B : Nat} {w w' : World} (h : Drew w w') : Below B w w' := by
  obtain ⟨k, rfl⟩ := h
  exact below_drewN (Below.refl _ _) k

set_option maxRecDepth 100000 in
set_option maxHeartbeats 1000000 in
theorem moneyAdds_walk (l : List Int) (A : Option Addr) (n c : Nat) (w : World) (h : Rd w w.heap.size 1 A n (ints .i64 l)) (hm : n ≤ maxLen) :
    Calls Try.prog 3 #[.slice A n c] w fun e w' => e = .returned (.bool true) ∧ Below w.heap.size w w' := by
  have HM := Lib.hid hm
  unfold maxLen at hm
  have HL := Lib.hid h.ints_len
  by_cases h60 : 60 < n
  · go_enter Try.func3, Try.ntmps3
    go_wp2_with fail
    refine (alive_any w).mono ?_
    rintro e w1 ⟨rfl, hb⟩
    go_wp2
    go_ret
    exact ⟨rfl, hb⟩
  · have h60' : n ≤ 60 := by omega
    clear hm h60
    go_enter Try.func3, Try.ntmps3
    go_wp2_with fail
    refine (alive_any w).mono ?_
    rintro e w1 ⟨rfl, hb1⟩
    have hz1 := hb1.size
    have hr1 := h.below hb1
    go_wp2_with fail
    refine (lentInts_any l A n c _ w1 hr1 (by omega)).mono ?_
    rintro e w2 ⟨g, cap, rfl, hlent, hb2⟩
    have hz2 := hb2.size
    have hr2 := hr1.far hb2 hz1
    go_wp2_with fail
    have hrl := hlent.rd
    rw [HL.out] at hrl
    refine (add_any l _ n cap _ w2 hrl (by omega)).mono ?_
    rintro e w3 ⟨rfl, hb3⟩
    have hz3 := hb3.size
    have hr3 := hr2.far hb3 (by omega)
    have hlent3 := hlent.below hb3
    go_wp2_with fail
    refine (refAdd_any l A n c _ w3 hr3 (by omega)).mono ?_
    rintro e w' ⟨rfl, rfl⟩
    have hB3 : Hid (Below w.heap.size w w3) := (hb1.trans (hb2.mono hz1)).trans (hb3.mono (by omega))
    have HLT := Lib.hid hlent3
    clear hlent3 hrl hlent hb1 hb2 hb3 hr1 hr2
    go_wp2_with fail
    go_loop [9, 8] (fun i ok => ∃ k : Nat, k ≤ n ∧ i = .int .i64 k ∧ ok = .bool (fitsAll (l.take k))) (fun i _ => n - (intOf i).toNat)
    case atStart => exact ⟨0, Nat.zero_le _, rfl, rfl⟩
    case round =>
      obtain ⟨k, hk, rfl, rfl⟩ := hrel
      by_cases hlt : k < n
      · have HS := Lib.hid (fitsAll_take_succ (l := l) (k := k) (by have := HL.out; omega))
        obtain ⟨ad, rfl, hbk, hc⟩ := hr3.int hlt
        generalize l[k]?.getD 0 = x at *
        cases hF : fitsAll (l.take k)
        · rw [hF] at HS
          simp only [Bool.false_and] at HS
          have HF := Lib.hid hF
          clear hF
          go_wp2
          exact ⟨⟨k + 1, by omega, by go_num, by rw [HS.out]⟩, by simp [intOf]; omega⟩
        · rw [hF] at HS
          simp only [Bool.true_and] at HS
          have HF := Lib.hid hF
          clear hF
          go_wp2_with fail
          refine (refFits_any x _).mono ?_
          rintro e w' ⟨rfl, rfl⟩
          go_wp2
          all_goals exact ⟨⟨k + 1, by omega, by go_num, by rw [HS.out]; try simp [*]⟩, by simp [intOf]; omega⟩
      · obtain rfl : k = n := by omega
        have e1 : l.take k = l := List.take_of_length_le (by have := HL.out; omega)
        rw [e1]
        clear e1
        generalize addV l = v at *
        generalize addE l = er at *
        have hrl3 := HLT.out.rd
        rw [HL.out] at hrl3
        go_wp2_with fail
        refine (fits_any l _ k cap _ w3 hrl3 (by unfold maxLen; omega)).mono ?_
        rintro e w' ⟨rfl, rfl⟩
        generalize fitsAll l = ok at *
        go_wp2_with fail
        refine (staysInts_any l l A k k c _ _ g cap w3 HLT.out HL.out hr3 HM.out (by omega)).mono ?_
        rintro e w4 ⟨rfl, hd⟩
        have hll : (l == l) = true := by simp
        rw [hll]
        go_wp2
        go_ret
        exact ⟨rfl, hB3.out.trans hd.below⟩
end Go.Proofs.Ytbjeikfekhgeoaa
