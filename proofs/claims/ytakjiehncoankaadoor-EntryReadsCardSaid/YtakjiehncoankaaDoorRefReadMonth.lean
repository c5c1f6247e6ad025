/-
  Contract of the reference's ReadMonth.
-/
import Derived.Test.YtakjiehncoankaaDoorTermParseMath
import Derived.Test.YtakjiehncoankaaDoorRefMonth
namespace Go.Proofs.YtakjiehncoankaaDoor
open Go.RowKit

/-- What the reference reads. -/
def readV (l : List UInt8) : Int := if parseOk l = true then parseV l else -1

theorem text_eq_iff {p : Int} {s : ByteArray} : ((textS p).toList == s.toList) = true ↔ textB p = s.data.toList := by
  rw [textS_list, ByteArray.toList_eq, beq_iff_eq]

set_option maxRecDepth 100000 in
set_option maxHeartbeats 1000000 in
theorem readMonth_any (s : ByteArray) (w : World) :
    Calls Tryd.prog 25 #[.string s] w fun e w' => e = .returned (.int .i64 (readV s.data.toList)) ∧ Below w.heap.size w w' := by
  go_enter Tryd.func25, Tryd.ntmps25
  go_wp2
  go_loopw [3] (fun pv wr => ∃ k : Nat, k ≤ 1200 ∧ pv = .int .i64 (k : Int) ∧ Hid (∀ j : Nat, j < k → textB j ≠ s.data.toList) ∧ Below w.heap.size w wr) (fun pv _ => 1200 - (intOf pv).toNat)
  case atStart => exact ⟨0, by omega, rfl, by intro j h; omega, Below.refl _ _⟩
  case round =>
    obtain ⟨k, hk, rfl, hf, hbel⟩ := hrel
    by_cases hlt : k < 1200
    · have hp : okP (k : Int) = true := by unfold okP; simp; omega
      have HP := Lib.hid hp
      by_cases h7 : s.size = 7
      · have kc := fun w => refMonth_any (k : Int) w
        cases hq : ((textS (k : Int)).toList == s.toList)
        · have HN : Hid (textB (k : Int) ≠ s.data.toList) := by
            intro e
            rw [text_eq_iff.2 e] at hq
            cases hq
          clear hp
          have HB := Lib.hid hbel
          clear hbel
          go_wp2_with fail
          refine (kc wr).mono ?_
          rintro e w2 ⟨rfl, hb2⟩
          have H2 : Hid (Below w.heap.size w w2) := HB.out.trans (hb2.mono HB.out.size)
          clear hb2 HB
          go_wp2
          refine ⟨⟨k + 1, by omega, by go_num, ?_, H2.out⟩, by simp [intOf]; omega⟩
          intro j hj
          rcases Nat.lt_or_ge j k with h | h
          · exact hf.out j h
          · rw [show j = k by omega]; exact HN.out
        · have HN : Hid (textB (k : Int) = s.data.toList) := text_eq_iff.1 hq
          clear hp
          have HB := Lib.hid hbel
          clear hbel
          go_wp2_with fail
          refine (kc wr).mono ?_
          rintro e w2 ⟨rfl, hb2⟩
          have H2 : Hid (Below w.heap.size w w2) := HB.out.trans (hb2.mono HB.out.size)
          clear hb2 HB
          go_wp2
          go_ret
          refine ⟨ret_int ?_, H2.out⟩
          unfold readV
          rw [← HN.out, (back HP.out).1, (back HP.out).2]
          rfl
      · have h7b : ((s.size : Int) == 7) = false := by simp; omega
        have HN : Hid (textB (k : Int) ≠ s.data.toList) := by
          intro e
          have := textB_len hp
          rw [e, Array.length_toList] at this
          exact h7 this
        clear hp
        go_wp2
        refine ⟨⟨k + 1, by omega, by go_num, ?_, hbel⟩, by simp [intOf]; omega⟩
        intro j hj
        rcases Nat.lt_or_ge j k with h | h
        · exact hf.out j h
        · rw [show j = k by omega]; exact HN.out
    · obtain rfl : k = 1200 := by omega
      go_wp2
      go_ret
      refine ⟨ret_int ?_, hbel⟩
      unfold readV
      rw [if_neg]
      intro h
      have hi := parse_is h
      have hb := okP_t hi.1
      refine hf.out (parseV s.data.toList).toNat (by omega) ?_
      rw [show (((parseV s.data.toList).toNat : Nat) : Int) = parseV s.data.toList by omega]
      exact hi.2

end Go.Proofs.YtakjiehncoankaaDoor
