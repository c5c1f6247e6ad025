/-
  The walk of the statement TermTexts.
-/
-- HOLE: exact termTexts_walk a0 a1 w w1
import Derived.Test.YtehpecjnldbaiaaLawTermSteps
import Derived.Test.YtehpecjnldbaiaaTermParseMath
import Derived.Test.YtehpecjnldbaiaaRefMonth
namespace Go.Proofs.Ytehpecjnldbaiaa
open Go.RowKit

/-- What the reference reads. -/
def readV (l : List UInt8) : Int := if parseOk l = true then parseV l else -1

theorem text_eq_iff {p : Int} {s : ByteArray} : ((textS p).toList == s.toList) = true ↔ textB p = s.data.toList := by
  rw [textS_list, ByteArray.toList_eq, beq_iff_eq]

set_option maxRecDepth 100000 in
set_option maxHeartbeats 1000000 in
theorem readMonth_any (s : ByteArray) (w : World) (_hm : s.size ≤ 40) :
    Calls Try.prog 17 #[.string s] w fun e w' => e = .returned (.int .i64 (readV s.data.toList)) ∧ Below w.heap.size w w' := by
  go_enter Try.func17, Try.ntmps17
  go_wp2
  go_loopw [3] (fun pv wr => ∃ k : Nat, k ≤ 1200 ∧ pv = .int .i64 (k : Int) ∧ Hid (∀ j : Nat, j < k → textB j ≠ s.data.toList) ∧ Below w.heap.size w wr) (fun pv _ => 1200 - (intOf pv).toNat)
  case atStart => exact ⟨0, by omega, rfl, by intro j h; omega, Below.refl _ _⟩
  case round =>
    obtain ⟨k, hk, rfl, hf, hbel⟩ := hrel
    by_cases hlt : k < 1200
    · have hp : okP (k : Int) = true := by unfold okP; simp; omega
      have HP := Lib.hid hp
      by_cases h7 : s.size = 7
      · have kc := fun w => refMonth_any (k : Int) w
        cases hq : ((textS (k : Int)).toList == s.toList)
        · have HN : Hid (textB (k : Int) ≠ s.data.toList) := by
            intro e
            rw [text_eq_iff.2 e] at hq
            cases hq
          clear hp
          have HB := Lib.hid hbel
          clear hbel
          go_wp2_with fail
          refine (kc wr).mono ?_
          rintro e w2 ⟨rfl, hb2⟩
          have H2 : Hid (Below w.heap.size w w2) := HB.out.trans (hb2.mono HB.out.size)
          clear hb2 HB
          go_wp2
          refine ⟨⟨k + 1, by omega, by go_num, ?_, H2.out⟩, by simp [intOf]; omega⟩
          intro j hj
          rcases Nat.lt_or_ge j k with h | h
          · exact hf.out j h
          · rw [show j = k by omega]; exact HN.out
        · have HN : Hid (textB (k : Int) = s.data.toList) := text_eq_iff.1 hq
          clear hp
          have HB := Lib.hid hbel
          clear hbel
          go_wp2_with fail
          refine (kc wr).mono ?_
          rintro e w2 ⟨rfl, hb2⟩
          have H2 : Hid (Below w.heap.size w w2) := HB.out.trans (hb2.mono HB.out.size)
          clear hb2 HB
          go_wp2
          go_ret
          refine ⟨ret_int ?_, H2.out⟩
          unfold readV
          rw [← HN.out, (back HP.out).1, (back HP.out).2]
          rfl
      · have h7b : ((s.size : Int) == 7) = false := by simp; omega
        have HN : Hid (textB (k : Int) ≠ s.data.toList) := by
          intro e
          have := textB_len hp
          rw [e, Array.length_toList] at this
          exact h7 this
        clear hp
        go_wp2
        refine ⟨⟨k + 1, by omega, by go_num, ?_, hbel⟩, by simp [intOf]; omega⟩
        intro j hj
        rcases Nat.lt_or_ge j k with h | h
        · exact hf.out j h
        · rw [show j = k by omega]; exact HN.out
    · obtain rfl : k = 1200 := by omega
      go_wp2
      go_ret
      refine ⟨ret_int ?_, hbel⟩
      unfold readV
      rw [if_neg]
      intro h
      have hi := parse_is h
      have hb := okP_t hi.1
      refine hf.out (parseV s.data.toList).toNat (by omega) ?_
      rw [show (((parseV s.data.toList).toNat : Nat) : Int) = parseV s.data.toList by omega]
      exact hi.2

theorem parse_text {p : Int} (h : okP p = true) : parseV (textS p).data.toList = p ∧ parseE (textS p).data.toList = 0 := by
  rw [← ByteArray.toList_eq, textS_list]
  refine ⟨(back h).2, ?_⟩
  unfold parseE; rw [if_pos (back h).1]
theorem parse_none {p : Int} (h : okP p = false) : parseV (textS p).data.toList = 0 ∧ parseE (textS p).data.toList = 15 := by
  rw [← ByteArray.toList_eq, textS_list, show textB p = [] from by unfold textB; simp [h]]
  exact parse_no (by decide)
theorem textS_le (p : Int) : (textS p).size ≤ maxLen := by
  unfold maxLen
  cases h : okP p
  · rw [show textS p = ⟨#[]⟩ from by unfold textS textB; simp [h]]; decide
  · rw [textS_size h]; omega

set_option maxRecDepth 100000 in
set_option maxHeartbeats 4000000 in
theorem termTexts_walk (p : Int) (s : ByteArray) (w : World) (hm : s.size ≤ maxLen) :
    Calls Try.prog 4 #[.int .i64 p, .string s] w fun e w' => e = .returned (.bool true) ∧ Below w.heap.size w w' := by
  have HM := Lib.hid hm
  unfold maxLen at hm
  by_cases h40 : 40 < s.size
  · go_enter Try.func4, Try.ntmps4
    go_wp2_with fail
    refine (alive_any w).mono ?_
    rintro e w1 ⟨rfl, hb⟩
    go_wp2
    go_ret
    exact ⟨rfl, hb⟩
  have kt := fun w => text_any p w
  have ks := fun w => parse_any s w HM.out
  have kr := fun w => readMonth_any s w (by omega)
  have ku := fun w => parse_any (textS p) w (textS_le p)
  have kx := fun w => refMonth_any p w
  have kv := fun w => refValid_any p w
  rw [textV_eq] at kt
  cases hs : parseOk s.data.toList
  · rw [(parse_no hs).1, (parse_no hs).2] at ks
    rw [show readV s.data.toList = -1 from by unfold readV; simp [hs]] at kr
    clear hs
    cases hp : okP p
    · rw [(parse_none hp).1, (parse_none hp).2] at ku
      rw [hp] at kv
      clear hp
      go_enter Try.func4, Try.ntmps4
      go_wp2_with fail
      refine (alive_any w).mono ?_
      rintro e w1 ⟨rfl, hb⟩
      have Hw1 := Lib.hid hb
      clear hb
      go_wp2_with fail
      refine (kt w1).mono ?_
      rintro e w2 ⟨rfl, hb⟩
      have Hw2 : Hid (Below w.heap.size w w2) := Hw1.out.trans (hb.mono Hw1.out.size)
      clear hb Hw1
      go_wp2_with fail
      refine (ks w2).mono ?_
      rintro e w3 ⟨rfl, hb⟩
      have Hw3 : Hid (Below w.heap.size w w3) := Hw2.out.trans (hb.mono Hw2.out.size)
      clear hb Hw2
      go_wp2_with fail
      refine (kr w3).mono ?_
      rintro e w4 ⟨rfl, hb⟩
      have Hw4 : Hid (Below w.heap.size w w4) := Hw3.out.trans (hb.mono Hw3.out.size)
      clear hb Hw3
      go_wp2_with fail
      refine (ku w4).mono ?_
      rintro e w5 ⟨rfl, hb⟩
      have Hw5 : Hid (Below w.heap.size w w5) := Hw4.out.trans (hb.mono Hw4.out.size)
      clear hb Hw4
      go_wp2_with fail
      refine (kx w5).mono ?_
      rintro e w6 ⟨rfl, hb⟩
      have Hw6 : Hid (Below w.heap.size w w6) := Hw5.out.trans (hb.mono Hw5.out.size)
      clear hb Hw5
      go_wp2_with fail
      refine (kv w6).mono ?_
      rintro e w7 ⟨rfl, rfl⟩
      go_wp2
      go_ret
      exact ⟨rfl, Hw6.out⟩
    · rw [(parse_text hp).1, (parse_text hp).2] at ku
      rw [hp] at kv
      clear hp
      go_enter Try.func4, Try.ntmps4
      go_wp2_with fail
      refine (alive_any w).mono ?_
      rintro e w1 ⟨rfl, hb⟩
      have Hw1 := Lib.hid hb
      clear hb
      go_wp2_with fail
      refine (kt w1).mono ?_
      rintro e w2 ⟨rfl, hb⟩
      have Hw2 : Hid (Below w.heap.size w w2) := Hw1.out.trans (hb.mono Hw1.out.size)
      clear hb Hw1
      go_wp2_with fail
      refine (ks w2).mono ?_
      rintro e w3 ⟨rfl, hb⟩
      have Hw3 : Hid (Below w.heap.size w w3) := Hw2.out.trans (hb.mono Hw2.out.size)
      clear hb Hw2
      go_wp2_with fail
      refine (kr w3).mono ?_
      rintro e w4 ⟨rfl, hb⟩
      have Hw4 : Hid (Below w.heap.size w w4) := Hw3.out.trans (hb.mono Hw3.out.size)
      clear hb Hw3
      go_wp2_with fail
      refine (ku w4).mono ?_
      rintro e w5 ⟨rfl, hb⟩
      have Hw5 : Hid (Below w.heap.size w w5) := Hw4.out.trans (hb.mono Hw4.out.size)
      clear hb Hw4
      go_wp2_with fail
      refine (kx w5).mono ?_
      rintro e w6 ⟨rfl, hb⟩
      have Hw6 : Hid (Below w.heap.size w w6) := Hw5.out.trans (hb.mono Hw5.out.size)
      clear hb Hw5
      go_wp2_with fail
      refine (kv w6).mono ?_
      rintro e w7 ⟨rfl, rfl⟩
      go_wp2
      go_ret
      exact ⟨rfl, Hw6.out⟩
  · have hb := okP_t (parse_is hs).1
    rw [show parseE s.data.toList = 0 from by unfold parseE; simp [hs]] at ks
    rw [show readV s.data.toList = parseV s.data.toList from by unfold readV; simp [hs]] at kr
    clear hs
    generalize parseV s.data.toList = q at *
    cases hp : okP p
    · rw [(parse_none hp).1, (parse_none hp).2] at ku
      rw [hp] at kv
      clear hp
      go_enter Try.func4, Try.ntmps4
      go_wp2_with fail
      refine (alive_any w).mono ?_
      rintro e w1 ⟨rfl, hb⟩
      have Hw1 := Lib.hid hb
      clear hb
      go_wp2_with fail
      refine (kt w1).mono ?_
      rintro e w2 ⟨rfl, hb⟩
      have Hw2 : Hid (Below w.heap.size w w2) := Hw1.out.trans (hb.mono Hw1.out.size)
      clear hb Hw1
      go_wp2_with fail
      refine (ks w2).mono ?_
      rintro e w3 ⟨rfl, hb⟩
      have Hw3 : Hid (Below w.heap.size w w3) := Hw2.out.trans (hb.mono Hw2.out.size)
      clear hb Hw2
      go_wp2_with fail
      refine (kr w3).mono ?_
      rintro e w4 ⟨rfl, hb⟩
      have Hw4 : Hid (Below w.heap.size w w4) := Hw3.out.trans (hb.mono Hw3.out.size)
      clear hb Hw3
      go_wp2_with fail
      refine (ku w4).mono ?_
      rintro e w5 ⟨rfl, hb⟩
      have Hw5 : Hid (Below w.heap.size w w5) := Hw4.out.trans (hb.mono Hw4.out.size)
      clear hb Hw4
      go_wp2_with fail
      refine (kx w5).mono ?_
      rintro e w6 ⟨rfl, hb⟩
      have Hw6 : Hid (Below w.heap.size w w6) := Hw5.out.trans (hb.mono Hw5.out.size)
      clear hb Hw5
      go_wp2_with fail
      refine (kv w6).mono ?_
      rintro e w7 ⟨rfl, rfl⟩
      go_wp2
      go_ret
      exact ⟨rfl, Hw6.out⟩
    · rw [(parse_text hp).1, (parse_text hp).2] at ku
      rw [hp] at kv
      clear hp
      go_enter Try.func4, Try.ntmps4
      go_wp2_with fail
      refine (alive_any w).mono ?_
      rintro e w1 ⟨rfl, hb⟩
      have Hw1 := Lib.hid hb
      clear hb
      go_wp2_with fail
      refine (kt w1).mono ?_
      rintro e w2 ⟨rfl, hb⟩
      have Hw2 : Hid (Below w.heap.size w w2) := Hw1.out.trans (hb.mono Hw1.out.size)
      clear hb Hw1
      go_wp2_with fail
      refine (ks w2).mono ?_
      rintro e w3 ⟨rfl, hb⟩
      have Hw3 : Hid (Below w.heap.size w w3) := Hw2.out.trans (hb.mono Hw2.out.size)
      clear hb Hw2
      go_wp2_with fail
      refine (kr w3).mono ?_
      rintro e w4 ⟨rfl, hb⟩
      have Hw4 : Hid (Below w.heap.size w w4) := Hw3.out.trans (hb.mono Hw3.out.size)
      clear hb Hw3
      go_wp2_with fail
      refine (ku w4).mono ?_
      rintro e w5 ⟨rfl, hb⟩
      have Hw5 : Hid (Below w.heap.size w w5) := Hw4.out.trans (hb.mono Hw4.out.size)
      clear hb Hw4
      go_wp2_with fail
      refine (kx w5).mono ?_
      rintro e w6 ⟨rfl, hb⟩
      have Hw6 : Hid (Below w.heap.size w w6) := Hw5.out.trans (hb.mono Hw5.out.size)
      clear hb Hw5
      go_wp2_with fail
      refine (kv w6).mono ?_
      rintro e w7 ⟨rfl, rfl⟩
      go_wp2
      go_ret
      exact ⟨rfl, Hw6.out⟩
end Go.Proofs.Ytehpecjnldbaiaa
