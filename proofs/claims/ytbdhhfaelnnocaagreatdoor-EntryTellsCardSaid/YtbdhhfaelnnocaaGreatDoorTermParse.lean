/-
  Contracts of term.number, hasForm, Parse.
-/
import Derived.Test.YtbdhhfaelnnocaaGreatDoorMany5
import Derived.Test.YtbdhhfaelnnocaaGreatDoorMany3
namespace Go.Proofs.YtbdhhfaelnnocaaGreatDoor
open Go.RowKit

/-- The k-th byte of a text. -/
def byteAt (s : ByteArray) (k : Nat) : Int := ((s.data.toList[k]?.getD 0).toNat : Int)

def numL : List UInt8 → Int := List.foldl (fun n b => 10 * n + ((b.toNat : Int) - 48)) 0

theorem numL_step {l : List UInt8} {k : Nat} (hk : k < l.length) : numL (l.take (k + 1)) = 10 * numL (l.take k) + ((l[k].toNat : Int) - 48) := by
  unfold numL; rw [List.take_succ_eq_append_getElem hk, List.foldl_append]; rfl
theorem pow_four {k : Nat} (h : k < 4) : (10 : Int) ^ k ≤ 1000 := by
  match k, h with
  | 0, _ => decide
  | 1, _ => decide
  | 2, _ => decide
  | 3, _ => decide

set_option maxRecDepth 100000 in
set_option maxHeartbeats 1000000 in
theorem number_any (s : ByteArray) (w : World) (hs : s.size ≤ 4) (hd : ∀ b ∈ s.data.toList, 48 ≤ b.toNat ∧ b.toNat ≤ 57) :
    Calls Tryz.prog 124 #[.string s] w fun e w' => e = .returned (.int .i64 (numL s.data.toList)) ∧ w = w' := by
  go_enter Tryz.func124, Tryz.ntmps124
  go_wp2
  go_loop [3, 7] (fun nv iv => ∃ k : Nat, k ≤ s.size ∧ iv = .int .i64 k ∧ nv = .int .i64 (numL (s.data.toList.take k)) ∧ Hid (0 ≤ numL (s.data.toList.take k) ∧ numL (s.data.toList.take k) < 10 ^ k)) (fun _ iv => s.size - (intOf iv).toNat)
  case atStart => exact ⟨0, Nat.zero_le _, rfl, rfl, by unfold Hid; simp [numL]⟩
  case round =>
    obtain ⟨k, hk, rfl, rfl, hf⟩ := hrel
    by_cases hlt : k < s.size
    · obtain ⟨hl, hg⟩ := at_list s k hlt
      have hb := hd _ (List.getElem_mem hl)
      have hst := numL_step hl
      have hp := pow_four (k := k) (by omega)
      have HP : Hid (numL (s.data.toList.take (k + 1)) = 10 * numL (s.data.toList.take k) + ((s[k].toNat : Int) - 48)) := by rw [hg]; exact hst
      have HB : Hid (48 ≤ s[k].toNat ∧ s[k].toNat ≤ 57) := by rw [hg]; exact hb
      have HT : Hid ((10 : Int) ^ (k + 1) = 10 * 10 ^ k) := by unfold Hid; rw [Int.pow_succ]; omega
      clear hg hb hst
      go_wp2
      have h1 := hf.out; have h2 := HB.out; have h3 := HT.out; have h4 := HP.out
      refine ⟨⟨k + 1, by omega, by go_num, ?_, ?_⟩, by simp [intOf]; omega⟩
      · rw [h4]; congr 1; unfold wrap64; omega
      · unfold Hid; rw [h4, h3]; omega
    · go_wp2
      go_ret
      refine ⟨ret_int ?_, rfl⟩
      rw [List.take_of_length_le (by rw [Array.length_toList]; exact Nat.le_of_not_lt hlt)]

/-- A month's form at a place. -/
def formAt (l : List UInt8) (k : Nat) : Bool := if k = 4 then l[k]? == some 45 else (l[k]?.any fun b => 48 ≤ b && b ≤ 57)
def formL (l : List UInt8) : Bool := l.length == 7 && (List.range 7).all (formAt l)

theorem formAt_four {s : ByteArray} {x : Int} (hz : 4 < s.size) (hx : x = (s[4].toNat : Int)) : formAt s.data.toList 4 = !(x != 45) := by
  obtain ⟨hl, hg⟩ := at_list s 4 hz
  rw [hg] at hx
  subst hx
  unfold formAt
  rw [if_pos rfl, List.getElem?_eq_getElem hl]
  generalize s.data.toList[4] = b
  rw [Bool.eq_iff_iff]
  simp [bne]
  rw [← UInt8.toNat_inj]
  simp
  omega
theorem formAt_dig {s : ByteArray} {k : Nat} {x : Int} (hz : k < s.size) (h4 : ¬ k = 4) (hx : x = (s[k].toNat : Int)) : formAt s.data.toList k = (decide (48 ≤ x) && decide (x ≤ 57)) := by
  obtain ⟨hl, hg⟩ := at_list s k hz
  rw [hg] at hx
  subst hx
  unfold formAt
  rw [if_neg h4, List.getElem?_eq_getElem hl]
  generalize s.data.toList[k] = b
  rw [Bool.eq_iff_iff]
  simp [UInt8.le_iff_toNat_le]
  omega
theorem formL_yes {s : ByteArray} (h7 : s.size = 7) (h : ∀ j, j < 7 → formAt s.data.toList j = true) : formL s.data.toList = true := by
  unfold formL
  rw [Array.length_toList, show s.data.size = 7 from h7, List.all_eq_true.2 (fun j hj => h j (by simpa using hj))]; rfl
theorem formL_no {s : ByteArray} {k : Nat} (hk : k < 7) (h : formAt s.data.toList k = false) : formL s.data.toList = false := by
  unfold formL
  rw [Bool.and_eq_false_iff]
  exact .inr (List.all_eq_false.2 ⟨k, by simpa using hk, by simp [h]⟩)

theorem form_next {s : ByteArray} {k : Nat} (h : ∀ j, j < k → formAt s.data.toList j = true) (h1 : formAt s.data.toList k = true) : Hid (∀ j, j < k + 1 → formAt s.data.toList j = true) := by
  intro j hj
  rcases Nat.lt_or_ge j k with h2 | h2
  · exact h j h2
  · rw [show j = k by omega]; exact h1

set_option maxRecDepth 100000 in
theorem form_index (k : Nat) (hk : k < 7) (h4 : ¬ k = 4) : ∀ w, (Instr.index 9 (.string ⟨#[48, 48, 48, 48, 45, 48, 48]⟩) (.int .i64 (k : Int))).run Tryz.prog w = .ok (.int .u8 48) w := by
  obtain rfl | rfl | rfl | rfl | rfl | rfl : k = 0 ∨ k = 1 ∨ k = 2 ∨ k = 3 ∨ k = 5 ∨ k = 6 := by omega
  all_goals exact fun w => by kernel_rfl

set_option maxRecDepth 100000 in
set_option maxHeartbeats 1000000 in
theorem hasForm_any (s : ByteArray) (w : World) (_hm : s.size ≤ maxLen) :
    Calls Tryz.prog 122 #[.string s] w fun e w' => e = .returned (.bool (formL s.data.toList)) ∧ Drew w w' := by
  unfold maxLen at _hm
  by_cases h7 : s.size = 7
  · go_enter Tryz.func122, Tryz.ntmps122
    go_wp2
    go_loopw [9] (fun iv wr => ∃ k : Nat, k ≤ 7 ∧ iv = .int .i64 k ∧ Hid (∀ j, j < k → formAt s.data.toList j = true) ∧ Drew w wr) (fun iv _ => 7 - (intOf iv).toNat)
    case atStart => exact ⟨0, Nat.zero_le _, rfl, by intro j h; omega, Drew.refl _⟩
    case round =>
      obtain ⟨k, hk, rfl, hf, q, rfl⟩ := hrel
      by_cases hlt : k < 7
      · have hz : k < s.size := by omega
        obtain ⟨x, hx⟩ : ∃ x : Int, x = ((s[k]'hz).toNat : Int) := ⟨_, rfl⟩
        have hi1 : ∀ w, (Instr.index 9 (.string s) (.int .i64 (k : Int))).run Tryz.prog w = .ok (.int .u8 x) w := fun w => by
          rw [run_index_string w _ _ _ _ Tryz.underlying9, dif_pos (by omega), hx]
          rfl
        have HK := Lib.hid hx
        clear hx
        by_cases h4 : k = 4
        · subst h4
          have hi0 : ∀ w, (Instr.index 9 (.string ⟨#[48, 48, 48, 48, 45, 48, 48]⟩) (.int .i64 4)).run Tryz.prog w = .ok (.int .u8 45) w := fun w => by kernel_rfl
          have hi2 : ∀ w, (Instr.index 9 (.string s) (.int .i64 4)).run Tryz.prog w = .ok (.int .u8 x) w := hi1
          clear hi1
          have hF := formAt_four hz HK.out
          cases hc : (x != 45)
          · have HF : Hid (formAt s.data.toList 4 = true) := by unfold Hid; rw [hF, hc]; rfl
            clear hF
            go_wp2_with fail
            go_big_quiet (fail)
            go_wp2
            exact ⟨⟨5, by omega, rfl, form_next hf.out HF.out, Drew.add _ _⟩, by simp [intOf]⟩
          · have HF : Hid (formAt s.data.toList 4 = false) := by unfold Hid; rw [hF, hc]; rfl
            clear hF
            go_wp2_with fail
            go_big_quiet (fail)
            go_wp2
            go_ret
            exact ⟨ret_bool (formL_no (k := 4) (by omega) HF.out).symm, ⟨_, World.drewN_drewN _ _ _⟩⟩
        · have hi0 := form_index k hlt h4
          have hF := formAt_dig hz h4 HK.out
          by_cases hc : x < 48
          · have hd : decide (x < 48) = true := by simp; omega
            have HF : Hid (formAt s.data.toList k = false) := by unfold Hid; rw [hF]; simp; omega
            clear hF
            go_wp2_with fail
            go_big_quiet (fail)
            go_wp2
            go_ret
            exact ⟨ret_bool (formL_no (k := k) (by omega) HF.out).symm, ⟨_, World.drewN_drewN _ _ _⟩⟩
          by_cases hc2 : 57 < x
          · have hd : decide (x < 48) = false := by simp; omega
            have hd2 : decide (57 < x) = true := by simp; omega
            have HF : Hid (formAt s.data.toList k = false) := by unfold Hid; rw [hF]; simp; omega
            clear hF
            go_wp2_with fail
            go_big_quiet (fail)
            go_wp2
            go_ret
            exact ⟨ret_bool (formL_no (k := k) (by omega) HF.out).symm, ⟨_, World.drewN_drewN _ _ _⟩⟩
          · have hd : decide (x < 48) = false := by simp; omega
            have hd2 : decide (57 < x) = false := by simp; omega
            have HF : Hid (formAt s.data.toList k = true) := by unfold Hid; rw [hF]; simp; omega
            clear hF
            go_wp2_with fail
            go_big_quiet (fail)
            go_wp2
            exact ⟨⟨k + 1, by omega, by go_num, form_next hf.out HF.out, Drew.add _ _⟩, by simp [intOf]; omega⟩
      · obtain rfl : k = 7 := by omega
        go_wp2
        go_ret
        exact ⟨ret_bool (formL_yes h7 hf.out).symm, _, rfl⟩
  · have h7' : ((s.size : Int) != 7) = true := by simp; omega
    go_enter Tryz.func122, Tryz.ntmps122
    go_wp2
    go_ret
    refine ⟨ret_bool ?_, Drew.refl _⟩
    unfold formL
    rw [Array.length_toList, show (s.data.size == 7) = false from by simpa using h7]; rfl
end Go.Proofs.YtbdhhfaelnnocaaGreatDoor
