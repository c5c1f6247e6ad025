/-
  Several texts, one behind the other: what each holds stands ahead of it.
-/
import Derived.Test.YtbdhhfaelnnocaaGreatDoorTermParse
import Derived.Lib.Strings

/-
  Contract of term.Parse.
-/
namespace Go.Proofs.YtbdhhfaelnnocaaGreatDoor
open Go.RowKit

def parseOk (l : List UInt8) : Bool := formL l && okD (numL (l.take 4)) (numL (l.drop 5))
def parseV (l : List UInt8) : Int := if parseOk l = true then 12 * (numL (l.take 4) - 2000) + numL (l.drop 5) - 1 else 0
def parseE (l : List UInt8) : Int := if parseOk l = true then 0 else 15

theorem formL_len {l : List UInt8} (h : formL l = true) : l.length = 7 := by unfold formL at h; simp at h; exact h.1
theorem formL_at {l : List UInt8} (h : formL l = true) {j : Nat} (hj : j < 7) : formAt l j = true := by
  unfold formL at h
  rw [Bool.and_eq_true] at h
  exact List.all_eq_true.1 h.2 j (by simpa using hj)
theorem formL_dig {l : List UInt8} (h : formL l = true) {j : Nat} (hj : j < l.length) (h4 : ¬ j = 4) : 48 ≤ l[j].toNat ∧ l[j].toNat ≤ 57 := by
  have h1 := formL_at h (j := j) (by rw [← formL_len h]; exact hj)
  unfold formAt at h1
  rw [if_neg h4, List.getElem?_eq_getElem hj] at h1
  simp [UInt8.le_iff_toNat_le] at h1
  exact h1
theorem formL_four {l : List UInt8} (h : formL l = true) : l[4]? = some 45 := by
  have h1 := formL_at h (j := 4) (by omega)
  unfold formAt at h1
  rw [if_pos rfl] at h1
  simpa using h1
theorem dig_take {l : List UInt8} (h : formL l = true) : ∀ b ∈ l.take 4, 48 ≤ b.toNat ∧ b.toNat ≤ 57 := by
  intro b hb
  obtain ⟨j, hj, rfl⟩ := List.getElem_of_mem hb
  rw [List.getElem_take]
  simp at hj
  exact formL_dig h _ (by omega)
theorem dig_drop {l : List UInt8} (h : formL l = true) : ∀ b ∈ l.drop 5, 48 ≤ b.toNat ∧ b.toNat ≤ 57 := by
  intro b hb
  obtain ⟨j, hj, rfl⟩ := List.getElem_of_mem hb
  rw [List.getElem_drop]
  exact formL_dig h _ (by omega)

theorem parse_no {l : List UInt8} (h : parseOk l = false) : parseV l = 0 ∧ parseE l = 15 := by unfold parseV parseE; simp [h]

set_option maxRecDepth 100000 in
set_option maxHeartbeats 1000000 in
theorem parse_any (s : ByteArray) (w : World) (hm : s.size ≤ maxLen) :
    Calls Tryz.prog 114 #[.string s] w fun e w' => e = .returned (.tuple #[.int .i64 (parseV s.data.toList), .int .i64 (parseE s.data.toList)]) ∧ Below w.heap.size w w' := by
  have kf := fun w => hasForm_any s w hm
  cases hF : formL s.data.toList
  · have hp : parseOk s.data.toList = false := by unfold parseOk; rw [hF]; rfl
    rw [(parse_no hp).1, (parse_no hp).2]
    rw [hF] at kf
    clear hp hF
    go_enter Tryz.func114, Tryz.ntmps114
    go_wp2_with fail
    refine (kf w).mono ?_
    rintro e w1 ⟨rfl, hd⟩
    go_wp2
    go_ret2
    exact ⟨rfl, hd.below⟩
  · have h7 : s.size = 7 := by have := formL_len hF; rw [Array.length_toList] at this; exact this
    have hx1 : (s.extract 0 4).data.toList = s.data.toList.take 4 := by rw [Lib.extract_data]; rfl
    have hx2 : (s.extract 5 7).data.toList = s.data.toList.drop 5 := by
      rw [Lib.extract_data]
      exact List.take_of_length_le (by rw [List.length_drop, Array.length_toList, show s.data.size = 7 from h7]; omega)
    obtain ⟨y, hy⟩ : ∃ y, numL (s.data.toList.take 4) = y := ⟨_, rfl⟩
    obtain ⟨m, hy2⟩ : ∃ m, numL (s.data.toList.drop 5) = m := ⟨_, rfl⟩
    have kn : ∀ (a b : Nat) (w : World), (a = 0 ∧ b = 4 ∨ a = 5 ∧ b = 7) → Calls Tryz.prog 124 #[.string (s.extract a b)] w fun e w' => e = .returned (.int .i64 (if a = 0 then y else m)) ∧ w = w' := by
      intro a b w h
      rcases h with ⟨rfl, rfl⟩ | ⟨rfl, rfl⟩
      · have := number_any (s.extract 0 4) w (by rw [ByteArray.size_extract]; omega) (by rw [hx1]; exact dig_take hF)
        rw [hx1, hy] at this
        simpa using this
      · have := number_any (s.extract 5 7) w (by rw [ByteArray.size_extract]; omega) (by rw [hx2]; exact dig_drop hF)
        rw [hx2, hy2] at this
        simpa using this
    have ko := fun w => of_any y m w
    have hV : parseOk s.data.toList = okD y m := by unfold parseOk; rw [hF, hy, hy2]; rfl
    have hP : parseV s.data.toList = ofV y m := by unfold parseV ofV; rw [hV, hy, hy2]
    have hE : parseE s.data.toList = if ofE y m = 0 then 0 else 15 := by unfold parseE ofE; rw [hV]; cases okD y m <;> rfl
    have hN : ofE y m = 0 ∨ ofE y m = 1 ∧ ofV y m = 0 := by unfold ofE ofV; cases okD y m <;> simp
    rw [hF] at kf
    rw [hP, hE]
    clear hP hE hV hy hy2 hx1 hx2 hF hm
    generalize ofV y m = v at *
    generalize ofE y m = er at *
    rcases hN with rfl | ⟨rfl, rfl⟩
    · rw [if_pos rfl]
      go_enter Tryz.func114, Tryz.ntmps114
      go_wp2_with fail
      refine (kf w).mono ?_
      rintro e w1 ⟨rfl, hd⟩
      have H1 := Lib.hid hd
      clear hd
      go_wp2_with fail
      go_region_law (first | (go_simp; go_at_call 124; refine (kn _ _ _ ?_).mono ?_; (focus (first | exact .inl ⟨rfl, rfl⟩ | exact .inr ⟨rfl, rfl⟩)); rintro e w2 ⟨rfl, rfl⟩) | (go_simp; go_at_call 123; refine (ko _).mono ?_; rintro e w3 ⟨rfl, hb3⟩))
      all_goals
        go_wp2
        go_ret2
        have hB1 : Below w.heap.size w w1.drew := H1.out.below.drew
        exact ⟨rfl, hB1.trans (hb3.mono hB1.size)⟩
    · rw [if_neg (by decide)]
      go_enter Tryz.func114, Tryz.ntmps114
      go_wp2_with fail
      refine (kf w).mono ?_
      rintro e w1 ⟨rfl, hd⟩
      have H1 := Lib.hid hd
      clear hd
      go_wp2_with fail
      go_region_law (first | (go_simp; go_at_call 124; refine (kn _ _ _ ?_).mono ?_; (focus (first | exact .inl ⟨rfl, rfl⟩ | exact .inr ⟨rfl, rfl⟩)); rintro e w2 ⟨rfl, rfl⟩) | (go_simp; go_at_call 123; refine (ko _).mono ?_; rintro e w3 ⟨rfl, hb3⟩))
      all_goals
        go_wp2
        go_ret2
        have hB1 : Below w.heap.size w w1.drew := H1.out.below.drew
        exact ⟨rfl, hB1.trans (hb3.mono hB1.size)⟩
end Go.Proofs.YtbdhhfaelnnocaaGreatDoor

/-
  A text is a month's where it can be read, and only there.
-/
namespace Go.Proofs.YtbdhhfaelnnocaaGreatDoor
open Go.RowKit

theorem back_all : ((List.range 1200).all fun p => parseOk (textB p) && (parseV (textB p) == (p : Int))) = true := by kernel_rfl
theorem back {p : Int} (h : okP p = true) : parseOk (textB p) = true ∧ parseV (textB p) = p := by
  have hb := okP_t h
  have := List.all_eq_true.1 back_all p.toNat (by simp; omega)
  rw [show ((p.toNat : Nat) : Int) = p by omega] at this
  simpa using this
theorem textB_inj {p q : Int} (hp : okP p = true) (hq : okP q = true) (h : textB p = textB q) : p = q := by
  rw [← (back hp).2, h, (back hq).2]

theorem seven {l : List UInt8} (h : l.length = 7) : ∃ a b c d e f g, l = [a, b, c, d, e, f, g] := by
  match l, h with
  | [a, b, c, d, e, f, g], _ => exact ⟨a, b, c, d, e, f, g, rfl⟩
theorem byte_eq {b : UInt8} {x : Int} (h : (b.toNat : Int) = x) : UInt8.ofNat x.toNat = b := by
  apply UInt8.toNat_inj.1
  have := UInt8.toNat_lt b
  rw [UInt8.toNat_ofNat_of_lt' (by simp [UInt8.size]; omega)]
  omega

theorem parse_is {l : List UInt8} (h : parseOk l = true) : okP (parseV l) = true ∧ textB (parseV l) = l := by
  have hv : parseV l = 12 * (numL (l.take 4) - 2000) + numL (l.drop 5) - 1 := by unfold parseV; rw [if_pos h]
  unfold parseOk at h
  rw [Bool.and_eq_true] at h
  obtain ⟨hF, hD⟩ := h
  have hD2 : 2000 ≤ numL (l.take 4) ∧ numL (l.take 4) ≤ 2099 ∧ 1 ≤ numL (l.drop 5) ∧ numL (l.drop 5) ≤ 12 := by unfold okD at hD; simpa using hD
  have hok : okP (parseV l) = true := by rw [hv]; unfold okP; simp; omega
  refine ⟨hok, ?_⟩
  have hY : yearV (parseV l) = numL (l.take 4) := by unfold yearV; rw [if_pos hok, hv]; omega
  have hM : monthV (parseV l) = numL (l.drop 5) := by unfold monthV; rw [if_pos hok, hv]; omega
  unfold textB textL
  rw [if_pos hok, hY, hM]
  clear hY hM hok hv hD
  obtain ⟨a, b, c, d, e, f, g, rfl⟩ := seven (formL_len hF)
  have da := formL_dig hF (j := 0) (by simp) (by omega)
  have db := formL_dig hF (j := 1) (by simp) (by omega)
  have dc := formL_dig hF (j := 2) (by simp) (by omega)
  have dd := formL_dig hF (j := 3) (by simp) (by omega)
  have df := formL_dig hF (j := 5) (by simp) (by omega)
  have dg := formL_dig hF (j := 6) (by simp) (by omega)
  have de := formL_four hF
  simp at da db dc dd df dg de
  have ny : numL [a, b, c, d] = 10 * (10 * (10 * ((a.toNat : Int) - 48) + ((b.toNat : Int) - 48)) + ((c.toNat : Int) - 48)) + ((d.toNat : Int) - 48) := by simp [numL]
  have nm : numL [f, g] = 10 * ((f.toNat : Int) - 48) + ((g.toNat : Int) - 48) := by simp [numL]
  simp only [List.take, List.drop] at hD2 ⊢
  rw [ny, nm] at *
  subst de
  simp [List.range, List.range.loop, dig]
  refine ⟨byte_eq ?_, byte_eq ?_, byte_eq ?_, byte_eq ?_, byte_eq ?_, byte_eq ?_⟩ <;> omega
theorem no_month {l : List UInt8} (h : parseOk l = false) {p : Int} (hp : okP p = true) : textB p ≠ l := by
  intro e
  rw [← e, (back hp).1] at h
  cases h
end Go.Proofs.YtbdhhfaelnnocaaGreatDoor
