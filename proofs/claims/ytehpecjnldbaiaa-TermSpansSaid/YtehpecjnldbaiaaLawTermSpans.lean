/-
  The walk of the statement TermSpans.
-/
-- HOLE: exact termSpans_walk a0 a1 w (bounds_i64 w0).1 (bounds_i64 w0).2 (bounds_i64 w1).1 (bounds_i64 w1).2
import Derived.Test.YtehpecjnldbaiaaTermAlive
import Derived.Test.YtehpecjnldbaiaaTermSpan
import Derived.Test.YtehpecjnldbaiaaBookRel
namespace Go.Proofs.Ytehpecjnldbaiaa
open Go.RowKit

set_option maxRecDepth 100000 in
set_option maxHeartbeats 4000000 in
theorem spans_fbad (p q : Int) (w : World) (_b1 : -9223372036854775808 ≤ p) (_b2 : p ≤ 9223372036854775807) (_b3 : -9223372036854775808 ≤ q) (_b4 : q ≤ 9223372036854775807) (hp : okP p = false) :
    Calls Try.prog 5 #[.int .i64 p, .int .i64 q] w fun e w' => e = .returned (.bool true) ∧ Below w.heap.size w w' := by
  have ks := fun w => span_any p q w
  have kp := fun w => refValid_any p w
  have kq := fun w => refValid_any q w
  rw [show spanN p q = 0 from by unfold spanN; rw [if_neg (by simp [hp])]] at ks
  rw [hp] at kp
  clear hp
  go_enter Try.func5, Try.ntmps5
  go_wp2_with fail
  refine (alive_any w).mono ?_
  rintro e w2 ⟨rfl, hb1⟩
  have HB2 := Lib.hid hb1
  have hz0 := hb1.size
  clear hb1
  go_wp2_with fail
  have HK0 : Hid (SplitsRel w2 w2.heap.size (spanL p 0) 0 (w2.alloc (.cells #[.slice none 0 0, .slice none 0 0, .slice none 0 0, .slice none 0 0, .slice none 0 0, .slice none 0 0, .slice none 0 0, .slice none 0 0, .slice none 0 0, .slice none 0 0, .slice none 0 0, .slice none 0 0, .slice none 0 0, .slice none 0 0, .slice none 0 0, .slice none 0 0, .slice none 0 0, .slice none 0 0, .slice none 0 0, .slice none 0 0] 46)) (fun _ => .slice none 0 0) (fun _ => .slice none 0 0) (fun _ => .slice none 0 0)) :=
    ⟨KeptInts.new w2 _ (Nat.le_refl _) _ _ _, fun _ _ _ => rfl, (Below.refl _ _).alloc (Nat.le_refl _) _⟩
  go_loopw [6] (fun kv wr => ∃ (k : Nat) (F V U : Nat → Value), k ≤ 2 ∧ kv = .int .i64 (k : Int) ∧ SplitsRel w2 w2.heap.size (spanL p 0) k wr F V U) (fun kv _ => 2 - (intOf kv).toNat)
  case atStart => exact ⟨0, _, _, _, by omega, rfl, HK0.out⟩
  case round =>
    obtain ⟨k, F, V, U, hk, rfl, hrel⟩ := hrel
    have HREL := Lib.hid hrel
    have hzr := hrel.below.size
    clear hrel HK0
    by_cases hk2 : k < 2
    · have hkI : (k : Int) < 2 := by omega
      go_wp2_with fail
      refine (ks wr).mono ?_
      rintro e w3 ⟨A3, c3, rfl, hown3, hb3⟩
      have hz3 := hb3.size
      have HD : Hid (∀ i, i < k → ∀ x, (Value.slice A3 0 c3).ownBlock = some x → (V i).ownBlock ≠ some x) := by
        intro i hi x h1 h2
        have := own_ge hown3 x h1
        have := own_lt (HREL.out.kept.2.2.2.2.2.1.1 i hi) x h2
        omega
      have HK4 := Lib.hid (HREL.out.kept.below hb3)
      have HB4 : Hid (Below w2.heap.size w2 w3) := HREL.out.below.trans (hb3.mono hzr)
      have HO3 := Lib.hid hown3
      clear hown3 hb3
      go_wp2_with fail
      refine (bookInts_any w2.heap.size w2.heap.size k 0 c3 F V U (fun _ => spanL p 0) A3 (spanL p 0) w3 HK4.out (by omega) (own_base HO3.out (by omega)) (spanL_len _ _) (by omega) HD.out).mono ?_
      rintro e w5 ⟨rfl, F', cv, hK5, hF5, hB5, hrows⟩
      have HS5 : Hid (SplitsRel w2 w2.heap.size (spanL p 0) (k + 1) w5 F' (upd V k (.slice A3 0 c3)) (upd U k cv)) := ⟨hK5.congr fun i _ => by split <;> rfl, fun j h2 h3 => by rw [hF5 j h2 h3, HREL.out.rest j h2 h3], HB4.out.trans hB5⟩
      have HO5 := Lib.hid (hrows _ _ _ _ HO3.out)
      clear hK5 hF5 hB5 hrows
      go_wp2_with fail
      refine (kp w5).mono ?_
      rintro e w6 ⟨rfl, rfl⟩
      go_wp2_with fail
      go_loop [9] (fun iv => iv = .int .i64 0) (fun _ => 0)
      case atStart => rfl
      case round =>
        subst hrel
        go_wp2
        exact ⟨⟨k + 1, _, _, _, by omega, by go_num, HS5.out⟩, by simp [intOf]; omega⟩
    · obtain rfl : k = 2 := by omega
      go_wp2_with fail
      refine (apartInts_any w2.heap.size w2.heap.size 2 F V U (fun _ => spanL p 0) wr HREL.out.kept HREL.out.rest (by omega) (fun _ _ => by rw [spanL_len]; omega)).mono ?_
      rintro e w4 ⟨rfl, hb4⟩
      go_wp2
      go_ret
      exact ⟨rfl, HB2.out.trans ((HREL.out.below.trans hb4).mono hz0)⟩

set_option maxRecDepth 100000 in
set_option maxHeartbeats 4000000 in
theorem spans_tbad (p q : Int) (w : World) (_b1 : -9223372036854775808 ≤ p) (_b2 : p ≤ 9223372036854775807) (_b3 : -9223372036854775808 ≤ q) (_b4 : q ≤ 9223372036854775807) (hp : okP p = true) (hq : okP q = false) :
    Calls Try.prog 5 #[.int .i64 p, .int .i64 q] w fun e w' => e = .returned (.bool true) ∧ Below w.heap.size w w' := by
  have ks := fun w => span_any p q w
  have kp := fun w => refValid_any p w
  have kq := fun w => refValid_any q w
  rw [show spanN p q = 0 from by unfold spanN; rw [if_neg (by simp [hq])]] at ks
  rw [hp] at kp
  rw [hq] at kq
  clear hp hq
  go_enter Try.func5, Try.ntmps5
  go_wp2_with fail
  refine (alive_any w).mono ?_
  rintro e w2 ⟨rfl, hb1⟩
  have HB2 := Lib.hid hb1
  have hz0 := hb1.size
  clear hb1
  go_wp2_with fail
  have HK0 : Hid (SplitsRel w2 w2.heap.size (spanL p 0) 0 (w2.alloc (.cells #[.slice none 0 0, .slice none 0 0, .slice none 0 0, .slice none 0 0, .slice none 0 0, .slice none 0 0, .slice none 0 0, .slice none 0 0, .slice none 0 0, .slice none 0 0, .slice none 0 0, .slice none 0 0, .slice none 0 0, .slice none 0 0, .slice none 0 0, .slice none 0 0, .slice none 0 0, .slice none 0 0, .slice none 0 0, .slice none 0 0] 46)) (fun _ => .slice none 0 0) (fun _ => .slice none 0 0) (fun _ => .slice none 0 0)) :=
    ⟨KeptInts.new w2 _ (Nat.le_refl _) _ _ _, fun _ _ _ => rfl, (Below.refl _ _).alloc (Nat.le_refl _) _⟩
  go_loopw [6] (fun kv wr => ∃ (k : Nat) (F V U : Nat → Value), k ≤ 2 ∧ kv = .int .i64 (k : Int) ∧ SplitsRel w2 w2.heap.size (spanL p 0) k wr F V U) (fun kv _ => 2 - (intOf kv).toNat)
  case atStart => exact ⟨0, _, _, _, by omega, rfl, HK0.out⟩
  case round =>
    obtain ⟨k, F, V, U, hk, rfl, hrel⟩ := hrel
    have HREL := Lib.hid hrel
    have hzr := hrel.below.size
    clear hrel HK0
    by_cases hk2 : k < 2
    · have hkI : (k : Int) < 2 := by omega
      go_wp2_with fail
      refine (ks wr).mono ?_
      rintro e w3 ⟨A3, c3, rfl, hown3, hb3⟩
      have hz3 := hb3.size
      have HD : Hid (∀ i, i < k → ∀ x, (Value.slice A3 0 c3).ownBlock = some x → (V i).ownBlock ≠ some x) := by
        intro i hi x h1 h2
        have := own_ge hown3 x h1
        have := own_lt (HREL.out.kept.2.2.2.2.2.1.1 i hi) x h2
        omega
      have HK4 := Lib.hid (HREL.out.kept.below hb3)
      have HB4 : Hid (Below w2.heap.size w2 w3) := HREL.out.below.trans (hb3.mono hzr)
      have HO3 := Lib.hid hown3
      clear hown3 hb3
      go_wp2_with fail
      refine (bookInts_any w2.heap.size w2.heap.size k 0 c3 F V U (fun _ => spanL p 0) A3 (spanL p 0) w3 HK4.out (by omega) (own_base HO3.out (by omega)) (spanL_len _ _) (by omega) HD.out).mono ?_
      rintro e w5 ⟨rfl, F', cv, hK5, hF5, hB5, hrows⟩
      have HS5 : Hid (SplitsRel w2 w2.heap.size (spanL p 0) (k + 1) w5 F' (upd V k (.slice A3 0 c3)) (upd U k cv)) := ⟨hK5.congr fun i _ => by split <;> rfl, fun j h2 h3 => by rw [hF5 j h2 h3, HREL.out.rest j h2 h3], HB4.out.trans hB5⟩
      have HO5 := Lib.hid (hrows _ _ _ _ HO3.out)
      clear hK5 hF5 hB5 hrows
      go_wp2_with fail
      refine (kp w5).mono ?_
      rintro e w6 ⟨rfl, rfl⟩
      go_wp2_with fail
      refine (kq w5).mono ?_
      rintro e w6 ⟨rfl, rfl⟩
      go_wp2_with fail
      go_loop [9] (fun iv => iv = .int .i64 0) (fun _ => 0)
      case atStart => rfl
      case round =>
        subst hrel
        go_wp2
        exact ⟨⟨k + 1, _, _, _, by omega, by go_num, HS5.out⟩, by simp [intOf]; omega⟩
    · obtain rfl : k = 2 := by omega
      go_wp2_with fail
      refine (apartInts_any w2.heap.size w2.heap.size 2 F V U (fun _ => spanL p 0) wr HREL.out.kept HREL.out.rest (by omega) (fun _ _ => by rw [spanL_len]; omega)).mono ?_
      rintro e w4 ⟨rfl, hb4⟩
      go_wp2
      go_ret
      exact ⟨rfl, HB2.out.trans ((HREL.out.below.trans hb4).mono hz0)⟩

set_option maxRecDepth 100000 in
set_option maxHeartbeats 4000000 in
theorem spans_back (p q : Int) (w : World) (_b1 : -9223372036854775808 ≤ p) (_b2 : p ≤ 9223372036854775807) (_b3 : -9223372036854775808 ≤ q) (_b4 : q ≤ 9223372036854775807) (hp : okP p = true) (hq : okP q = true) (hpq : q < p) :
    Calls Try.prog 5 #[.int .i64 p, .int .i64 q] w fun e w' => e = .returned (.bool true) ∧ Below w.heap.size w w' := by
  have ks := fun w => span_any p q w
  have kp := fun w => refValid_any p w
  have kq := fun w => refValid_any q w
  rw [show spanN p q = 0 from by unfold spanN; rw [if_neg (by omega)]] at ks
  rw [hp] at kp
  rw [hq] at kq
  have h1 := okP_t hp
  have h2 := okP_t hq
  clear hp hq
  go_enter Try.func5, Try.ntmps5
  go_wp2_with fail
  refine (alive_any w).mono ?_
  rintro e w2 ⟨rfl, hb1⟩
  have HB2 := Lib.hid hb1
  have hz0 := hb1.size
  clear hb1
  go_wp2_with fail
  have HK0 : Hid (SplitsRel w2 w2.heap.size (spanL p 0) 0 (w2.alloc (.cells #[.slice none 0 0, .slice none 0 0, .slice none 0 0, .slice none 0 0, .slice none 0 0, .slice none 0 0, .slice none 0 0, .slice none 0 0, .slice none 0 0, .slice none 0 0, .slice none 0 0, .slice none 0 0, .slice none 0 0, .slice none 0 0, .slice none 0 0, .slice none 0 0, .slice none 0 0, .slice none 0 0, .slice none 0 0, .slice none 0 0] 46)) (fun _ => .slice none 0 0) (fun _ => .slice none 0 0) (fun _ => .slice none 0 0)) :=
    ⟨KeptInts.new w2 _ (Nat.le_refl _) _ _ _, fun _ _ _ => rfl, (Below.refl _ _).alloc (Nat.le_refl _) _⟩
  go_loopw [6] (fun kv wr => ∃ (k : Nat) (F V U : Nat → Value), k ≤ 2 ∧ kv = .int .i64 (k : Int) ∧ SplitsRel w2 w2.heap.size (spanL p 0) k wr F V U) (fun kv _ => 2 - (intOf kv).toNat)
  case atStart => exact ⟨0, _, _, _, by omega, rfl, HK0.out⟩
  case round =>
    obtain ⟨k, F, V, U, hk, rfl, hrel⟩ := hrel
    have HREL := Lib.hid hrel
    have hzr := hrel.below.size
    clear hrel HK0
    by_cases hk2 : k < 2
    · have hkI : (k : Int) < 2 := by omega
      go_wp2_with fail
      refine (ks wr).mono ?_
      rintro e w3 ⟨A3, c3, rfl, hown3, hb3⟩
      have hz3 := hb3.size
      have HD : Hid (∀ i, i < k → ∀ x, (Value.slice A3 0 c3).ownBlock = some x → (V i).ownBlock ≠ some x) := by
        intro i hi x h1 h2
        have := own_ge hown3 x h1
        have := own_lt (HREL.out.kept.2.2.2.2.2.1.1 i hi) x h2
        omega
      have HK4 := Lib.hid (HREL.out.kept.below hb3)
      have HB4 : Hid (Below w2.heap.size w2 w3) := HREL.out.below.trans (hb3.mono hzr)
      have HO3 := Lib.hid hown3
      clear hown3 hb3
      go_wp2_with fail
      refine (bookInts_any w2.heap.size w2.heap.size k 0 c3 F V U (fun _ => spanL p 0) A3 (spanL p 0) w3 HK4.out (by omega) (own_base HO3.out (by omega)) (spanL_len _ _) (by omega) HD.out).mono ?_
      rintro e w5 ⟨rfl, F', cv, hK5, hF5, hB5, hrows⟩
      have HS5 : Hid (SplitsRel w2 w2.heap.size (spanL p 0) (k + 1) w5 F' (upd V k (.slice A3 0 c3)) (upd U k cv)) := ⟨hK5.congr fun i _ => by split <;> rfl, fun j h2 h3 => by rw [hF5 j h2 h3, HREL.out.rest j h2 h3], HB4.out.trans hB5⟩
      have HO5 := Lib.hid (hrows _ _ _ _ HO3.out)
      clear hK5 hF5 hB5 hrows
      go_wp2_with fail
      refine (kp w5).mono ?_
      rintro e w6 ⟨rfl, rfl⟩
      go_wp2_with fail
      refine (kq w5).mono ?_
      rintro e w6 ⟨rfl, rfl⟩
      go_wp2_with fail
      go_loop [9] (fun iv => iv = .int .i64 0) (fun _ => 0)
      case atStart => rfl
      case round =>
        subst hrel
        go_wp2
        exact ⟨⟨k + 1, _, _, _, by omega, by go_num, HS5.out⟩, by simp [intOf]; omega⟩
    · obtain rfl : k = 2 := by omega
      go_wp2_with fail
      refine (apartInts_any w2.heap.size w2.heap.size 2 F V U (fun _ => spanL p 0) wr HREL.out.kept HREL.out.rest (by omega) (fun _ _ => by rw [spanL_len]; omega)).mono ?_
      rintro e w4 ⟨rfl, hb4⟩
      go_wp2
      go_ret
      exact ⟨rfl, HB2.out.trans ((HREL.out.below.trans hb4).mono hz0)⟩

set_option maxRecDepth 100000 in
set_option maxHeartbeats 4000000 in
theorem spans_good (p q : Int) (w : World) (b1 : -9223372036854775808 ≤ p) (b2 : p ≤ 9223372036854775807) (b3 : -9223372036854775808 ≤ q) (b4 : q ≤ 9223372036854775807) (hp : okP p = true) (hq : okP q = true) (hpq : p ≤ q) :
    Calls Try.prog 5 #[.int .i64 p, .int .i64 q] w fun e w' => e = .returned (.bool true) ∧ Below w.heap.size w w' := by
  have ks := fun w => span_any p q w
  have kp := fun w => refValid_any p w
  have kq := fun w => refValid_any q w
  have hN2 : ((spanN p q : Nat) : Int) = q - p + 1 := by unfold spanN; rw [if_pos ⟨hp, hq, hpq⟩]; omega
  have h1 := okP_t hp
  have h2 := okP_t hq
  rw [hp] at kp
  rw [hq] at kq
  generalize spanN p q = N at *
  have hNl : N ≤ 1200 := by omega
  clear hp hq
  go_enter Try.func5, Try.ntmps5
  go_wp2_with fail
  refine (alive_any w).mono ?_
  rintro e w2 ⟨rfl, hb1⟩
  have HB2 := Lib.hid hb1
  have hz0 := hb1.size
  clear hb1
  go_wp2_with fail
  have HK0 : Hid (SplitsRel w2 w2.heap.size (spanL p N) 0 (w2.alloc (.cells #[.slice none 0 0, .slice none 0 0, .slice none 0 0, .slice none 0 0, .slice none 0 0, .slice none 0 0, .slice none 0 0, .slice none 0 0, .slice none 0 0, .slice none 0 0, .slice none 0 0, .slice none 0 0, .slice none 0 0, .slice none 0 0, .slice none 0 0, .slice none 0 0, .slice none 0 0, .slice none 0 0, .slice none 0 0, .slice none 0 0] 46)) (fun _ => .slice none 0 0) (fun _ => .slice none 0 0) (fun _ => .slice none 0 0)) :=
    ⟨KeptInts.new w2 _ (Nat.le_refl _) _ _ _, fun _ _ _ => rfl, (Below.refl _ _).alloc (Nat.le_refl _) _⟩
  go_loopw [6] (fun kv wr => ∃ (k : Nat) (F V U : Nat → Value), k ≤ 2 ∧ kv = .int .i64 (k : Int) ∧ SplitsRel w2 w2.heap.size (spanL p N) k wr F V U) (fun kv _ => 2 - (intOf kv).toNat)
  case atStart => exact ⟨0, _, _, _, by omega, rfl, HK0.out⟩
  case round =>
    obtain ⟨k, F, V, U, hk, rfl, hrel⟩ := hrel
    have HREL := Lib.hid hrel
    have hzr := hrel.below.size
    clear hrel HK0
    by_cases hk2 : k < 2
    · have hkI : (k : Int) < 2 := by omega
      go_wp2_with fail
      refine (ks wr).mono ?_
      rintro e w3 ⟨A3, c3, rfl, hown3, hb3⟩
      have hz3 := hb3.size
      have HD : Hid (∀ i, i < k → ∀ x, (Value.slice A3 N c3).ownBlock = some x → (V i).ownBlock ≠ some x) := by
        intro i hi x h1 h2
        have := own_ge hown3 x h1
        have := own_lt (HREL.out.kept.2.2.2.2.2.1.1 i hi) x h2
        omega
      have HK4 := Lib.hid (HREL.out.kept.below hb3)
      have HB4 : Hid (Below w2.heap.size w2 w3) := HREL.out.below.trans (hb3.mono hzr)
      have HO3 := Lib.hid hown3
      clear hown3 hb3
      go_wp2_with fail
      refine (bookInts_any w2.heap.size w2.heap.size k N c3 F V U (fun _ => spanL p N) A3 (spanL p N) w3 HK4.out (by omega) (own_base HO3.out (by omega)) (spanL_len _ _) (by omega) HD.out).mono ?_
      rintro e w5 ⟨rfl, F', cv, hK5, hF5, hB5, hrows⟩
      have HS5 : Hid (SplitsRel w2 w2.heap.size (spanL p N) (k + 1) w5 F' (upd V k (.slice A3 N c3)) (upd U k cv)) := ⟨hK5.congr fun i _ => by split <;> rfl, fun j h2 h3 => by rw [hF5 j h2 h3, HREL.out.rest j h2 h3], HB4.out.trans hB5⟩
      have HO5 := Lib.hid (hrows _ _ _ _ HO3.out)
      clear hK5 hF5 hB5 hrows
      go_wp2_with fail
      refine (kp w5).mono ?_
      rintro e w6 ⟨rfl, rfl⟩
      go_wp2_with fail
      refine (kq w5).mono ?_
      rintro e w6 ⟨rfl, rfl⟩
      have HRD := Lib.hid (rd_of_own HO5.out)
      clear HO5 HO3
      go_wp2_with fail
      go_loop [9] (fun iv => ∃ i : Nat, i ≤ N ∧ iv = .int .i64 (i : Int)) (fun iv => N - (intOf iv).toNat)
      case atStart => exact ⟨0, by omega, rfl⟩
      case round =>
        obtain ⟨i, hi, rfl⟩ := hrel
        by_cases hiN : i < N
        · obtain ⟨ad, rfl, hbk, hc⟩ := HRD.out.int hiN
          rw [spanL_at p hiN] at hc
          go_wp2
          exact ⟨⟨i + 1, by omega, by go_num⟩, by simp [intOf]; omega⟩
        · go_wp2
          exact ⟨⟨k + 1, _, _, _, by omega, by go_num, HS5.out⟩, by simp [intOf]; omega⟩
    · obtain rfl : k = 2 := by omega
      go_wp2_with fail
      refine (apartInts_any w2.heap.size w2.heap.size 2 F V U (fun _ => spanL p N) wr HREL.out.kept HREL.out.rest (by omega) (fun _ _ => by rw [spanL_len]; omega)).mono ?_
      rintro e w4 ⟨rfl, hb4⟩
      go_wp2
      go_ret
      exact ⟨rfl, HB2.out.trans ((HREL.out.below.trans hb4).mono hz0)⟩

theorem termSpans_walk (p q : Int) (w : World) (b1 : -9223372036854775808 ≤ p) (b2 : p ≤ 9223372036854775807) (b3 : -9223372036854775808 ≤ q) (b4 : q ≤ 9223372036854775807) :
    Calls Try.prog 5 #[.int .i64 p, .int .i64 q] w fun e w' => e = .returned (.bool true) ∧ Below w.heap.size w w' := by
  cases hp : okP p
  · exact spans_fbad p q w b1 b2 b3 b4 hp
  cases hq : okP q
  · exact spans_tbad p q w b1 b2 b3 b4 hp hq
  by_cases hpq : q < p
  · exact spans_back p q w b1 b2 b3 b4 hp hq hpq
  · exact spans_good p q w b1 b2 b3 b4 hp hq (by omega)
end Go.Proofs.Ytehpecjnldbaiaa
