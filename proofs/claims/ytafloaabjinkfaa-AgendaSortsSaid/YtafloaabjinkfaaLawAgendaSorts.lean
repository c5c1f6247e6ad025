/-
  The walk of the statement AgendaSorts.
-/
-- HOLE2: obtain ⟨fuel0, hf0⟩ := h0
-- obtain ⟨l0, q0⟩ := argItms hf0
-- exact agendaSorts_walk l0 a0 len0 cap0 a1 W q0.rd q0.len q0.cap q0.nil (bounds_i64 w1)
import Derived.Test.YtafloaabjinkfaaAgTwo
import Derived.Test.YtafloaabjinkfaaArgItms
namespace Go.Proofs.Ytafloaabjinkfaa
open Go.RowKit Go.Sort

theorem Rd.dropI {w : World} {B n k : Nat} {ad : Addr} {l : List Itm} (h : Rd w B 3 (some ad) n (itms l)) (hk : k ≤ n) : Rd w B 3 (some (ad.add (k * 3))) (n - k) (itms (l.drop k)) := by
  have hl := h.itms_len
  have e : itms (l.drop k) = (itms l).drop (k * 3) := by
    have h2 := itms_append (l.take k) (l.drop k)
    rw [List.take_append_drop] at h2
    have h3 : (itms (l.take k)).length = k * 3 := by rw [Go.Proofs.Ytafloaabjinkfaa.itms_len, List.length_take]; omega
    rw [h2, ← h3, List.drop_left]
  refine ⟨by rw [Go.Proofs.Ytafloaabjinkfaa.itms_len, List.length_drop]; omega, fun h0 => ?_⟩
  obtain ⟨a2, e2, hb, hc⟩ := h.2 (by omega)
  injection e2 with e2
  subst e2
  refine ⟨_, rfl, by rw [add_block]; exact hb, fun j u hu => ?_⟩
  rw [add_add]
  refine hc _ u ?_
  rw [e, List.getElem?_drop] at hu
  exact hu
theorem Rd.takeI {w : World} {B n k : Nat} {A : Option Addr} {l : List Itm} (h : Rd w B 3 A n (itms l)) (hk : k ≤ n) : Rd w B 3 A k (itms (l.take k)) := by
  have hl := h.itms_len
  refine ⟨by rw [Go.Proofs.Ytafloaabjinkfaa.itms_len, List.length_take]; omega, fun h0 => ?_⟩
  obtain ⟨a2, e, hb, hc⟩ := h.2 (by omega)
  refine ⟨a2, e, hb, fun j u hu => hc j u ?_⟩
  have h2 := itms_append (l.take k) (l.drop k)
  rw [List.take_append_drop] at h2
  rw [h2, List.getElem?_append_left]
  · exact hu
  · exact (List.getElem?_eq_some_iff.1 hu).1
theorem turn_at {t : Int} {n : Nat} (h : 0 < n) (hn : n ≤ 60) : ∃ k : Nat, k < n ∧ Int.tmod (wrap64 (Int.tmod t n + n)) n = k := by
  have h1 : -(n : Int) < Int.tmod t n := Int.lt_tmod_of_pos t (by omega)
  have h2 : Int.tmod t n < n := Int.tmod_lt_of_pos t (by omega)
  rw [IntWalk.wrap64_in _ ⟨by omega, by omega⟩]
  have h3 : 0 ≤ Int.tmod (Int.tmod t n + n) n := Int.tmod_nonneg _ (by omega)
  have h4 : Int.tmod (Int.tmod t n + n) n < n := Int.tmod_lt_of_pos _ (by omega)
  exact ⟨(Int.tmod (Int.tmod t n + n) n).toNat, by omega, by omega⟩
theorem puts_turned (l : List Itm) (k : Nat) (h : l.length ≤ 60) : putsI (putsI [] (l.drop k)) (l.take k) = putsI [] l := by
  refine Rises.same (putsI_rises _ _ (putsI_rises _ _ List.Pairwise.nil)) (putsI_rises _ _ List.Pairwise.nil) ?_
  have h1 := putsI_perm (l.drop k) [] (by simp; omega)
  have h2 := putsI_perm (l.take k) (putsI [] (l.drop k)) (by rw [h1.length_eq]; simp; omega)
  have h3 := putsI_perm l [] (by simp; omega)
  refine h2.trans (List.Perm.trans ?_ h3.symm)
  refine (h1.append_right _).trans ?_
  rw [List.nil_append, List.nil_append]
  have := List.perm_append_comm (l₁ := l.drop k) (l₂ := l.take k)
  rwa [List.take_append_drop] at this

theorem rise_ways {x y : Itm} (h : itmLt y x = false) : (¬ y.per < x.per ∧ (y.per == x.per) = false) ∨ (¬ y.per < x.per ∧ (y.per == x.per) = true ∧ ¬ y.rk > x.rk ∧ (y.rk == x.rk) = false) ∨ (¬ y.per < x.per ∧ (y.per == x.per) = true ∧ ¬ y.rk > x.rk ∧ (y.rk == x.rk) = true ∧ ¬ y.id < x.id) := by
  simp [itmLt] at h ⊢
  omega
theorem put_head {y : Itm} {r : List Itm} (h : Rises (y :: r)) (hl : (y :: r).length ≤ 60) : putsI r [y] = y :: r := by
  have hr : Rises r := by unfold Rises at h ⊢; exact (List.pairwise_cons.1 h).2
  refine Rises.same (putsI_rises _ _ hr) h ?_
  refine (putsI_perm [y] r (by simp at hl ⊢; omega)).trans ?_
  exact List.perm_append_singleton y r
set_option maxRecDepth 100000 in
set_option maxHeartbeats 4000000 in
theorem agendaSorts_walk (l : List Itm) (A : Option Addr) (n c : Nat) (t : Int) (w : World) (hR : Rd w w.heap.size 3 A n (itms l)) (hn : n ≤ maxLen) (hnc : n ≤ c) (hnil : A = none → c = 0) (ht : -9223372036854775808 ≤ t ∧ t ≤ 9223372036854775807) :
    Calls Try.prog 4 #[.slice A n c, .int .i64 t] w fun e w' => e = .returned (.bool true) ∧ Below w.heap.size w w' := by
  unfold maxLen at hn
  have ka := Lib.hid alive8_any
  have HLN := Lib.hid hR.itms_len
  have HR := Lib.hid hR
  have HNIL := Lib.hid hnil
  clear hR hnil
  go_enter Try.func4, Try.ntmps4
  by_cases h1 : n ≤ 60
  · have h1I : ¬ (n : Int) > 60 := by omega
    go_wp2_with fail
    refine (ka.out _).mono ?_
    rintro e w2 ⟨rfl, hb2⟩
    have HB2 := Lib.hid hb2
    clear hb2
    by_cases h0 : 0 < n
    · obtain ⟨k, hk, hkt⟩ := turn_at (t := t) h0 h1
      have hkn : k ≤ n := by omega
      have hkc : k ≤ c := by omega
      obtain ⟨ad, rfl, hadb, _⟩ := HR.out.2 h0
      have HH := Lib.hid (two_new HB2.out)
      obtain ⟨W3, hW3⟩ : ∃ W3, (w2.alloc (.cells #[.slice none 0 0] 28)).alloc (.cells #[.slice none 0 0] 28) = W3 := ⟨_, rfl⟩
      rw [hW3] at HH
      have HW3 := Lib.hid hW3
      clear hW3
      go_wp2_with fail
      rw [HW3.out]
      refine (HH.out.put (HR.out.below HH.out.bel) (by omega) hnc).mono ?_
      rintro e w4 ⟨rfl, T⟩
      have H4 := Lib.hid T
      clear T
      go_wp2_with fail
      refine (H4.out.symm.put ((HR.out.below H4.out.bel).dropI hkn) (by omega) (by omega)).mono ?_
      rintro e w5 ⟨rfl, T⟩
      have H5 := Lib.hid T
      clear T
      go_wp2_with fail
      refine (H5.out.put ((HR.out.below H5.out.bel).takeI hkn) (by omega) (by omega)).mono ?_
      rintro e w6 ⟨rfl, T⟩
      rw [puts_turned l k (by rw [HLN.out]; omega)] at T
      have H6 := Lib.hid T.symm
      have HLP : Hid ((putsI [] l).length = n) := by
        have := putsI_len l [] (by simp)
        rw [HLN.out] at this
        simp at this
        show _ = n
        omega
      have HRI : Hid (Rises (putsI [] l)) := putsI_rises _ _ List.Pairwise.nil
      clear T
      go_wp2_with fail
      obtain ⟨p1, hp1⟩ : ∃ p1, w2.heap.size = p1 := ⟨_, rfl⟩
      rw [hp1] at H6
      rw [hp1]
      clear hp1 HH HW3 H4 H5
      go_loopw [8, 9, 10, 11, 12, 13, 14] (fun iv _ _ _ _ _ _ wr => ∃ i : Nat, i ≤ n ∧ iv = .int .i64 i ∧ ∃ L : List Itm, Hid (L.length = n - i) ∧ Hid (Rises L) ∧ Hid (TwoAg w [] p1 (p1 + 1) L L wr)) (fun iv _ _ _ _ _ _ _ => n - (intOf iv).toNat)
      case atStart => exact ⟨0, Nat.zero_le _, rfl, _, HLP, HRI, H6⟩
      case round =>
        obtain ⟨i, hi, rfl, L, HL, HRS, HT⟩ := hrel
        by_cases hlt : i < n
        · have hiI : (i : Int) < (n : Int) := by omega
          cases L with
          | nil => exact absurd HL.out (by simp; omega)
          | cons x r =>
            go_wp2_with fail
            refine HT.out.next.mono ?_
            rintro e w7 ⟨rfl, T⟩
            obtain ⟨W8, hW8⟩ : ∃ W8, w7.alloc (.cells #[.int .i64 x.per, .int .i64 x.rk, .int .i64 x.id] 33) = W8 := ⟨_, rfl⟩
            have T8 := T.box (.cells #[.int .i64 x.per, .int .i64 x.rk, .int .i64 x.id] 33)
            rw [hW8] at T8
            have H8 := Lib.hid T8
            have HW8 := Lib.hid hW8
            clear T T8 hW8
            go_wp2_with fail
            rw [HW8.out]
            refine H8.out.symm.next.mono ?_
            rintro e w9 ⟨rfl, T⟩
            obtain ⟨W10, hW10⟩ : ∃ W10, w9.alloc (.cells #[.int .i64 x.per, .int .i64 x.rk, .int .i64 x.id] 33) = W10 := ⟨_, rfl⟩
            have T9 := T.symm
            have eX := T9.at List.mem_cons_self
            dsimp only at eX
            have hz79 : w7.heap.size < w9.heap.size := lt_of_blk eX
            obtain ⟨x0, x1, x2⟩ := cells3_regrown eX
            have T10 := T9.box (.cells #[.int .i64 x.per, .int .i64 x.rk, .int .i64 x.id] 33)
            rw [hW10] at T10
            have H10 := Lib.hid T10
            have HW10 := Lib.hid hW10
            clear T T9 T10 hW10 eX
            go_wp2_with fail
            rw [HW10.out]
            cases r with
            | nil =>
              refine H10.out.nextNone.mono ?_
              rintro e w11 ⟨rfl, T⟩
              have H11 : Hid (TwoAg w [] p1 (p1 + 1) [] [] (w11.alloc (.cells #[.int .i64 0, .int .i64 0, .int .i64 0] 33))) := T.drop.drop.below ((Below.refl _ _).alloc (Nat.le_refl _) _)
              have HL1 : Hid (([] : List Itm).length = n - (i + 1)) := by
                have := HL.out
                simp at this
                show 0 = n - (i + 1)
                omega
              clear T x0 x1 x2
              go_wp2_with fail
              exact ⟨⟨i + 1, by omega, by go_num, [], HL1, List.Pairwise.nil, H11⟩, by simp [intOf]; omega⟩
            | cons y r2 =>
              refine H10.out.next.mono ?_
              rintro e w11 ⟨rfl, T⟩
              have eX := T.at (List.mem_cons_of_mem _ List.mem_cons_self)
              dsimp only at eX
              have hz711 : w7.heap.size < w11.heap.size := lt_of_blk eX
              have HL1 : Hid ((y :: r2).length = n - (i + 1)) := by
                have := HL.out
                simp at this
                show r2.length + 1 = n - (i + 1)
                omega
              have hle : (y :: r2).length ≤ 60 := by have := HL1.out; omega
              have HRS1 : Hid (Rises (y :: r2)) := by have := HRS.out; unfold Rises at this; exact (List.pairwise_cons.1 this).2
              have hxy : itmLt y x = false := by have := HRS.out; unfold Rises at this; exact (List.pairwise_cons.1 this).1 y (by simp)
              have KP := (T.box (.cells #[.int .i64 y.per, .int .i64 y.rk, .int .i64 y.id] 33)).putNew (x := y) (c := 1) (Nat.le_refl _)
              rw [show (w11.alloc (.cells #[.int .i64 y.per, .int .i64 y.rk, .int .i64 y.id] 33)).heap.size = w11.heap.size + 1 by simp, put_head HRS1.out hle] at KP
              have KP := Lib.hid KP
              clear T x0 x1 x2 hle hz79
              obtain ⟨x0, x1, x2⟩ := cells3_regrown eX
              clear eX
              have hcmp := rise_ways hxy
              clear hxy
              rcases hcmp with ⟨c1, c2⟩ | ⟨c1, c2, d1, d2⟩ | ⟨c1, c2, d1, d2, e1⟩
              all_goals
                go_wp2_with fail
                refine KP.out.mono ?_
                rintro e w13 ⟨rfl, T⟩
                have H13 := Lib.hid T.drop.drop.drop
                clear T
                go_wp2_with fail
                exact ⟨⟨i + 1, by omega, by go_num, y :: r2, HL1, HRS1, H13⟩, by simp [intOf]; omega⟩
        · obtain rfl : i = n := by omega
          have hnil : L = [] := List.eq_nil_of_length_eq_zero (by have := HL.out; omega)
          subst hnil
          go_wp2_with fail
          refine HT.out.len.mono ?_
          rintro e w' ⟨rfl, rfl⟩
          go_wp2_with fail
          refine HT.out.symm.len.mono ?_
          rintro e w' ⟨rfl, rfl⟩
          go_wp2_with fail
          go_ret
          exact ⟨rfl, HT.out.bel⟩
    · obtain rfl : n = 0 := by omega
      have hl0 : l = [] := List.eq_nil_of_length_eq_zero HLN.out
      subst hl0
      have HH := Lib.hid (two_new HB2.out)
      obtain ⟨W3, hW3⟩ : ∃ W3, (w2.alloc (.cells #[.slice none 0 0] 28)).alloc (.cells #[.slice none 0 0] 28) = W3 := ⟨_, rfl⟩
      rw [hW3] at HH
      have HW3 := Lib.hid hW3
      have HRN : Hid (∀ (W : World) A', Rd W w.heap.size 3 A' 0 (itms [])) := fun W A' => ⟨rfl, fun h => absurd h (by omega)⟩
      have hc0 := HNIL.out
      clear hW3
      cases A with
      | none =>
        have hc1 : c = 0 := hc0 rfl
        subst hc1
        clear hc0
        go_wp2_with fail
        rw [HW3.out]
        refine (HH.out.put (HRN.out _ _) (by omega) (by omega)).mono ?_
        rintro e w4 ⟨rfl, T⟩
        have H4 := Lib.hid T
        clear T
        go_wp2_with fail
        refine (H4.out.symm.put (HRN.out _ _) (by omega) (by omega)).mono ?_
        rintro e w5 ⟨rfl, T⟩
        have H5 := Lib.hid T
        clear T
        go_wp2_with fail
        refine (H5.out.put (HRN.out _ _) (by omega) (by omega)).mono ?_
        rintro e w6 ⟨rfl, T⟩
        have H6 : Hid (TwoAg w [] w2.heap.size (w2.heap.size + 1) [] [] w6) := T.symm
        clear T
        go_wp2_with fail
        go_loopw [8, 9, 10, 11, 12, 13, 14] (fun iv _ _ _ _ _ _ wr => iv = .int .i64 0 ∧ wr = w6) (fun _ _ _ _ _ _ _ _ => 0)
        case atStart => exact ⟨rfl, rfl⟩
        case round =>
          obtain ⟨rfl, rfl⟩ := hrel
          go_wp2_with fail
          refine H6.out.len.mono ?_
          rintro e w' ⟨rfl, rfl⟩
          go_wp2_with fail
          refine H6.out.symm.len.mono ?_
          rintro e w' ⟨rfl, rfl⟩
          go_wp2_with fail
          go_ret
          exact ⟨rfl, H6.out.bel⟩
      | some ad =>
        clear hc0
        go_wp2_with fail
        rw [HW3.out]
        refine (HH.out.put (HRN.out _ _) (by omega) (by omega)).mono ?_
        rintro e w4 ⟨rfl, T⟩
        have H4 := Lib.hid T
        clear T
        go_wp2_with fail
        refine (H4.out.symm.put (HRN.out _ _) (by omega) (by omega)).mono ?_
        rintro e w5 ⟨rfl, T⟩
        have H5 := Lib.hid T
        clear T
        go_wp2_with fail
        refine (H5.out.put (HRN.out _ _) (by omega) (by omega)).mono ?_
        rintro e w6 ⟨rfl, T⟩
        have H6 : Hid (TwoAg w [] w2.heap.size (w2.heap.size + 1) [] [] w6) := T.symm
        clear T
        go_wp2_with fail
        go_loopw [8, 9, 10, 11, 12, 13, 14] (fun iv _ _ _ _ _ _ wr => iv = .int .i64 0 ∧ wr = w6) (fun _ _ _ _ _ _ _ _ => 0)
        case atStart => exact ⟨rfl, rfl⟩
        case round =>
          obtain ⟨rfl, rfl⟩ := hrel
          go_wp2_with fail
          refine H6.out.len.mono ?_
          rintro e w' ⟨rfl, rfl⟩
          go_wp2_with fail
          refine H6.out.symm.len.mono ?_
          rintro e w' ⟨rfl, rfl⟩
          go_wp2_with fail
          go_ret
          exact ⟨rfl, H6.out.bel⟩
  · have h1I : (n : Int) > 60 := by omega
    go_wp2_with fail
    refine (ka.out _).mono ?_
    rintro e w2 ⟨rfl, hb2⟩
    have HB2 := Lib.hid hb2
    clear hb2
    go_wp2_with fail
    go_ret
    exact ⟨rfl, HB2.out⟩
end Go.Proofs.Ytafloaabjinkfaa
