/-
  Several texts, one behind the other: what each holds stands ahead of it.
-/
import Derived.Test.YtaliipcgekhepaaGreatChartMath
import Derived.Test.YtaliipcgekhepaaGreatChartGet

/-
  Contract of the reference's Row.
-/
namespace Go.Proofs.YtaliipcgekhepaaGreat
open Go.RowKit

set_option maxRecDepth 100000 in
theorem refRow_any (x k : Int) (w : World) : Calls Tryz.prog 26 #[.int .i64 x, .int .i64 k] w fun e w' => e = .returned (.bool (okRow x k)) ∧ w = w' := by
  by_cases h1 : 1 ≤ x
  · by_cases h2 : x ≤ 9999
    · by_cases h3 : 1 ≤ k
      · by_cases h4 : k ≤ 5
        · have HO : Hid (okRow x k = true) := by simp [okRow, Hid, h1, h2, h3, h4]
          go_enter Tryz.func26, Tryz.ntmps26
          go_wp2
          go_ret
          exact ⟨ret_bool (by rw [HO.out]; try simp [h4]), rfl⟩
        · have HO : Hid (okRow x k = false) := by simp [okRow, Hid]; omega
          go_enter Tryz.func26, Tryz.ntmps26
          go_wp2
          go_ret
          exact ⟨ret_bool (by rw [HO.out]; try simp [h4]), rfl⟩
      · have HO : Hid (okRow x k = false) := by simp [okRow, Hid]; omega
        go_enter Tryz.func26, Tryz.ntmps26
        go_wp2
        go_ret
        exact ⟨ret_bool HO.out.symm, rfl⟩
    · have HO : Hid (okRow x k = false) := by simp [okRow, Hid]; omega
      go_enter Tryz.func26, Tryz.ntmps26
      go_wp2
      go_ret
      exact ⟨ret_bool HO.out.symm, rfl⟩
  · have HO : Hid (okRow x k = false) := by simp [okRow, Hid]; omega
    go_enter Tryz.func26, Tryz.ntmps26
    go_wp2
    go_ret
    exact ⟨ret_bool HO.out.symm, rfl⟩
end Go.Proofs.YtaliipcgekhepaaGreat

/-
  Contracts of the reference's Account, Live, AddAccount.
-/
namespace Go.Proofs.YtaliipcgekhepaaGreat
open Go.RowKit

theorem find_step {l : List Acc} {j : Nat} {a : Acc} {x : Int} (ha : l[j]? = some a) (h0 : findA (l.take j) x = none) :
    (a.code = x → findA l x = some a) ∧ (a.code ≠ x → findA (l.take (j + 1)) x = none) := by
  obtain ⟨hl, rfl⟩ := List.getElem?_eq_some_iff.1 ha
  constructor
  · intro h
    unfold findA at *
    conv => lhs; rw [← List.take_append_drop j l, List.find?_append, h0, List.drop_eq_getElem_cons hl, List.find?_cons]
    simp [h]
  · intro h
    unfold findA at *
    rw [List.take_succ_eq_append_getElem hl, List.find?_append, h0]
    simp [h]

set_option maxRecDepth 100000 in
set_option maxHeartbeats 1000000 in
theorem refAccount_any (l : List Acc) (x : Int) (A : Option Addr) (n c B : Nat) (w : World) (h : Rd w B 3 A n (accs l)) (hB : B ≤ w.heap.size) (hn : n ≤ 1000000) :
    Calls Tryz.prog 10 #[.slice A n c, .int .i64 x] w fun e w' => e = .returned (getV l x) ∧ Below w.heap.size w w' := by
  have HL := Lib.hid h.accs_len
  have HR := Lib.hid (h.below (Below.mono (B := w.heap.size) ((Below.refl _ w).alloc (Nat.le_refl _) (.cells #[.int .i64 0, .int .i64 0, .bool false] 34)) hB))
  clear h
  go_enter Tryz.func10, Tryz.ntmps10
  go_wp2_with fail
  go_loopw [6] (fun iv wr => ∃ j : Nat, j ≤ n ∧ iv = .int .i64 j ∧ Hid (findA (l.take j) x = none) ∧ wr = w.alloc (.cells #[.int .i64 0, .int .i64 0, .bool false] 34)) (fun iv _ => n - (intOf iv).toNat)
  case atStart => exact ⟨0, Nat.zero_le _, rfl, rfl, rfl⟩
  case round =>
    obtain ⟨j, hj, rfl, h0, rfl⟩ := hrel
    by_cases hlt : j < n
    · obtain ⟨ad, a, rfl, hb1, hx, p1, p2, p3⟩ := HR.out.acc hlt
      have p2' := cell_behind p2 (by omega)
      have p3' := cell_behind p3 (by omega)
      have HST := Lib.hid (find_step hx h0.out)
      have hjn : (j : Int) < (n : Int) := by omega
      clear hx p2 p3
      obtain ⟨x1, x2, x3⟩ := a
      by_cases he : x1 = x
      · subst he
        have HF := Lib.hid (HST.out.1 rfl)
        go_wp2
        refine bodyPost_ret (v := .tuple #[.agg #[.int .i64 x1, .int .i64 x2, .bool x3], .bool true]) (by simp [results, Tryz.results10, go_sem]) rfl ⟨?_, ?_⟩
        · unfold getV; rw [HF.out]; rfl
        · first | exact (Below.refl _ _).alloc (Nat.le_refl _) _ | exact ((((Below.refl _ _).alloc (Nat.le_refl _) _).setCell (by simp) _).setCell (by simp) _).setCell (by simp) _
      · have HF := Lib.hid (HST.out.2 he)
        have he' : (x1 == x) = false := by simp [he]
        go_wp2
        exact ⟨⟨j + 1, by omega, by go_num, HF.out, by first | rfl | trivial⟩, by simp [intOf]; omega⟩
    · obtain rfl : j = n := by omega
      have HF : Hid (findA l x = none) := by
        have := h0.out
        rwa [List.take_of_length_le (by have := HL.out; omega)] at this
      go_wp2
      refine bodyPost_ret (v := .tuple #[.agg #[.int .i64 0, .int .i64 0, .bool false], .bool false]) (by simp [results, Tryz.results10, go_sem]) rfl ⟨?_, ?_⟩
      · unfold getV; rw [HF.out]; rfl
      · first | exact (Below.refl _ _).alloc (Nat.le_refl _) _ | exact ((((Below.refl _ _).alloc (Nat.le_refl _) _).setCell (by simp) _).setCell (by simp) _).setCell (by simp) _

set_option maxRecDepth 100000 in
set_option maxHeartbeats 1000000 in
theorem refLive_any (l : List Acc) (x : Int) (A : Option Addr) (n c B : Nat) (w : World) (h : Rd w B 3 A n (accs l)) (hB : B ≤ w.heap.size) (hn : n ≤ 1000000) :
    Calls Tryz.prog 17 #[.slice A n c, .int .i64 x] w fun e w' => e = .returned (.int .i64 (liveE1 l x)) ∧ Below w.heap.size w w' := by
  have kg := refAccount_any l x A n c B w h hB hn
  have HLV := Lib.hid (live_get l x)
  unfold getV at kg
  clear h
  generalize (findA l x).getD acc0 = a at *
  generalize (findA l x).isSome = t at *
  obtain ⟨x1, x2, x3⟩ := a
  unfold Acc.val at kg
  cases t
  · rw [show liveE1 l x = 4 from by rw [HLV.out]; rfl]
    go_enter Tryz.func17, Tryz.ntmps17
    go_wp2_with fail
    refine kg.mono ?_
    rintro e w2 ⟨rfl, hb⟩
    have hz := hb.size
    have HB := Lib.hid hb
    clear hb
    go_wp2
    go_ret
    refine ⟨rfl, ?_⟩
    first | exact HB.out.alloc (by omega) _ | exact (((HB.out.alloc (by omega) _).setCell (by simp; omega) _).setCell (by simp; omega) _).setCell (by simp; omega) _
  · cases x3
    · rw [show liveE1 l x = 0 from by rw [HLV.out]; rfl]
      go_enter Tryz.func17, Tryz.ntmps17
      go_wp2_with fail
      refine kg.mono ?_
      rintro e w2 ⟨rfl, hb⟩
      have hz := hb.size
      have HB := Lib.hid hb
      clear hb
      go_wp2
      go_ret
      refine ⟨rfl, ?_⟩
      first | exact HB.out.alloc (by omega) _ | exact (((HB.out.alloc (by omega) _).setCell (by simp; omega) _).setCell (by simp; omega) _).setCell (by simp; omega) _
    · rw [show liveE1 l x = 5 from by rw [HLV.out]; rfl]
      go_enter Tryz.func17, Tryz.ntmps17
      go_wp2_with fail
      refine kg.mono ?_
      rintro e w2 ⟨rfl, hb⟩
      have hz := hb.size
      have HB := Lib.hid hb
      clear hb
      go_wp2
      go_ret
      refine ⟨rfl, ?_⟩
      first | exact HB.out.alloc (by omega) _ | exact (((HB.out.alloc (by omega) _).setCell (by simp; omega) _).setCell (by simp; omega) _).setCell (by simp; omega) _
end Go.Proofs.YtaliipcgekhepaaGreat
