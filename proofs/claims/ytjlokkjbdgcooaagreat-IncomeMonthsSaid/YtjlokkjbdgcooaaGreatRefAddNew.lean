/-
  Contract of the reference's AddAccount, where it adds.
-/
import Derived.Test.YtjlokkjbdgcooaaGreatMany31
namespace Go.Proofs.YtjlokkjbdgcooaaGreat
open Go.RowKit

set_option maxRecDepth 100000 in
set_option maxHeartbeats 2000000 in
theorem refAdd_new (l : List Acc) (x k : Int) (r : Bool) (A : Option Addr) (n c B : Nat) (w : World) (h : w.ownsRow B 165 3 (.slice A n c) n (accs l)) (hBw : B ≤ w.heap.size) (hn : n ≤ 1000000) (hs : l.Pairwise fun a b => a.code < b.code) (ho : okRow x k = true) (hf : (findA l x).isSome = false) :
    Calls Tryz.prog 110 #[.slice A n c, .agg #[.int .i64 x, .int .i64 k, .bool r]] w (RefAdded w B (.slice A n c) (insA l ⟨x, k, r⟩) 0) := by
  have hl : l.length = n := by have := h.1; rw [accs_len] at this; omega
  have HL := Lib.hid hl
  have kr := fun w => refRow_any x k w
  rw [ho] at kr
  have HP := Lib.hid (posn_le l x)
  have hfa : findA l x = none := by
    cases hq : findA l x with
    | none => rfl
    | some a => rw [hq] at hf; cases hf
  have HAT := Lib.hid fun a => find_none_atCh hs hfa (a := a)
  have HLEN := Lib.hid (insA_len l ⟨x, k, r⟩)
  have HINS : Hid (insA l ⟨x, k, r⟩ = l.take (posn l x) ++ ⟨x, k, r⟩ :: l.drop (posn l x)) := rfl
  have HR := Lib.hid ((rd_of_own h).below (Below.mono (B := w.heap.size) ((Below.refl _ w).alloc (Nat.le_refl _) (.cells #[.int .i64 x, .int .i64 k, .bool r] 165)) (Nat.le_refl _)))
  have hA : (A = none ∧ n = 0 ∧ c = 0) ∨ ∃ g, A = some ⟨g, 0, none⟩ ∧ n ≤ c := by
    rcases h.2 with ⟨h1, h2⟩ | ⟨g, cap, cur, h1, _, _, h2, _⟩
    · injection h1 with h1 _ h3
      exact .inl ⟨h1, h2, h3⟩
    · injection h1 with h1 _ h3
      exact .inr ⟨g, h1, by omega⟩
  clear h ho hf hfa hs hl
  go_enter Tryz.func110, Tryz.ntmps110
  go_wp2_with fail
  refine (kr _).mono ?_
  rintro e w1 ⟨rfl, rfl⟩
  go_wp2_with fail
  go_loopw [6] (fun iv wr => ∃ j : Nat, Hid (j ≤ posn l x) ∧ iv = .int .i64 j ∧ Drew (w.alloc (.cells #[.int .i64 x, .int .i64 k, .bool r] 165)) wr) (fun iv _ => n - (intOf iv).toNat)
  case atStart => exact ⟨0, Nat.zero_le _, rfl, Drew.refl _⟩
  case round =>
    obtain ⟨j, hj, rfl, q, rfl⟩ := hrel
    by_cases hlt : j < n
    · obtain ⟨ad, a, e1, hb1, hx, p1, p2, p3⟩ := HR.out.acc hlt
      rcases hA with ⟨_, h0, _⟩ | ⟨g, rfl, hnc⟩
      · omega
      injection e1 with e1
      subst e1
      rw [Addr.add_lit, Nat.zero_add] at p1
      have HST := Lib.hid (posn_step hj.out hx)
      have hjn : (j : Int) < (n : Int) := by omega
      have HX := Lib.hid hx
      clear hx p2 p3 hb1
      obtain ⟨x1, x2, x3⟩ := a
      by_cases hc : x1 < x
      · have hd : decide (x1 < x) = true := by simp [hc]
        go_wp2_with fail
        go_big_quiet (fail)
        go_wp2
        exact ⟨⟨j + 1, HST.out.1 hc, by go_num, Drew.add _ _⟩, by simp [intOf]; omega⟩
      · have hd : decide (x1 < x) = false := by simp [hc]
        have HJE := Lib.hid (HST.out.2 hc)
        have hxx : x < x1 := HAT.out ⟨x1, x2, x3⟩ (by rw [← HJE.out]; exact HX.out)
        have he : (x1 == x) = false := by simp; omega
        have hj1 : j ≤ n := by omega
        have hjI : (j : Int) ≤ (n : Int) := by omega
        have hjc : j ≤ c := by omega
        have hjc2 : ¬ c = j := by omega
        have HRT : Hid (∀ W, Drew (w.alloc (.cells #[.int .i64 x, .int .i64 k, .bool r] 165)) W → Rd W.drew w.heap.size 3 (some ⟨g, 0, none⟩) j (accs (l.take j))) := fun W hW => by
          have := (HR.out.takeS hj1).below (w' := W.drew) (hW.below.trans ((Below.refl _ _).drew))
          rwa [accs_take] at this
        have HRD : Hid (∀ W, Drew (w.alloc (.cells #[.int .i64 x, .int .i64 k, .bool r] 165)) W → Rd W.drew w.heap.size 3 (some ⟨g, j * 3, none⟩) (n - j) (accs (l.drop j))) := fun W hW => by
          have := (HR.out.dropS hlt).below (w' := W.drew) (hW.below.trans ((Below.refl _ _).drew))
          rwa [accs_drop, Addr.add_lit, Nat.zero_add] at this
        go_wp2_with fail
        go_big_quiet (fail)
        go_wp2_with fail
        go_big_quiet (fail)
        go_wp2_with fail
        generalize hWe : World.drewN _ nq = W
        have HW : Hid (Drew (w.alloc (.cells #[.int .i64 x, .int .i64 k, .bool r] 165)) W) := by
          subst hWe
          exact ⟨_, by simp only [World.drewN_drewN]; rfl⟩
        clear hWe
        have hwc : ∀ o, W.cell? ⟨w.heap.size, o, none⟩ = (w.alloc (.cells #[.int .i64 x, .int .i64 k, .bool r] 165)).cell? ⟨w.heap.size, o, none⟩ := fun o => HW.out.below.cell (B := w.heap.size + 1) (by simp)
        have hw0 : W.cell? ⟨w.heap.size, 0, none⟩ = some (.int .i64 x) := by rw [hwc]; simp [go_sem]
        have hw1 : W.cell? ⟨w.heap.size, 1, none⟩ = some (.int .i64 k) := by rw [hwc]; simp [go_sem]
        have hw2 : W.cell? ⟨w.heap.size, 2, none⟩ = some (.bool r) := by rw [hwc]; simp [go_sem]
        have HZ : Hid (W.heap.size = w.heap.size + 1) := by rw [Hid, HW.out.size]; simp
        obtain ⟨A1, c1, w1, A2, c2, w2, A3, c3, w3, r1, r2, r3, o3, b3, bx⟩ := addRuns_x (W := W.drew) (c := c) (ct := c - j) ⟨x, k, r⟩ (HRT.out W HW.out) (HRD.out W HW.out) (by show w.heap.size ≤ W.heap.size; rw [HZ.out]; omega) hj1 hn
        obtain ⟨D1, d1, y1, D2, d2, y2, D3, d3, y3, s1, s2, s3, p3, q3⟩ := addRuns_y (W := W.drew) (c := c) (ct := c - j) ⟨x, k, r⟩ (HRT.out W HW.out) (HRD.out W HW.out) (by show w.heap.size ≤ W.heap.size; rw [HZ.out]; omega) hj1 hn
        have R1 := Lib.hid r1; have R2 := Lib.hid r2; have R3 := Lib.hid r3; have S1 := Lib.hid s1; have S2 := Lib.hid s2; have S3 := Lib.hid s3
        have O3 := Lib.hid o3; have B3 := Lib.hid b3; have P3 := Lib.hid p3; have Q3 := Lib.hid q3
        have hv0 : w1.cell? ⟨w.heap.size, 0, none⟩ = some (.int .i64 x) := (bx.cell (p := ⟨w.heap.size, 0, none⟩) (by show w.heap.size < W.heap.size; rw [HZ.out]; omega)).trans hw0
        have hv1 : w1.cell? ⟨w.heap.size, 1, none⟩ = some (.int .i64 k) := (bx.cell (p := ⟨w.heap.size, 1, none⟩) (by show w.heap.size < W.heap.size; rw [HZ.out]; omega)).trans hw1
        have hv2 : w1.cell? ⟨w.heap.size, 2, none⟩ = some (.bool r) := (bx.cell (p := ⟨w.heap.size, 2, none⟩) (by show w.heap.size < W.heap.size; rw [HZ.out]; omega)).trans hw2
        clear r1 r2 r3 s1 s2 s3 o3 b3 p3 q3 hwc bx
        have fin : Hid (∀ (A3 : Option Addr) (c3 : Nat) (w3 : World), w3.ownsRow W.heap.size 165 3 (.slice A3 (n + 1) c3) (n + 1) (accs (l.take j ++ ⟨x, k, r⟩ :: l.drop j)) → Below W.heap.size W.drew w3 → RefAdded w B (.slice (some ⟨g, 0, none⟩) n c) (insA l ⟨x, k, r⟩) 0 (.returned (.tuple #[.slice A3 (n + 1) c3, .int .i64 0])) w3) := by
          intro A3 c3 w3 ho hb
          have e1 : (insA l ⟨x, k, r⟩).length = n + 1 := by rw [HLEN.out, HL.out]
          have e2 : insA l ⟨x, k, r⟩ = l.take j ++ ⟨x, k, r⟩ :: l.drop j := by rw [HINS.out, ← HJE.out]
          refine ⟨A3, c3, by rw [e1], ?_, ?_, ?_⟩
          · rw [e1, e2]; exact own_base ho (by rw [HZ.out]; omega)
          · rw [e1]; intro q hq; exact .inr (by have := own_ge ho q hq; rw [HZ.out] at this; omega)
          · exact (((Below.refl _ _).alloc (Nat.le_refl _) _).trans HW.out.below).trans ((Below.refl _ W).drew.trans (hb.mono (by rw [HZ.out]; omega)))
        go_region_law (first
          | (refine step_append_run rfl _ (.tmp 47) 76 rfl (.slice none 0 0) (.slice (some ⟨g, 0, none⟩) j c) _ w1 rfl (by simp [Act.eval, Act.put]) R1.out ?_)
          | (refine step_append_run rfl (.tmp 48) (.tmp 50) 76 rfl (.slice A1 j c1) (.slice (some ⟨w1.heap.size, 0, none⟩) 1 1) _ w2 (by simp [Act.eval, Act.put]) (by simp [Act.eval, Act.put]) R2.out ?_)
          | (refine step_append_run rfl (.tmp 51) (.tmp 54) 76 rfl (.slice A2 (j + 1) c2) (.slice (some ⟨g, j * 3, none⟩) (n - j) (c - j)) _ w3 (by simp [Act.eval, Act.put]) (by simp [Act.eval, Act.put]) R3.out ?_)
          | (refine step_append_run rfl _ (.tmp 47) 76 rfl (.slice none 0 0) (.slice (some ⟨g, 0, none⟩) j c) _ y1 rfl (by simp [Act.eval, Act.put]) S1.out ?_)
          | (refine step_append_run rfl (.tmp 48) (.tmp 50) 76 rfl (.slice D1 j d1) (.slice (some ⟨W.heap.size, 0, none⟩) 1 1) _ y2 (by simp [Act.eval, Act.put]) (by simp [Act.eval, Act.put]) S2.out ?_)
          | (refine step_append_run rfl (.tmp 51) (.tmp 54) 76 rfl (.slice D2 (j + 1) d2) (.slice (some ⟨g, j * 3, none⟩) (n - j) (c - j)) _ y3 (by simp [Act.eval, Act.put]) (by simp [Act.eval, Act.put]) S3.out ?_))
        all_goals
          go_wp2
          go_ret2
          first | exact fin.out _ _ _ O3.out B3.out | exact fin.out _ _ _ P3.out Q3.out
    · have hj' : j ≤ n := Nat.le_trans hj.out (by have := HP.out; have := HL.out; omega)
      obtain rfl : j = n := by omega
      have HJE : Hid (j = posn l x) := Nat.le_antisymm hj.out (by have := HP.out; have := HL.out; omega)
      have hd : decide ((j : Int) < (j : Int)) = false := by simp
      have hj1 : j ≤ j := Nat.le_refl _
      clear hlt hj'
      rcases hA with ⟨rfl, h0, h1⟩ | ⟨g, rfl, hnc⟩
      · subst h0 h1
        have HRT : Hid (∀ W, Drew (w.alloc (.cells #[.int .i64 x, .int .i64 k, .bool r] 165)) W → Rd W.drew w.heap.size 3 none 0 (accs (l.take 0))) := fun W hW => by
          have := (HR.out.takeS hj1).below (w' := W.drew) (hW.below.trans ((Below.refl _ _).drew))
          rwa [accs_take] at this
        have HRD : Hid (∀ W, Drew (w.alloc (.cells #[.int .i64 x, .int .i64 k, .bool r] 165)) W → Rd W.drew w.heap.size 3 none (0 - 0) (accs (l.drop 0))) := fun W hW => by
          rw [Nat.sub_self, List.drop_eq_nil_of_le (by have := HL.out; omega)]
          exact Rd.nil_
        go_wp2_with fail
        go_big_quiet (fail)
        go_wp2_with fail
        go_big_quiet (fail)
        go_wp2_with fail
        generalize hWe : World.drewN _ nq = W
        have HW : Hid (Drew (w.alloc (.cells #[.int .i64 x, .int .i64 k, .bool r] 165)) W) := by
          subst hWe
          exact ⟨_, by simp only [World.drewN_drewN]; rfl⟩
        clear hWe
        have hwc : ∀ o, W.cell? ⟨w.heap.size, o, none⟩ = (w.alloc (.cells #[.int .i64 x, .int .i64 k, .bool r] 165)).cell? ⟨w.heap.size, o, none⟩ := fun o => HW.out.below.cell (B := w.heap.size + 1) (by simp)
        have hw0 : W.cell? ⟨w.heap.size, 0, none⟩ = some (.int .i64 x) := by rw [hwc]; simp [go_sem]
        have hw1 : W.cell? ⟨w.heap.size, 1, none⟩ = some (.int .i64 k) := by rw [hwc]; simp [go_sem]
        have hw2 : W.cell? ⟨w.heap.size, 2, none⟩ = some (.bool r) := by rw [hwc]; simp [go_sem]
        have HZ : Hid (W.heap.size = w.heap.size + 1) := by rw [Hid, HW.out.size]; simp
        obtain ⟨A1, c1, w1, A2, c2, w2, A3, c3, w3, r1, r2, r3, o3, b3, bx⟩ := addRuns_x (W := W.drew) (c := 0) (ct := 0) ⟨x, k, r⟩ (HRT.out W HW.out) (HRD.out W HW.out) (by show w.heap.size ≤ W.heap.size; rw [HZ.out]; omega) hj1 hn
        obtain ⟨D1, d1, y1, D2, d2, y2, D3, d3, y3, s1, s2, s3, p3, q3⟩ := addRuns_y (W := W.drew) (c := 0) (ct := 0) ⟨x, k, r⟩ (HRT.out W HW.out) (HRD.out W HW.out) (by show w.heap.size ≤ W.heap.size; rw [HZ.out]; omega) hj1 hn
        have R1 := Lib.hid r1; have R2 := Lib.hid r2; have R3 := Lib.hid r3; have S1 := Lib.hid s1; have S2 := Lib.hid s2; have S3 := Lib.hid s3
        have O3 := Lib.hid o3; have B3 := Lib.hid b3; have P3 := Lib.hid p3; have Q3 := Lib.hid q3
        have hv0 : w1.cell? ⟨w.heap.size, 0, none⟩ = some (.int .i64 x) := (bx.cell (p := ⟨w.heap.size, 0, none⟩) (by show w.heap.size < W.heap.size; rw [HZ.out]; omega)).trans hw0
        have hv1 : w1.cell? ⟨w.heap.size, 1, none⟩ = some (.int .i64 k) := (bx.cell (p := ⟨w.heap.size, 1, none⟩) (by show w.heap.size < W.heap.size; rw [HZ.out]; omega)).trans hw1
        have hv2 : w1.cell? ⟨w.heap.size, 2, none⟩ = some (.bool r) := (bx.cell (p := ⟨w.heap.size, 2, none⟩) (by show w.heap.size < W.heap.size; rw [HZ.out]; omega)).trans hw2
        clear r1 r2 r3 s1 s2 s3 o3 b3 p3 q3 hwc bx
        have fin : Hid (∀ (A3 : Option Addr) (c3 : Nat) (w3 : World), w3.ownsRow W.heap.size 165 3 (.slice A3 (0 + 1) c3) (0 + 1) (accs (l.take 0 ++ ⟨x, k, r⟩ :: l.drop 0)) → Below W.heap.size W.drew w3 → RefAdded w B (.slice none 0 0) (insA l ⟨x, k, r⟩) 0 (.returned (.tuple #[.slice A3 (0 + 1) c3, .int .i64 0])) w3) := by
          intro A3 c3 w3 ho hb
          have e1 : (insA l ⟨x, k, r⟩).length = 0 + 1 := by rw [HLEN.out, HL.out]
          have e2 : insA l ⟨x, k, r⟩ = l.take 0 ++ ⟨x, k, r⟩ :: l.drop 0 := by rw [HINS.out, ← HJE.out]
          refine ⟨A3, c3, by rw [e1], ?_, ?_, ?_⟩
          · rw [e1, e2]; exact own_base ho (by rw [HZ.out]; omega)
          · rw [e1]; intro q hq; exact .inr (by have := own_ge ho q hq; rw [HZ.out] at this; omega)
          · exact (((Below.refl _ _).alloc (Nat.le_refl _) _).trans HW.out.below).trans ((Below.refl _ W).drew.trans (hb.mono (by rw [HZ.out]; omega)))
        go_region_law (first
          | (refine step_append_run rfl _ (.tmp 47) 76 rfl (.slice none 0 0) (.slice none 0 0) _ w1 rfl (by simp [Act.eval, Act.put]) R1.out ?_)
          | (refine step_append_run rfl (.tmp 48) (.tmp 50) 76 rfl (.slice A1 0 c1) (.slice (some ⟨w1.heap.size, 0, none⟩) 1 1) _ w2 (by simp [Act.eval, Act.put]) (by simp [Act.eval, Act.put]) R2.out ?_)
          | (refine step_append_run rfl (.tmp 51) (.tmp 54) 76 rfl (.slice A2 (0 + 1) c2) (.slice none 0 0) _ w3 (by simp [Act.eval, Act.put]) (by simp [Act.eval, Act.put]) R3.out ?_)
          | (refine step_append_run rfl _ (.tmp 47) 76 rfl (.slice none 0 0) (.slice none 0 0) _ y1 rfl (by simp [Act.eval, Act.put]) S1.out ?_)
          | (refine step_append_run rfl (.tmp 48) (.tmp 50) 76 rfl (.slice D1 0 d1) (.slice (some ⟨W.heap.size, 0, none⟩) 1 1) _ y2 (by simp [Act.eval, Act.put]) (by simp [Act.eval, Act.put]) S2.out ?_)
          | (refine step_append_run rfl (.tmp 51) (.tmp 54) 76 rfl (.slice D2 (0 + 1) d2) (.slice none 0 0) _ y3 (by simp [Act.eval, Act.put]) (by simp [Act.eval, Act.put]) S3.out ?_))
        all_goals
          go_wp2
          go_ret2
          first | exact fin.out _ _ _ O3.out B3.out | exact fin.out _ _ _ P3.out Q3.out
      · have hjI : (j : Int) ≤ (j : Int) := Int.le_refl _
        by_cases hjc2 : c = j
        · subst hjc2
          have HRT : Hid (∀ W, Drew (w.alloc (.cells #[.int .i64 x, .int .i64 k, .bool r] 165)) W → Rd W.drew w.heap.size 3 (some ⟨g, 0, none⟩) c (accs (l.take c))) := fun W hW => by
            have := (HR.out.takeS hj1).below (w' := W.drew) (hW.below.trans ((Below.refl _ _).drew))
            rwa [accs_take] at this
          have HRD : Hid (∀ W, Drew (w.alloc (.cells #[.int .i64 x, .int .i64 k, .bool r] 165)) W → Rd W.drew w.heap.size 3 (some ⟨g, 0, none⟩) (c - c) (accs (l.drop c))) := fun W hW => by
            rw [Nat.sub_self, List.drop_eq_nil_of_le (by have := HL.out; omega)]
            exact Rd.nil_
          go_wp2_with fail
          go_big_quiet (fail)
          go_wp2_with fail
          go_big_quiet (fail)
          go_wp2_with fail
          generalize hWe : World.drewN _ nq = W
          have HW : Hid (Drew (w.alloc (.cells #[.int .i64 x, .int .i64 k, .bool r] 165)) W) := by
            subst hWe
            exact ⟨_, by simp only [World.drewN_drewN]; rfl⟩
          clear hWe
          have hwc : ∀ o, W.cell? ⟨w.heap.size, o, none⟩ = (w.alloc (.cells #[.int .i64 x, .int .i64 k, .bool r] 165)).cell? ⟨w.heap.size, o, none⟩ := fun o => HW.out.below.cell (B := w.heap.size + 1) (by simp)
          have hw0 : W.cell? ⟨w.heap.size, 0, none⟩ = some (.int .i64 x) := by rw [hwc]; simp [go_sem]
          have hw1 : W.cell? ⟨w.heap.size, 1, none⟩ = some (.int .i64 k) := by rw [hwc]; simp [go_sem]
          have hw2 : W.cell? ⟨w.heap.size, 2, none⟩ = some (.bool r) := by rw [hwc]; simp [go_sem]
          have HZ : Hid (W.heap.size = w.heap.size + 1) := by rw [Hid, HW.out.size]; simp
          obtain ⟨A1, c1, w1, A2, c2, w2, A3, c3, w3, r1, r2, r3, o3, b3, bx⟩ := addRuns_x (W := W.drew) (c := c) (ct := 0) ⟨x, k, r⟩ (HRT.out W HW.out) (HRD.out W HW.out) (by show w.heap.size ≤ W.heap.size; rw [HZ.out]; omega) hj1 hn
          obtain ⟨D1, d1, y1, D2, d2, y2, D3, d3, y3, s1, s2, s3, p3, q3⟩ := addRuns_y (W := W.drew) (c := c) (ct := 0) ⟨x, k, r⟩ (HRT.out W HW.out) (HRD.out W HW.out) (by show w.heap.size ≤ W.heap.size; rw [HZ.out]; omega) hj1 hn
          have R1 := Lib.hid r1; have R2 := Lib.hid r2; have R3 := Lib.hid r3; have S1 := Lib.hid s1; have S2 := Lib.hid s2; have S3 := Lib.hid s3
          have O3 := Lib.hid o3; have B3 := Lib.hid b3; have P3 := Lib.hid p3; have Q3 := Lib.hid q3
          have hv0 : w1.cell? ⟨w.heap.size, 0, none⟩ = some (.int .i64 x) := (bx.cell (p := ⟨w.heap.size, 0, none⟩) (by show w.heap.size < W.heap.size; rw [HZ.out]; omega)).trans hw0
          have hv1 : w1.cell? ⟨w.heap.size, 1, none⟩ = some (.int .i64 k) := (bx.cell (p := ⟨w.heap.size, 1, none⟩) (by show w.heap.size < W.heap.size; rw [HZ.out]; omega)).trans hw1
          have hv2 : w1.cell? ⟨w.heap.size, 2, none⟩ = some (.bool r) := (bx.cell (p := ⟨w.heap.size, 2, none⟩) (by show w.heap.size < W.heap.size; rw [HZ.out]; omega)).trans hw2
          clear r1 r2 r3 s1 s2 s3 o3 b3 p3 q3 hwc bx
          have fin : Hid (∀ (A3 : Option Addr) (c3 : Nat) (w3 : World), w3.ownsRow W.heap.size 165 3 (.slice A3 (c + 1) c3) (c + 1) (accs (l.take c ++ ⟨x, k, r⟩ :: l.drop c)) → Below W.heap.size W.drew w3 → RefAdded w B (.slice (some ⟨g, 0, none⟩) c c) (insA l ⟨x, k, r⟩) 0 (.returned (.tuple #[.slice A3 (c + 1) c3, .int .i64 0])) w3) := by
            intro A3 c3 w3 ho hb
            have e1 : (insA l ⟨x, k, r⟩).length = c + 1 := by rw [HLEN.out, HL.out]
            have e2 : insA l ⟨x, k, r⟩ = l.take c ++ ⟨x, k, r⟩ :: l.drop c := by rw [HINS.out, ← HJE.out]
            refine ⟨A3, c3, by rw [e1], ?_, ?_, ?_⟩
            · rw [e1, e2]; exact own_base ho (by rw [HZ.out]; omega)
            · rw [e1]; intro q hq; exact .inr (by have := own_ge ho q hq; rw [HZ.out] at this; omega)
            · exact (((Below.refl _ _).alloc (Nat.le_refl _) _).trans HW.out.below).trans ((Below.refl _ W).drew.trans (hb.mono (by rw [HZ.out]; omega)))
          go_region_law (first
            | (refine step_append_run rfl _ (.tmp 47) 76 rfl (.slice none 0 0) (.slice (some ⟨g, 0, none⟩) c c) _ w1 rfl (by simp [Act.eval, Act.put]) R1.out ?_)
            | (refine step_append_run rfl (.tmp 48) (.tmp 50) 76 rfl (.slice A1 c c1) (.slice (some ⟨w1.heap.size, 0, none⟩) 1 1) _ w2 (by simp [Act.eval, Act.put]) (by simp [Act.eval, Act.put]) R2.out ?_)
            | (refine step_append_run rfl (.tmp 51) (.tmp 54) 76 rfl (.slice A2 (c + 1) c2) (.slice (some ⟨g, 0, none⟩) (c - c) 0) _ w3 (by simp [Act.eval, Act.put]) (by simp [Act.eval, Act.put]) R3.out ?_)
            | (refine step_append_run rfl _ (.tmp 47) 76 rfl (.slice none 0 0) (.slice (some ⟨g, 0, none⟩) c c) _ y1 rfl (by simp [Act.eval, Act.put]) S1.out ?_)
            | (refine step_append_run rfl (.tmp 48) (.tmp 50) 76 rfl (.slice D1 c d1) (.slice (some ⟨W.heap.size, 0, none⟩) 1 1) _ y2 (by simp [Act.eval, Act.put]) (by simp [Act.eval, Act.put]) S2.out ?_)
            | (refine step_append_run rfl (.tmp 51) (.tmp 54) 76 rfl (.slice D2 (c + 1) d2) (.slice (some ⟨g, 0, none⟩) (c - c) 0) _ y3 (by simp [Act.eval, Act.put]) (by simp [Act.eval, Act.put]) S3.out ?_))
          all_goals
            go_wp2
            go_ret2
            first | exact fin.out _ _ _ O3.out B3.out | exact fin.out _ _ _ P3.out Q3.out
        · skip
          have HRT : Hid (∀ W, Drew (w.alloc (.cells #[.int .i64 x, .int .i64 k, .bool r] 165)) W → Rd W.drew w.heap.size 3 (some ⟨g, 0, none⟩) j (accs (l.take j))) := fun W hW => by
            have := (HR.out.takeS hj1).below (w' := W.drew) (hW.below.trans ((Below.refl _ _).drew))
            rwa [accs_take] at this
          have HRD : Hid (∀ W, Drew (w.alloc (.cells #[.int .i64 x, .int .i64 k, .bool r] 165)) W → Rd W.drew w.heap.size 3 (some ⟨g, j * 3, none⟩) (j - j) (accs (l.drop j))) := fun W hW => by
            rw [Nat.sub_self, List.drop_eq_nil_of_le (by have := HL.out; omega)]
            exact Rd.nil_
          go_wp2_with fail
          go_big_quiet (fail)
          go_wp2_with fail
          go_big_quiet (fail)
          go_wp2_with fail
          generalize hWe : World.drewN _ nq = W
          have HW : Hid (Drew (w.alloc (.cells #[.int .i64 x, .int .i64 k, .bool r] 165)) W) := by
            subst hWe
            exact ⟨_, by simp only [World.drewN_drewN]; rfl⟩
          clear hWe
          have hwc : ∀ o, W.cell? ⟨w.heap.size, o, none⟩ = (w.alloc (.cells #[.int .i64 x, .int .i64 k, .bool r] 165)).cell? ⟨w.heap.size, o, none⟩ := fun o => HW.out.below.cell (B := w.heap.size + 1) (by simp)
          have hw0 : W.cell? ⟨w.heap.size, 0, none⟩ = some (.int .i64 x) := by rw [hwc]; simp [go_sem]
          have hw1 : W.cell? ⟨w.heap.size, 1, none⟩ = some (.int .i64 k) := by rw [hwc]; simp [go_sem]
          have hw2 : W.cell? ⟨w.heap.size, 2, none⟩ = some (.bool r) := by rw [hwc]; simp [go_sem]
          have HZ : Hid (W.heap.size = w.heap.size + 1) := by rw [Hid, HW.out.size]; simp
          obtain ⟨A1, c1, w1, A2, c2, w2, A3, c3, w3, r1, r2, r3, o3, b3, bx⟩ := addRuns_x (W := W.drew) (c := c) (ct := c - j) ⟨x, k, r⟩ (HRT.out W HW.out) (HRD.out W HW.out) (by show w.heap.size ≤ W.heap.size; rw [HZ.out]; omega) hj1 hn
          obtain ⟨D1, d1, y1, D2, d2, y2, D3, d3, y3, s1, s2, s3, p3, q3⟩ := addRuns_y (W := W.drew) (c := c) (ct := c - j) ⟨x, k, r⟩ (HRT.out W HW.out) (HRD.out W HW.out) (by show w.heap.size ≤ W.heap.size; rw [HZ.out]; omega) hj1 hn
          have R1 := Lib.hid r1; have R2 := Lib.hid r2; have R3 := Lib.hid r3; have S1 := Lib.hid s1; have S2 := Lib.hid s2; have S3 := Lib.hid s3
          have O3 := Lib.hid o3; have B3 := Lib.hid b3; have P3 := Lib.hid p3; have Q3 := Lib.hid q3
          have hv0 : w1.cell? ⟨w.heap.size, 0, none⟩ = some (.int .i64 x) := (bx.cell (p := ⟨w.heap.size, 0, none⟩) (by show w.heap.size < W.heap.size; rw [HZ.out]; omega)).trans hw0
          have hv1 : w1.cell? ⟨w.heap.size, 1, none⟩ = some (.int .i64 k) := (bx.cell (p := ⟨w.heap.size, 1, none⟩) (by show w.heap.size < W.heap.size; rw [HZ.out]; omega)).trans hw1
          have hv2 : w1.cell? ⟨w.heap.size, 2, none⟩ = some (.bool r) := (bx.cell (p := ⟨w.heap.size, 2, none⟩) (by show w.heap.size < W.heap.size; rw [HZ.out]; omega)).trans hw2
          clear r1 r2 r3 s1 s2 s3 o3 b3 p3 q3 hwc bx
          have fin : Hid (∀ (A3 : Option Addr) (c3 : Nat) (w3 : World), w3.ownsRow W.heap.size 165 3 (.slice A3 (j + 1) c3) (j + 1) (accs (l.take j ++ ⟨x, k, r⟩ :: l.drop j)) → Below W.heap.size W.drew w3 → RefAdded w B (.slice (some ⟨g, 0, none⟩) j c) (insA l ⟨x, k, r⟩) 0 (.returned (.tuple #[.slice A3 (j + 1) c3, .int .i64 0])) w3) := by
            intro A3 c3 w3 ho hb
            have e1 : (insA l ⟨x, k, r⟩).length = j + 1 := by rw [HLEN.out, HL.out]
            have e2 : insA l ⟨x, k, r⟩ = l.take j ++ ⟨x, k, r⟩ :: l.drop j := by rw [HINS.out, ← HJE.out]
            refine ⟨A3, c3, by rw [e1], ?_, ?_, ?_⟩
            · rw [e1, e2]; exact own_base ho (by rw [HZ.out]; omega)
            · rw [e1]; intro q hq; exact .inr (by have := own_ge ho q hq; rw [HZ.out] at this; omega)
            · exact (((Below.refl _ _).alloc (Nat.le_refl _) _).trans HW.out.below).trans ((Below.refl _ W).drew.trans (hb.mono (by rw [HZ.out]; omega)))
          go_region_law (first
            | (refine step_append_run rfl _ (.tmp 47) 76 rfl (.slice none 0 0) (.slice (some ⟨g, 0, none⟩) j c) _ w1 rfl (by simp [Act.eval, Act.put]) R1.out ?_)
            | (refine step_append_run rfl (.tmp 48) (.tmp 50) 76 rfl (.slice A1 j c1) (.slice (some ⟨w1.heap.size, 0, none⟩) 1 1) _ w2 (by simp [Act.eval, Act.put]) (by simp [Act.eval, Act.put]) R2.out ?_)
            | (refine step_append_run rfl (.tmp 51) (.tmp 54) 76 rfl (.slice A2 (j + 1) c2) (.slice (some ⟨g, j * 3, none⟩) (j - j) (c - j)) _ w3 (by simp [Act.eval, Act.put]) (by simp [Act.eval, Act.put]) R3.out ?_)
            | (refine step_append_run rfl _ (.tmp 47) 76 rfl (.slice none 0 0) (.slice (some ⟨g, 0, none⟩) j c) _ y1 rfl (by simp [Act.eval, Act.put]) S1.out ?_)
            | (refine step_append_run rfl (.tmp 48) (.tmp 50) 76 rfl (.slice D1 j d1) (.slice (some ⟨W.heap.size, 0, none⟩) 1 1) _ y2 (by simp [Act.eval, Act.put]) (by simp [Act.eval, Act.put]) S2.out ?_)
            | (refine step_append_run rfl (.tmp 51) (.tmp 54) 76 rfl (.slice D2 (j + 1) d2) (.slice (some ⟨g, j * 3, none⟩) (j - j) (c - j)) _ y3 (by simp [Act.eval, Act.put]) (by simp [Act.eval, Act.put]) S3.out ?_))
          all_goals
            go_wp2
            go_ret2
            first | exact fin.out _ _ _ O3.out B3.out | exact fin.out _ _ _ P3.out Q3.out

theorem refAddAcc_any (l : List Acc) (a : Acc) (A : Option Addr) (n c B : Nat) (w : World) (h : w.ownsRow B 165 3 (.slice A n c) n (accs l)) (hBw : B ≤ w.heap.size) (hn : n ≤ 1000000) (hs : GoodA l) :
    Calls Tryz.prog 110 #[.slice A n c, .agg #[.int .i64 a.code, .int .i64 a.kind, .bool a.ret]] w (RefAdded w B (.slice A n c) (addL l a) (addE l a)) := by
  cases ho : okRow a.code a.kind
  · rw [(addE_bad (l := l) ho).1, (addE_bad (l := l) ho).2]
    exact refAdd_bad l a.code a.kind a.ret A n c B w h ho
  cases hf : (findA l a.code).isSome
  · rw [(addE_new ho hf).1, (addE_new ho hf).2]
    exact refAdd_new l a.code a.kind a.ret A n c B w h hBw hn hs.1 ho hf
  · rw [(addE_dup ho hf).1, (addE_dup ho hf).2]
    exact refAdd_dup l a.code a.kind a.ret A n c B w h hn hs.1 ho hf
end Go.Proofs.YtjlokkjbdgcooaaGreat

