/-
  The walk of the statement AgendaTakes.
-/
-- HOLE2: obtain ⟨fuel0, hf0⟩ := h0
-- obtain ⟨l0, q0⟩ := argItms hf0
-- exact agendaTakes_walk l0 a0 len0 cap0 a1 a2 W q0.rd q0.len q0.cap
import Derived.Test.YtafloaabjinkfaaAgDel
import Derived.Test.YtafloaabjinkfaaAgAll
import Derived.Test.YtafloaabjinkfaaAgAlive
import Derived.Test.YtafloaabjinkfaaArgItms
namespace Go.Proofs.Ytafloaabjinkfaa
open Go.RowKit Go.Sort

theorem keep_keep (i : Int) (L : List Itm) : keepI i (keepI i L) = keepI i L := by unfold keepI; rw [List.filter_filter]; simp
theorem keep_at {i : Int} {S : List Itm} {k : Nat} {x : Itm} (h : S[k]? = some x) : (x.id = i → (keepI i (S.take (k + 1))).length = (keepI i (S.take k)).length) ∧
    (x.id ≠ i → (keepI i (S.take (k + 1))).length = (keepI i (S.take k)).length + 1 ∧ (keepI i S)[(keepI i (S.take k)).length]? = some x) := by
  obtain ⟨hk, rfl⟩ := List.getElem?_eq_some_iff.1 h
  have e : keepI i (S.take (k + 1)) = keepI i (S.take k) ++ keepI i [S[k]] := by
    rw [List.take_succ_eq_append_getElem hk]; unfold keepI; rw [List.filter_append]
  constructor
  · intro hx
    rw [e]
    simp [keepI, hx]
  · intro hx
    have e1 : keepI i [S[k]] = [S[k]] := by simp [keepI, hx]
    rw [e, e1]
    refine ⟨by simp, ?_⟩
    have e2 : keepI i S = keepI i (S.take (k + 1)) ++ keepI i (S.drop (k + 1)) := by
      unfold keepI; rw [← List.filter_append, List.take_append_drop]
    rw [e2, e, e1]
    simp

set_option maxRecDepth 100000 in
set_option maxHeartbeats 4000000 in
theorem agendaTakes_walk (l : List Itm) (A : Option Addr) (n c : Nat) (id t : Int) (w : World) (hR : Rd w w.heap.size 3 A n (itms l)) (hn : n ≤ maxLen) (hnc : n ≤ c) :
    Calls Try.prog 5 #[.slice A n c, .int .i64 id, .int .i64 t] w fun e w' => e = .returned (.bool true) ∧ Below w.heap.size w w' := by
  unfold maxLen at hn
  have ka := Lib.hid alive8_any
  have HLN := Lib.hid hR.itms_len
  have HR := Lib.hid hR
  clear hR
  go_enter Try.func5, Try.ntmps5
  by_cases h1 : n ≤ 60 ∧ 0 ≤ t ∧ t ≤ 1100
  · obtain ⟨h1, h2, h3⟩ := h1
    have h1I : ¬ (n : Int) > 60 := by omega
    obtain ⟨N, rfl⟩ : ∃ N : Nat, t = (N : Int) := ⟨t.toNat, by omega⟩
    have h2I : ¬ (N : Int) < 0 := by omega
    have h3I : ¬ (N : Int) > 1100 := by omega
    go_wp2_with fail
    refine (ka.out _).mono ?_
    rintro e w2 ⟨rfl, hb2⟩
    have HB2 := Lib.hid hb2
    clear hb2
    obtain ⟨W3, hW3⟩ : ∃ W3, w2.alloc (.cells #[.slice none 0 0] 28) = W3 := ⟨_, rfl⟩
    have hb23 : Below w2.heap.size w2 W3 := by rw [← hW3]; exact (Below.refl _ _).alloc (Nat.le_refl _) _
    have h3 := ag_new w2
    rw [hW3] at h3
    have hb3 := HB2.out.trans (hb23.mono HB2.out.size)
    have hzz : w.heap.size ≤ w2.heap.size := HB2.out.size
    have h3 := h3.base hzz
    have HW3 := Lib.hid hW3; have HB3 := Lib.hid hb3; have HA3 := Lib.hid h3
    obtain ⟨S, hS⟩ : ∃ S, putsI [] l = S := ⟨_, rfl⟩
    have hSl : S.length = n := by rw [← hS, putsI_len _ _ (by simp), HLN.out]; simp; omega
    have KP := agPut_any l A n c w.heap.size w.heap.size w2.heap.size (.slice none 0 0) [] W3 h3 (HR.out.below hb3) hb3.size (by omega) hnc (fun h0 ad e hi => by
      obtain ⟨ad', e', hlt, _⟩ := HR.out.2 h0
      rw [e] at e'
      injection e' with e'
      subst e'
      have := h3.ge _ hi
      omega)
    rw [hS] at KP
    have KP := Lib.hid KP
    have HSL := Lib.hid hSl
    clear hW3 hb23 h3 hb3 hS hSl hzz
    go_wp2_with fail
    rw [HW3.out]
    refine KP.out.mono ?_
    rintro e w4 ⟨rfl, T⟩
    have hb4 := HB3.out.trans (T.bel HA3.out HB3.out.size)
    obtain ⟨v4, h4, _⟩ := T
    have HB4 := Lib.hid hb4; have H4 := Lib.hid h4
    clear hb4 h4
    go_wp2_with fail
    refine (agAll_any H4.out).mono ?_
    rintro e w5 ⟨Aw, cw, rfl, ow, hb5⟩
    have HB5 := Lib.hid (HB4.out.trans (hb5.mono HB4.out.size))
    have H5 := Lib.hid (H4.out.below hb5)
    have HOW := Lib.hid ow
    clear hb5 ow
    go_wp2_with fail
    refine (agTake_any id H5.out).mono ?_
    rintro e w6 ⟨rfl, T⟩
    have hb6 := HB5.out.trans (T.to.bel H5.out HB5.out.size)
    obtain ⟨v6, h6, hbut, hsame⟩ := T
    have HOW6 : Hid (w6.ownsRow w4.heap.size 33 3 (.slice Aw S.length cw) S.length (itms S)) := own_kept HOW.out fun k hk ho => hbut.block k hk fun hi => by
      have h1 := own_ge HOW.out k ho
      have h2 := H4.out.ltB k hi
      omega
    have HB6 := Lib.hid hb6; have H6 := Lib.hid h6
    clear hb6 h6 hbut hsame
    go_wp2_with fail
    refine (agAll_any H6.out).mono ?_
    rintro e w7 ⟨An, cn, rfl, on, hb7⟩
    have HB7 := Lib.hid (HB6.out.trans (hb7.mono HB6.out.size))
    have H7 := Lib.hid (H6.out.below hb7)
    have HOW7 : Hid (w7.ownsRow w4.heap.size 33 3 (.slice Aw S.length cw) S.length (itms S)) := own_kept HOW6.out fun k hk _ => hb7.block k hk
    have HR1 := Lib.hid (rd_of_own HOW7.out)
    have HR2 := Lib.hid (rd_of_own on)
    have hSn : S.length = n := HSL.out
    obtain ⟨m, hm⟩ : ∃ m, (keepI id S).length = m := ⟨_, rfl⟩
    have hmn : m ≤ n := by rw [← hm, ← hSn]; exact keep_len id S
    rw [hSn] at HR1
    rw [hm] at HR2
    rw [hSn, hm]
    have HM := Lib.hid hm
    clear hb7 on hm hSn
    go_wp2_with fail
    go_loopw [12, 11] (fun iv kv wr => ∃ i k : Nat, i ≤ n ∧ iv = .int .i64 i ∧ kv = .int .i64 k ∧ Hid ((keepI id (S.take i)).length = k) ∧ Drew w7 wr) (fun iv _ _ => n - (intOf iv).toNat)
    case atStart => exact ⟨0, 0, Nat.zero_le _, rfl, rfl, rfl, Drew.refl _⟩
    case round =>
      obtain ⟨i, k, hi, rfl, rfl, HKL, q, rfl⟩ := hrel
      by_cases hlt : i < n
      · have hiI : (i : Int) < (n : Int) := by omega
        obtain ⟨ad, x, rfl, hb0, hx, p0, p1, p2⟩ := HR1.out.itm hlt
        have hk := keep_at (i := id) hx
        rw [HKL.out] at hk
        have p1' := cell_behind p1 (by omega)
        have p2' := cell_behind p2 (by omega)
        by_cases hxi : x.id = id
        · have t1 : (x.id == id) = true := by simpa using hxi
          have HK := Lib.hid (hk.1 hxi)
          clear hk hxi hx p1 p2
          go_wp2_with fail
          exact ⟨⟨i + 1, k, by omega, by go_num, rfl, HK, Drew.mk _ _⟩, by simp [intOf]; omega⟩
        · have t1 : (x.id == id) = false := by simpa using hxi
          have HK := Lib.hid (hk.2 hxi).1
          have hx2 := (hk.2 hxi).2
          have hkm : k < m := by
            have := (List.getElem?_eq_some_iff.1 hx2).1
            have h2 := HM.out
            omega
          have hkmI : (k : Int) < (m : Int) := by omega
          have hkmG : ¬ (k : Int) ≥ (m : Int) := by omega
          obtain ⟨ad2, y, rfl, hb02, hy, r0, r1, r2⟩ := HR2.out.itm hkm
          rw [hx2] at hy
          injection hy with hy
          subst hy
          have r1' := cell_behind r1 (by omega)
          have r2' := cell_behind r2 (by omega)
          have hd1 : decide (m ≤ k) = false := by rw [decide_eq_false_iff_not]; omega
          clear hk hxi hx hx2 p1 p2 r1 r2 hkm hkmG
          go_wp2_with fail
          go_big_quiet (fail)
          go_wp2_with fail
          exact ⟨⟨i + 1, k + 1, by omega, by go_num, by go_num, HK, Drew.mk _ _⟩, by simp [intOf]; omega⟩
      · obtain rfl : i = n := by omega
        have hkm : k = m := by
          have h1 := HKL.out
          rw [List.take_of_length_le (by have := HSL.out; omega), HM.out] at h1
          exact h1.symm
        subst hkm
        have hbq : Below w7.heap.size w7 (w7.drewN q) := below_drewN (Below.refl _ _) q
        have h8 := H7.out.below hbq
        have KT := agTake_any id h8
        rw [keep_keep, HM.out, Int.sub_self] at KT
        have HB8 := Lib.hid (HB7.out.trans (hbq.mono HB7.out.size))
        have H8 := Lib.hid h8
        have KT := Lib.hid KT
        clear h8 hbq
        go_wp2_with fail
        refine KT.out.mono ?_
        rintro e w8 ⟨rfl, T⟩
        have HB9 := Lib.hid (HB8.out.trans (T.to.bel H8.out HB8.out.size))
        clear T
        have hnew := (ag_new w8).base HB9.out.size
        have H10 : Hid (AgOn w w8.heap.size [] (w8.alloc (.cells #[.slice none 0 0] 28))) := ⟨_, hnew, HB9.out.alloc HB9.out.size _⟩
        clear hnew
        go_wp2_with fail
        generalize w8.heap.size = pb at *
        go_loopw [14] (fun iv wr => ∃ (j : Nat) (L : List Itm), j ≤ N ∧ iv = .int .i64 j ∧ Hid (L.length = min j 1000) ∧ Hid (AgOn w pb L wr)) (fun iv _ => N - (intOf iv).toNat)
        case atStart => exact ⟨0, [], Nat.zero_le _, rfl, by simp [Hid], H10⟩
        case round =>
          obtain ⟨j, L, hj, rfl, HLL, HAO⟩ := hrel
          obtain ⟨v, hat, hbel⟩ := HAO.out
          by_cases hlt2 : j < N
          · have hjI : (j : Int) < (N : Int) := by omega
            have KP2 := agPut_new [⟨0, 0, j⟩] 1 w.heap.size pb v L wr hat (by simp) (by simp)
            have hln : (putsI L [⟨0, 0, (j : Int)⟩]).length = min (j + 1) 1000 := by
              have h1 := HLL.out
              rw [putsI_len _ _ hat.len]
              simp
              omega
            rw [hln] at KP2
            have HLN2 := Lib.hid hln
            have KP2 := Lib.hid (show Calls Try.prog 8 #[.pointer (some ⟨pb, 0, none⟩), .slice (some ⟨wr.heap.size, 0, none⟩) 1 1] (wr.alloc (.cells #[.int .i64 0, .int .i64 0, .int .i64 j] 33)) fun e w' => e = .returned (.int .i64 (min (j + 1) 1000 : Nat)) ∧ AgTo wr w.heap.size pb v (putsI L [⟨0, 0, j⟩]) w' from KP2)
            have HAT := Lib.hid hat; have HBEL := Lib.hid hbel
            clear hat hbel hln
            by_cases h1000 : j + 1 ≤ 1000
            · have hI : (j : Int) + 1 ≤ 1000 := by omega
              rw [show ((min (j + 1) 1000 : Nat) : Int) = (j : Int) + 1 by omega] at KP2
              go_wp2_with fail
              refine KP2.out.mono ?_
              rintro e w10 ⟨rfl, T⟩
              have HAO2 := Lib.hid (AgOn.to HAT.out HBEL.out T)
              clear T
              go_wp2_with fail
              exact ⟨⟨j + 1, _, by omega, by go_num, HLN2, HAO2⟩, by simp [intOf]; omega⟩
            · have hI : ¬ (j : Int) + 1 ≤ 1000 := by omega
              rw [show ((min (j + 1) 1000 : Nat) : Int) = 1000 by omega] at KP2
              go_wp2_with fail
              refine KP2.out.mono ?_
              rintro e w10 ⟨rfl, T⟩
              have HAO2 := Lib.hid (AgOn.to HAT.out HBEL.out T)
              clear T
              go_wp2_with fail
              exact ⟨⟨j + 1, _, by omega, by go_num, HLN2, HAO2⟩, by simp [intOf]; omega⟩
          · obtain rfl : j = N := by omega
            have KL := agLen_any hat
            rw [HLL.out] at KL
            have HBEL := Lib.hid hbel
            clear hat hbel
            by_cases h1000 : j ≤ 1000
            · have hI : (j : Int) ≤ 1000 := by omega
              rw [show ((min j 1000 : Nat) : Int) = (j : Int) by omega] at KL
              have KL := Lib.hid KL
              go_wp2_with fail
              refine KL.out.mono ?_
              rintro e w10 ⟨rfl, rfl⟩
              go_wp2_with fail
              go_ret
              exact ⟨ret_bool (by rw [beq_iff_eq]; omega), HBEL.out⟩
            · have hI : ¬ (j : Int) ≤ 1000 := by omega
              rw [show ((min j 1000 : Nat) : Int) = 1000 by omega] at KL
              have KL := Lib.hid KL
              go_wp2_with fail
              refine KL.out.mono ?_
              rintro e w10 ⟨rfl, rfl⟩
              go_wp2_with fail
              go_ret
              exact ⟨ret_bool (by rw [beq_iff_eq]; omega), HBEL.out⟩
  · have hway : n > 60 ∨ (¬ n > 60 ∧ (t < 0 ∨ (¬ t < 0 ∧ t > 1100))) := by omega
    rcases hway with h | ⟨h, h' | ⟨h', h''⟩⟩
    · have hI : (n : Int) > 60 := by omega
      go_wp2_with fail
      refine (ka.out _).mono ?_
      rintro e w2 ⟨rfl, hb2⟩
      have HB2 := Lib.hid hb2
      clear hb2
      go_wp2_with fail
      go_ret
      exact ⟨rfl, HB2.out⟩
    · have hI : ¬ (n : Int) > 60 := by omega
      go_wp2_with fail
      refine (ka.out _).mono ?_
      rintro e w2 ⟨rfl, hb2⟩
      have HB2 := Lib.hid hb2
      clear hb2
      go_wp2_with fail
      go_ret
      exact ⟨rfl, HB2.out⟩
    · have hI : ¬ (n : Int) > 60 := by omega
      go_wp2_with fail
      refine (ka.out _).mono ?_
      rintro e w2 ⟨rfl, hb2⟩
      have HB2 := Lib.hid hb2
      clear hb2
      go_wp2_with fail
      go_ret
      exact ⟨rfl, HB2.out⟩
end Go.Proofs.Ytafloaabjinkfaa
