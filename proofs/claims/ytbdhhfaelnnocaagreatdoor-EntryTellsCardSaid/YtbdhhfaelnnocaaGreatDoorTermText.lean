/-
  Contracts of term.putDigits and term.Text.
-/
import Derived.Test.YtbdhhfaelnnocaaGreatDoorMany4
import Derived.Lib.SlBytesConst
namespace Go.Proofs.YtbdhhfaelnnocaaGreatDoor
open Go.RowKit

/-- The bytes of a text that is being made: N of them, the mark behind them. -/
def URow (w : World) (g N : Nat) (f : Nat → Int) : Prop :=
  ∃ cur : Array Value, w.heap[g]? = some (.cells cur 5 (N, N + 1)) ∧ cur.size = N ∧ ∀ j, j < N → cur[j]? = some (.int .u8 (f j))
section
variable {w w' : World} {g N : Nat} {f : Nat → Int}
theorem URow.lt (h : URow w g N f) : g < w.heap.size := by obtain ⟨c, h, _⟩ := h; exact lt_of_blk h
theorem URow.cell (h : URow w g N f) {j : Nat} (hj : j < N) : w.cell? ⟨g, j, none⟩ = some (.int .u8 (f j)) := by
  obtain ⟨c, h, _, h2⟩ := h; rw [← h2 j hj]; simp [World.cell?, h]
theorem URow.warm (h : URow w g N f) {j : Nat} (hj : j < N) : w.frozen? ⟨g, j, none⟩ = false := by
  obtain ⟨c, h, _, h2⟩ := h; simp [World.frozen?, h]; omega
theorem URow.kept (h : URow w g N f) (hk : w'.heap[g]? = w.heap[g]?) : URow w' g N f := by
  obtain ⟨c, h, r⟩ := h; exact ⟨c, hk.trans h, r⟩
theorem URow.congr {f' : Nat → Int} (h : URow w g N f) (e : ∀ j, j < N → f j = f' j) : URow w g N f' := by
  obtain ⟨c, h, h1, h2⟩ := h; exact ⟨c, h, h1, fun j hj => by rw [← e j hj]; exact h2 j hj⟩
theorem URow.set (h : URow w g N f) (i : Nat) (x : Int) : URow (w.setCell ⟨g, i, none⟩ (.int .u8 x)) g N (fun j => if j = i then x else f j) := by
  obtain ⟨c, h, h1, h2⟩ := h
  refine ⟨c.setIfInBounds i (.int .u8 x), ?_, ?_, fun j hj => ?_⟩
  · simp [World.setCell, Array.getElem?_modify, h]
  · simpa using h1
  by_cases e : j = i
  · subst e; rw [Array.getElem?_setIfInBounds_self_of_lt (by omega)]; simp
  · rw [Array.getElem?_setIfInBounds_ne (fun h => e h.symm), h2 j hj]; simp [e]
end

/-- The j-th of m digits. -/
def dig (m : Nat) (v : Int) (j : Nat) : Int := 48 + v / 10 ^ (m - 1 - j) % 10

theorem pow_pos10 (k : Nat) : (0 : Int) < 10 ^ k := Int.pow_pos (by omega)
theorem div_step (v : Int) (k : Nat) : v / 10 ^ k / 10 = v / 10 ^ (k + 1) := by
  rw [Int.ediv_ediv_of_nonneg (Int.le_of_lt (pow_pos10 k)), Int.pow_succ]
theorem div_le {v b : Int} (h0 : 0 ≤ v) (h1 : v ≤ b) (k : Nat) : 0 ≤ v / 10 ^ k ∧ v / 10 ^ k ≤ b :=
  ⟨Int.ediv_nonneg h0 (Int.le_of_lt (pow_pos10 k)), Int.le_trans (Int.ediv_le_self _ h0) h1⟩

set_option maxRecDepth 100000 in
set_option maxHeartbeats 400000 in
theorem putDigits_any (g o m N c : Nat) (f : Nat → Int) (v : Int) (w : World) (h : URow w g N f) (hm : o + m ≤ N) (v0 : 0 ≤ v) (v1 : v ≤ 1000000) (hN : N ≤ 1000000) :
    Calls Tryz.prog 86 #[.slice (some ⟨g, o, none⟩) m c, .int .i64 v] w fun e w' => e = .returned (.tuple #[]) ∧ URow w' g N (fun j => if o ≤ j ∧ j < o + m then dig m v (j - o) else f j) ∧ Below g w w' ∧ w'.heap.size = w.heap.size := by
  have HU := Lib.hid h
  clear h
  go_enter Tryz.func86, Tryz.ntmps86
  go_wp2
  go_loopw [1, 4] (fun vv iv wr => ∃ r : Nat, r ≤ m ∧ iv = .int .i64 ((r : Int) - 1) ∧ vv = .int .i64 (v / 10 ^ (m - r)) ∧ URow wr g N (fun j => if o + r ≤ j ∧ j < o + m then dig m v (j - o) else f j) ∧ Below g w wr ∧ wr.heap.size = w.heap.size) (fun _ iv _ => (intOf iv + 1).toNat)
  case atStart => exact ⟨m, Nat.le_refl _, by first | rfl | go_num, by simp, HU.out.congr (fun j hj => by rw [if_neg (by omega)]), Below.refl _ _, rfl⟩
  case round =>
    obtain ⟨r, hr, rfl, rfl, hu, hbel, hsz⟩ := hrel
    rcases r with _ | q
    · go_wp2
      go_end0
      exact ⟨rfl, by simpa using hu, hbel, hsz⟩
    · have hx := div_le v0 v1 (m - (q + 1))
      have HX : Hid (v / 10 ^ (m - (q + 1)) / 10 = v / 10 ^ (m - q)) := by unfold Hid; rw [div_step]; congr 2; omega
      have hc := hu.cell (j := o + q) (by omega)
      have hw := hu.warm (j := o + q) (by omega)
      have HU2 := Lib.hid hu
      clear hu
      have HD : Hid (48 + v / 10 ^ (m - (q + 1)) % 10 = dig m v q) := by unfold Hid dig; congr 3; congr 1; omega
      generalize v / 10 ^ (m - (q + 1)) = x at *
      go_wp2
      rw [HX.out, HD.out]
      refine ⟨⟨q, by omega, rfl, rfl, (HU2.out.set (o + q) _).congr (fun j hj => ?_), hbel.setCell (Nat.le_refl _) _, by simpa [World.setCell] using hsz⟩, by simp [intOf]⟩
      by_cases e : j = o + q
      · subst e; rw [if_pos rfl, if_pos (by omega)]; congr 1; omega
      · rw [if_neg e]
        by_cases e2 : o + q ≤ j ∧ j < o + m
        · rw [if_pos e2, if_pos (by omega)]
        · rw [if_neg e2, if_neg (by omega)]

/-- A month's text. -/
def textL (p : Int) : List Int := (List.range 7).map fun j => if j < 4 then dig 4 (yearV p) j else if j = 4 then 45 else dig 2 (monthV p) (j - 5)
def textB (p : Int) : List UInt8 := if okP p = true then (textL p).map fun x => UInt8.ofNat x.toNat else []
def textV (p : Int) : Value := .string ⟨(textB p).toArray⟩

theorem dig_mem (m : Nat) (v : Int) (j : Nat) : 48 ≤ dig m v j ∧ dig m v j ≤ 57 := by
  unfold dig
  have := Int.emod_nonneg (v / 10 ^ (m - 1 - j)) (b := 10) (by omega)
  have := Int.emod_lt_of_pos (v / 10 ^ (m - 1 - j)) (b := 10) (by omega)
  omega
theorem byte_back {x : Int} (h0 : 0 ≤ x) (h1 : x ≤ 255) : ((UInt8.ofNat x.toNat).toNat : Int) = x := by
  rw [UInt8.toNat_ofNat_of_lt' (by simp [UInt8.size]; omega)]; omega
theorem textB_len {p : Int} (h : okP p = true) : (textB p).length = 7 := by unfold textB; rw [if_pos h]; simp [textL]
theorem textB_at {p : Int} (h : okP p = true) (j : Nat) (hj : j < (textB p).length) :
    (((textB p)[j].toNat : Nat) : Int) = if 5 ≤ j ∧ j < 5 + 2 then dig 2 (monthV p) (j - 5) else if 0 ≤ j ∧ j < 0 + 4 then dig 4 (yearV p) (j - 0) else if j = 4 then 45 else 48 := by
  have h7 : j < 7 := by rw [textB_len h] at hj; exact hj
  have e : (textB p)[j] = UInt8.ofNat (if j < 4 then dig 4 (yearV p) j else if j = 4 then 45 else dig 2 (monthV p) (j - 5)).toNat := by
    simp [textB, h, textL]
  rw [e]
  have d1 := dig_mem 4 (yearV p) j
  have d2 := dig_mem 2 (monthV p) (j - 5)
  by_cases c1 : j < 4
  · rw [if_pos c1, if_neg (by omega), if_pos (by omega), byte_back (by omega) (by omega)]; rfl
  by_cases c2 : j = 4
  · rw [if_neg c1, if_pos c2, if_neg (by omega), if_neg (by omega), if_pos c2]; rfl
  · rw [if_neg c1, if_neg c2, if_pos (by omega), byte_back (by omega) (by omega)]

set_option maxRecDepth 100000 in
set_option maxHeartbeats 1000000 in
theorem text_any (p : Int) (w : World) :
    Calls Tryz.prog 24 #[.int .i64 p] w fun e w' => e = .returned (textV p) ∧ Below w.heap.size w w' := by
  cases h : okP p
  · have e1 : textV p = .string ⟨#[]⟩ := by unfold textV textB; simp [h]
    rw [e1]
    have HV := Lib.hid h
    clear h e1
    go_enter Tryz.func24, Tryz.ntmps24
    go_wp2_with fail
    refine (valid_one p w).mono ?_
    rintro e w1 ⟨rfl, rfl⟩
    rw [HV.out]
    go_wp2
    go_ret
    exact ⟨rfl, (Below.refl _ _).alloc (Nat.le_refl _) _⟩
  · have hb := okP_t h
    have HV := Lib.hid h
    clear h
    have kc : ∀ (o : Obj) (C : Array Value), (convert 91 91 (.slice (some ⟨w.heap.size + 1, 0, none⟩) 7 7)).run Tryz.prog ((w.alloc o).alloc (.cells C 5)) = .ok (.slice (some ⟨w.heap.size + 1, 0, none⟩) 7 7) ((w.alloc o).alloc (.cells C 5 (C.size, C.size + 1))) := fun o C => by
      have := Lib.run_convert_bytes_const (P := Tryz.prog) (w.alloc o) 91 5 C 7 7 Tryz.underlying91 Tryz.underlying5
      simpa using this
    go_enter Tryz.func24, Tryz.ntmps24
    go_wp2_with fail
    refine (valid_one p w).mono ?_
    rintro e w1 ⟨rfl, rfl⟩
    rw [HV.out]
    go_wp2_with fail
    have hU : URow ((w.alloc (.cells #[.int .i64 p] 3)).alloc (.cells #[.int .u8 48, .int .u8 48, .int .u8 48, .int .u8 48, .int .u8 45, .int .u8 48, .int .u8 48] 5 (7, 8))) (w.heap.size + 1) 7 (fun j => if j = 4 then 45 else 48) := by
      refine ⟨_, by have := heap_new (w.alloc (.cells #[.int .i64 p] 3)) (.cells #[.int .u8 48, .int .u8 48, .int .u8 48, .int .u8 48, .int .u8 45, .int .u8 48, .int .u8 48] 5 (7, 8)); simpa using this, rfl, fun j hj => ?_⟩
      match j, hj with
      | 0, _ => rfl
      | 1, _ => rfl
      | 2, _ => rfl
      | 3, _ => rfl
      | 4, _ => rfl
      | 5, _ => rfl
      | 6, _ => rfl
    have hB2 : Below w.heap.size w ((w.alloc (.cells #[.int .i64 p] 3)).alloc (.cells #[.int .u8 48, .int .u8 48, .int .u8 48, .int .u8 48, .int .u8 45, .int .u8 48, .int .u8 48] 5 (7, 8))) := ((Below.refl _ _).alloc (Nat.le_refl _) _).alloc (by simp) _
    have HU := Lib.hid hU
    have HB := Lib.hid hB2
    clear hU hB2 kc
    generalize (w.alloc (.cells #[.int .i64 p] 3)).alloc (.cells #[.int .u8 48, .int .u8 48, .int .u8 48, .int .u8 48, .int .u8 45, .int .u8 48, .int .u8 48] 5 (7, 8)) = w2 at *
    have hy : 0 ≤ yearV p ∧ yearV p ≤ 1000000 := by unfold yearV; rw [if_pos HV.out]; omega
    have hm : 0 ≤ monthV p ∧ monthV p ≤ 1000000 := by unfold monthV; rw [if_pos HV.out]; omega
    have key1 : ∀ w3 : World, Below w2.drew.heap.size w2.drew w3 → Calls Tryz.prog 86 #[.slice (some ⟨w.heap.size + 1, 0, none⟩) 4 7, .int .i64 (yearV p)] w3 fun e w' => e = .returned (.tuple #[]) ∧ Hid (URow w' (w.heap.size + 1) 7 (fun j => if 0 ≤ j ∧ j < 0 + 4 then dig 4 (yearV p) (j - 0) else if j = 4 then 45 else 48)) ∧ Hid (Below w.heap.size w w') := fun w3 h3 => by
      refine (putDigits_any (w.heap.size + 1) 0 4 7 7 _ (yearV p) w3 (HU.out.kept (h3.block _ HU.out.lt)) (by omega) hy.1 hy.2 (by omega)).mono ?_
      rintro e w4 ⟨h1, h2, h4, h5⟩
      exact ⟨h1, h2, (HB.out.drew.trans (h3.mono HB.out.size)).trans (h4.mono (by omega))⟩
    go_region_law (first | (go_simp; go_at_call 87; refine (year_any p _).mono ?_; rintro e w3 ⟨rfl, hb3⟩) | (go_simp; go_at_call 86; refine (key1 _ hb3).mono ?_; rintro e w4 ⟨rfl, HU4, HB4⟩))
    all_goals
      have key2 : ∀ w5 : World, Below w4.drew.heap.size w4.drew w5 → Calls Tryz.prog 86 #[.slice (some ⟨w.heap.size + 1, 5, none⟩) 2 2, .int .i64 (monthV p)] w5 fun e w' => e = .returned (.tuple #[]) ∧ Hid ((convert 91 9 (.slice (some ⟨w.heap.size + 1, 0, none⟩) 7 7)).run Tryz.prog w' = .ok (textV p) w') ∧ Hid (Below w.heap.size w w') := fun w5 h5 => by
        refine (putDigits_any (w.heap.size + 1) 5 2 7 2 _ (monthV p) w5 (HU4.out.kept (h5.block _ HU4.out.lt)) (by omega) hm.1 hm.2 (by omega)).mono ?_
        rintro e w6 ⟨h1, h2, h4, h6⟩
        refine ⟨h1, ?_, (HB4.out.drew.trans (h5.mono HB4.out.size)).trans (h4.mono (by omega))⟩
        have := run_convert_bytes_back (P := Tryz.prog) w6 91 9 5 ⟨w.heap.size + 1, 0, none⟩ 7 (textB p) Tryz.underlying91 Tryz.underlying5 Tryz.underlying9 (fun j hj => by
          rw [textB_at HV.out, Addr.add_lit, Nat.zero_add]
          exact h2.cell (by rw [textB_len HV.out] at hj; exact hj))
        rw [textB_len HV.out] at this
        exact this
      clear key1
      go_wp2_with fail
      go_region_law (first | (go_simp; go_at_call 88; refine (month_any p _).mono ?_; rintro e w5 ⟨rfl, hb5⟩) | (go_simp; go_at_call 86; refine (key2 _ hb5).mono ?_; rintro e w6 ⟨rfl, HC, HB6⟩))
      all_goals
        have hc := HC.out
        go_wp2
        go_ret
        exact ⟨rfl, HB6.out⟩
end Go.Proofs.YtbdhhfaelnnocaaGreatDoor
