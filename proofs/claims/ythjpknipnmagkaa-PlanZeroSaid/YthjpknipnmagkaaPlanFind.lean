/-
  Contracts of slices.Contains at ints, slices.ContainsFunc at journals that may not be.
-/
import Derived.Test.YthjpknipnmagkaaPlanAlloc
import Derived.Test.YthjpknipnmagkaaEntryCheck2
namespace Go.Proofs.Ythjpknipnmagkaa
open Go.RowKit

set_option maxRecDepth 100000 in
set_option maxHeartbeats 1000000 in
theorem containsI_any (l : List Int) (x : Int) (A : Option Addr) (n c B : Nat) (w : World) (h : Rd w B 1 A n (ints .i64 l)) (hn : n ≤ 1000000) :
    Calls Try.prog 32 #[.slice A n c, .int .i64 x] w fun e w' => e = .returned (.bool (decide (x ∈ l))) ∧ w = w' := by
  have ki : Calls Try.prog 58 #[.slice A n c, .int .i64 x] w fun e w' => ∃ r : Int, e = .returned (.int .i64 r) ∧ decide (r ≥ 0) = decide (x ∈ l) ∧ w = w' := by
    have HR := Lib.hid h
    have HL := Lib.hid h.ints_len
    clear h
    go_enter Try.func58, Try.ntmps58
    go_wp2_with fail
    go_loopw [5, 8] (fun _ iv wr => ∃ k : Nat, k ≤ n ∧ iv = .int .i64 k ∧ Hid (∀ y ∈ l.take k, y ≠ x) ∧ wr = w) (fun _ iv _ => n - (intOf iv).toNat)
    case atStart => exact ⟨0, Nat.zero_le _, rfl, by simp [Hid], rfl⟩
    case round =>
      obtain ⟨k, hk, rfl, hno, rfl⟩ := hrel
      by_cases hlt : k < n
      · have hkn : (k : Int) < (n : Int) := by omega
        obtain ⟨ad, rfl, _, hc⟩ := HR.out.int hlt
        obtain ⟨y, hy⟩ : ∃ y, l[k]? = some y := ⟨_, List.getElem?_eq_getElem (by have := HL.out; omega)⟩
        rw [hy] at hc
        simp only [Option.getD_some] at hc
        have HY := Lib.hid hy
        clear hy
        by_cases hxy : x = y
        · have hb : (x == y) = true := by simpa using hxy
          have HM : Hid (x ∈ l) := by rw [hxy]; exact List.mem_of_getElem? HY.out
          clear hxy
          go_wp2_with fail
          go_ret
          exact ⟨(k : Int), rfl, by rw [decide_eq_true HM.out]; simp, rfl⟩
        · have hb : (x == y) = false := by simpa using hxy
          have HN : Hid (∀ z ∈ l.take (k + 1), z ≠ x) := by
            intro z hz
            obtain ⟨hkl, e⟩ := List.getElem?_eq_some_iff.1 HY.out
            rw [List.take_succ_eq_append_getElem hkl, List.mem_append] at hz
            rcases hz with hz | hz
            · exact hno.out z hz
            · have : z = l[k] := by simpa using hz
              rw [this, e]
              exact fun h => hxy h.symm
          clear hxy
          go_wp2_with fail
          exact ⟨⟨k + 1, by omega, by go_num, HN.out, by first | rfl | trivial⟩, by simp [intOf]; omega⟩
      · obtain rfl : k = n := by omega
        rw [List.take_of_length_le (by have := HL.out; omega)] at hno
        have HM : Hid (x ∉ l) := fun h => hno.out x h rfl
        go_wp2_with fail
        go_ret
        exact ⟨-1, rfl, by rw [decide_eq_false HM.out]; rfl, rfl⟩
  have KI := Lib.hid ki
  clear ki h
  go_enter Try.func32, Try.ntmps32
  go_wp2_with fail
  refine KI.out.mono ?_
  rintro e w1 ⟨r, rfl, hr, rfl⟩
  have HR := Lib.hid hr
  clear hr
  go_wp2_with fail
  go_ret
  exact ⟨ret_bool HR.out, rfl⟩

set_option maxRecDepth 100000 in
set_option maxHeartbeats 1000000 in
theorem mayNot_any (a : JR) (B : Nat) (w : World) (h : Rd w B 3 a.A a.j.lines.length (lins a.j.lines)) (hB : B ≤ w.heap.size) (hn : a.j.lines.length ≤ maxLen) (hs : a.j.ref.size ≤ maxLen) :
    Calls Try.prog 36 #[.agg #[.int .i64 a.j.id, .int .i64 a.j.ent, .int .i64 a.j.per, .string a.j.ref, .slice a.A a.j.lines.length a.c, .bool a.j.void]] w fun e w' => e = .returned (.bool (checkE a.j != 0)) ∧ Below w.heap.size w w' := by
  obtain ⟨W, hW⟩ : ∃ W, w.alloc (.cells #[.int .i64 a.j.id, .int .i64 a.j.ent, .int .i64 a.j.per, .string a.j.ref, .slice a.A a.j.lines.length a.c, .bool a.j.void] 38) = W := ⟨_, rfl⟩
  have hb : Below w.heap.size w W := by rw [← hW]; exact (Below.refl _ _).alloc (Nat.le_refl _) _
  have hx : JAt W w.heap.size a.j a.A a.j.lines.length a.c := by rw [← hW]; exact heap_new w _
  have kc := Lib.hid (check_any a.j a.A a.j.lines.length a.c B W (h.far hb hB) (Nat.le_trans hB hb.size) hn hs)
  unfold Jrn.val at kc
  obtain ⟨b0, b1, b2, b3, b4, b5⟩ := six_cells hx
  have HW := Lib.hid hW; have HB := Lib.hid hb
  clear hW hb hx h
  go_enter Try.func36, Try.ntmps36
  go_wp2_with fail
  rw [HW.out]
  refine kc.out.mono ?_
  rintro e w1 ⟨rfl, hb1⟩
  have HB1 := Lib.hid (HB.out.trans (hb1.mono HB.out.size))
  clear hb1
  go_wp2_with fail
  go_ret
  exact ⟨rfl, HB1.out⟩

set_option maxRecDepth 100000 in
set_option maxHeartbeats 2000000 in
theorem containsJ_any (l : List JR) (A : Option Addr) (n c B : Nat) (w : World) (h : JlRd w B A n l) (hB : B ≤ w.heap.size) (hn : n ≤ 1000000) :
    Calls Try.prog 35 #[.slice A n c, .func (.func 36) #[] #[]] w fun e w' => e = .returned (.bool ((l.map JR.j).any fun j => checkE j != 0)) ∧ Below w.heap.size w w' := by
  have ki : Calls Try.prog 63 #[.slice A n c, .func (.func 36) #[] #[]] w fun e w' => ∃ r : Int, e = .returned (.int .i64 r) ∧ decide (r ≥ 0) = ((l.map JR.j).any fun j => checkE j != 0) ∧ Below w.heap.size w w' := by
    have HJ : Hid (∀ w1, Below w.heap.size w w1 → JlRd w1 B A n l) := fun w1 hb => h.far hb hB
    have HL := Lib.hid h.len
    clear h
    go_enter Try.func63, Try.ntmps63
    go_wp2_with fail
    go_loopw [5, 8] (fun _ iv wr => ∃ k : Nat, k ≤ n ∧ iv = .int .i64 k ∧ Hid (∀ y ∈ l.take k, checkE y.j = 0) ∧ Below w.heap.size w wr) (fun _ iv _ => n - (intOf iv).toNat)
    case atStart => exact ⟨0, Nat.zero_le _, rfl, by simp [Hid], Below.refl _ _⟩
    case round =>
      obtain ⟨k, hk, rfl, hno, hbel⟩ := hrel
      have HBL := Lib.hid hbel
      clear hbel
      by_cases hlt : k < n
      · have hkn : (k : Int) < (n : Int) := by omega
        obtain ⟨ad, y, rfl, _, hy, p1, p2, p3, p4, p5, p6⟩ := (HJ.out wr HBL.out).rd.jr hlt
        have hmem := List.mem_of_getElem? hy
        have hsz := (HJ.out wr HBL.out).size y hmem
        have km := Lib.hid (mayNot_any y B wr ((HJ.out wr HBL.out).lines y hmem) (Nat.le_trans hB HBL.out.size) hsz.2 hsz.1)
        have HY := Lib.hid hy; have HM := Lib.hid hmem
        clear hy hmem hsz
        go_wp2_with fail
        refine km.out.mono ?_
        rintro e w1 ⟨rfl, hb1⟩
        have HB1 : Hid (Below w.heap.size w w1) := HBL.out.trans (hb1.mono HBL.out.size)
        clear hb1 km p1 p2 p3 p4 p5 p6
        by_cases hxy : checkE y.j = 0
        · have hb : (checkE y.j != 0) = false := by simpa using hxy
          have HN : Hid (∀ z ∈ l.take (k + 1), checkE z.j = 0) := by
            intro z hz
            obtain ⟨hkl, e⟩ := List.getElem?_eq_some_iff.1 HY.out
            rw [List.take_succ_eq_append_getElem hkl, List.mem_append] at hz
            rcases hz with hz | hz
            · exact hno.out z hz
            · have : z = l[k] := by simpa using hz
              rw [this, e]
              exact hxy
          clear hxy
          go_wp2_with fail
          exact ⟨⟨k + 1, by omega, by go_num, HN.out, HB1.out⟩, by simp [intOf]; omega⟩
        · have hb : (checkE y.j != 0) = true := by simpa using hxy
          have HA : Hid (((l.map JR.j).any fun j => checkE j != 0) = true) := List.any_eq_true.2 ⟨y.j, List.mem_map.2 ⟨y, HM.out, rfl⟩, hb⟩
          clear hxy
          go_wp2_with fail
          go_ret
          exact ⟨(k : Int), rfl, by rw [HA.out]; simp, HB1.out⟩
      · obtain rfl : k = n := by omega
        rw [List.take_of_length_le (by have := HL.out; omega)] at hno
        have HA : Hid (((l.map JR.j).any fun j => checkE j != 0) = false) := by
          unfold Hid
          rw [List.any_eq_false]
          intro j hj
          obtain ⟨a, ha, rfl⟩ := List.mem_map.1 hj
          simp [hno.out a ha]
        go_wp2_with fail
        go_ret
        exact ⟨-1, rfl, by rw [HA.out]; rfl, HBL.out⟩
  have KI := Lib.hid ki
  clear ki h
  go_enter Try.func35, Try.ntmps35
  go_wp2_with fail
  refine KI.out.mono ?_
  rintro e w1 ⟨r, rfl, hr, hb⟩
  have HR := Lib.hid hr
  have HB := Lib.hid hb
  clear hr hb
  go_wp2_with fail
  go_ret
  exact ⟨ret_bool HR.out, HB.out⟩
end Go.Proofs.Ythjpknipnmagkaa

