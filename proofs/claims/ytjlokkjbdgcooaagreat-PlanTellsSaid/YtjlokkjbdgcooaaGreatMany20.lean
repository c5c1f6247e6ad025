/-
  Several texts, one behind the other: what each holds stands ahead of it.
-/
import Derived.Test.YtjlokkjbdgcooaaGreatMany5
import Derived.Laws.Externs
import Derived.Test.YtjlokkjbdgcooaaGreatMany2
import Derived.Maps.AppendAt
import Derived.Test.YtjlokkjbdgcooaaGreatMany7

/-
  Contract of money.Add of at most a thousand amounts.
-/
namespace Go.Proofs.YtjlokkjbdgcooaaGreat.Mo
open Go.RowKit

theorem add64_nat (x y c : Nat) (hc : c ≤ 1) (w : World) : (callFunc 175 #[.int .u64 x, .int .u64 y, .int .u64 c]).run Tryz.prog w =
    .ok (.value (.tuple #[.int .u64 (((x + y + c) % 18446744073709551616 : Nat) : Int), .int .u64 (((x + y + c) / 18446744073709551616 : Nat) : Int)])) w := by
  rw [run_callFunc_extern Tryz.func175 (by kernel_rfl) (by kernel_rfl) (by kernel_rfl) (e := add64Entry) (by kernel_rfl), run_add64 x y c (by omega) (by omega) (by omega) (by omega)]
  simp only [Result.andThen]
  congr 5 <;> omega
theorem add64_any (x y c : Int) (hx : 0 ≤ x) (hy : 0 ≤ y) (hc0 : 0 ≤ c) (hc : c ≤ 1) (w : World) : (callFunc 175 #[.int .u64 x, .int .u64 y, .int .u64 c]).run Tryz.prog w =
    .ok (.value (.tuple #[.int .u64 ((x + y + c) % 18446744073709551616), .int .u64 ((x + y + c) / 18446744073709551616)])) w := by
  obtain ⟨x, rfl⟩ := Int.eq_ofNat_of_zero_le hx
  obtain ⟨y, rfl⟩ := Int.eq_ofNat_of_zero_le hy
  obtain ⟨c, rfl⟩ := Int.eq_ofNat_of_zero_le hc0
  refine (add64_nat x y c (by omega) w).trans ?_
  congr 5
theorem add64_0 (x y : Int) (hx : 0 ≤ x) (hy : 0 ≤ y) (w : World) : (callFunc 175 #[.int .u64 x, .int .u64 y, .int .u64 0]).run Tryz.prog w =
    .ok (.value (.tuple #[.int .u64 ((x + y) % 18446744073709551616), .int .u64 ((x + y) / 18446744073709551616)])) w := by
  simpa using add64_any x y 0 hx hy (Int.le_refl 0) (by decide) w

theorem fitsAll_bd {l : List Int} (h : fitsAll l = true) : ∀ k, k ≤ l.length → -(1000000000000000 * (k : Int)) ≤ sumTo l k ∧ sumTo l k ≤ 1000000000000000 * (k : Int)
  | 0, _ => by rw [sumTo_zero]; omega
  | k + 1, hk => by
    have := fitsAll_bd h k (by omega)
    have hx : fits1 (l[k]?.getD 0) = true := by
      have := List.all_eq_true.1 h l[k] (List.getElem_mem (by omega))
      simpa [show k < l.length by omega] using this
    have := fits1_of hx
    rw [sumTo_succ (by omega)]; omega
theorem fitsAll_at {l : List Int} (h : fitsAll l = true) (k : Nat) : -1000000000000000 ≤ l[k]?.getD 0 ∧ l[k]?.getD 0 ≤ 1000000000000000 := by
  by_cases hk : k < l.length
  · have := List.all_eq_true.1 h l[k] (List.getElem_mem hk)
    simp [hk]
    exact fits1_of this
  · simp [hk]

def lowW (s : Int) : Int := s % 18446744073709551616
def highW (s : Int) : Int := s / 18446744073709551616 % 18446744073709551616
theorem low_step (s x : Int) : (lowW s + x % 18446744073709551616) % 18446744073709551616 = lowW (s + x) := by unfold lowW; omega
theorem high_step (s x : Int) (h1 : -1000000000000000 ≤ x) (h2 : x ≤ 1000000000000000) :
    (highW s + signW x + (lowW s + x % 18446744073709551616) / 18446744073709551616) % 18446744073709551616 = highW (s + x) := by
  unfold highW lowW signW; split <;> omega

/-- What Add tells of amounts that each fit. -/
def addV (l : List Int) : Int := if fitsAll l && fits1 l.sum then l.sum else 0
def addE (l : List Int) : Int := if fitsAll l && fits1 l.sum then 0 else 2

set_option maxRecDepth 100000 in
set_option maxHeartbeats 1000000 in
theorem add_any (l : List Int) (A : Option Addr) (n c B : Nat) (w : World) (h : Rd w B 1 A n (ints .i64 l)) (hn : n ≤ 1000) :
    Calls Tryz.prog 124 #[.slice A n c] w fun e w' => e = .returned (.tuple #[.int .i64 (addV l), .int .i64 (addE l)]) ∧ Below w.heap.size w w' := by
  have hl := Lib.hid h.ints_len
  cases hf : fitsAll l
  · have Hf := Lib.hid hf
    clear hf
    go_enter Tryz.func124, Tryz.ntmps124
    go_wp2_with fail
    refine (fits_any l A n c B w h (by unfold maxLen; omega)).mono ?_
    rintro e w' ⟨rfl, rfl⟩
    rw [Hf.out]
    go_wp2
    go_ret2
    exact ⟨by simp [addV, addE, Hf.out], Below.refl _ _⟩
  · have HB := Lib.hid (fitsAll_bd hf)
    have HX := Lib.hid (fitsAll_at hf)
    have Hf := Lib.hid hf
    clear hf
    go_enter Tryz.func124, Tryz.ntmps124
    go_wp2_with fail
    refine (fits_any l A n c B w h (by unfold maxLen; omega)).mono ?_
    rintro e w' ⟨rfl, rfl⟩
    rw [Hf.out]
    go_wp2_with fail
    go_loop [15, 4, 5] (fun i hi lo => ∃ k : Nat, k ≤ n ∧ i = .int .i64 k ∧ hi = .int .u64 (highW (sumTo l k)) ∧ lo = .int .u64 (lowW (sumTo l k))) (fun i _ _ => n - (intOf i).toNat)
    case atStart => exact ⟨0, Nat.zero_le _, rfl, by rw [sumTo_zero]; rfl, by rw [sumTo_zero]; rfl⟩
    case round =>
      obtain ⟨k, hk, rfl, rfl, rfl⟩ := hrel
      have hkl : k ≤ l.length := by have := hl.out; omega
      have hbd := HB.out k hkl
      by_cases hlt : k < n
      · obtain ⟨ad, rfl, hb, hc⟩ := h.int hlt
        have HS := Lib.hid (sumTo_succ (l := l) (k := k) (by have := hl.out; omega))
        have hx := HX.out k
        clear hkl
        generalize l[k]?.getD 0 = x at *
        have hL0 : 0 ≤ lowW (sumTo l k) := by unfold lowW; omega
        have hL1 : lowW (sumTo l k) < 18446744073709551616 := by unfold lowW; omega
        have hH0 : 0 ≤ highW (sumTo l k) := by unfold highW; omega
        have hH1 : highW (sumTo l k) < 18446744073709551616 := by unfold highW; omega
        have H1 := Lib.hid (low_step (sumTo l k) x)
        have H2 := Lib.hid (high_step (sumTo l k) x hx.1 hx.2)
        have hm0 : 0 ≤ x % 18446744073709551616 := by omega
        have hs0 : 0 ≤ signW x := by unfold signW; split <;> omega
        have hcw : IntKind.u64.wrap x = x % 18446744073709551616 := by rw [IntKind.wrap_u64]
        rw [← HS.out] at H1 H2
        clear HS
        generalize lowW (sumTo l k) = lo at *
        generalize highW (sumTo l k) = hi at *
        generalize hxm : x % 18446744073709551616 = xm at *
        have hxm1 : xm < 18446744073709551616 := by omega
        clear hxm
        have k0 : 0 ≤ (lo + xm) / 18446744073709551616 := by omega
        have k1 : (lo + xm) / 18446744073709551616 ≤ 1 := by omega
        have A1 := fun w => add64_0 lo xm hL0 hm0 w
        have A2 := fun w => add64_any hi (signW x) _ hH0 hs0 k0 k1 w
        generalize (lo + xm) / 18446744073709551616 = ca at *
        generalize (lo + xm) % 18446744073709551616 = lo2 at *
        generalize (hi + signW x + ca) % 18446744073709551616 = hi2 at *
        go_wp2_with fail
        refine (signWord_any x _ (by omega) (by omega)).mono ?_
        rintro e w' ⟨rfl, rfl⟩
        go_wp2
        exact ⟨⟨k + 1, by omega, by go_num, by rw [← H2.out], by rw [← H1.out]⟩, by simp [intOf]; omega⟩
      · obtain rfl : k = n := by omega
        have hS : sumTo l k = l.sum := sumTo_all (by have := hl.out; omega)
        rw [hS] at hbd ⊢
        clear hS hkl
        have e1 : IntKind.i64.wrap (lowW l.sum) = l.sum := by rw [IntKind.wrap_i64]; unfold lowW; omega
        have e2 : highW l.sum = signW l.sum := by unfold highW signW; split <;> omega
        rw [e2]
        have HA : Hid (addV l = (if fits1 l.sum then l.sum else 0) ∧ addE l = if fits1 l.sum then 0 else 2) := by
          unfold Hid addV addE; simp [Hf.out]
        clear e2
        generalize l.sum = S at *
        cases hF : fits1 S
        · rw [hF] at HA
          have HF := Lib.hid hF
          clear hF
          go_wp2_with fail
          refine (signWord_any S _ (by omega) (by omega)).mono ?_
          rintro e w' ⟨rfl, rfl⟩
          go_wp2_with fail
          refine (fits_one S w _ _).mono ?_
          rintro e w' ⟨rfl, rfl⟩
          rw [HF.out]
          go_wp2
          go_ret2
          exact ⟨by rw [HA.out.1, HA.out.2]; rfl, (Below.refl _ _).alloc (Nat.le_refl _) _⟩
        · rw [hF] at HA
          have HF := Lib.hid hF
          clear hF
          go_wp2_with fail
          refine (signWord_any S _ (by omega) (by omega)).mono ?_
          rintro e w' ⟨rfl, rfl⟩
          go_wp2_with fail
          refine (fits_one S w _ _).mono ?_
          rintro e w' ⟨rfl, rfl⟩
          rw [HF.out]
          go_wp2
          go_ret2
          exact ⟨by rw [HA.out.1, HA.out.2]; rfl, (Below.refl _ _).alloc (Nat.le_refl _) _⟩
end Go.Proofs.YtjlokkjbdgcooaaGreat.Mo

/-
  Contracts of the document's own Fits and Add.
-/
namespace Go.Proofs.YtjlokkjbdgcooaaGreat.Mo
open Go.RowKit

set_option maxHeartbeats 400000 in
theorem refFits_any (a : Int) (w : World) : Calls Tryz.prog 50 #[.int .i64 a] w fun e w' => e = .returned (.bool (fits1 a)) ∧ w = w' := by
  by_cases h1 : -1000000000000000 ≤ a
  · go_enter Tryz.func50, Tryz.ntmps50
    go_wp2
    go_ret
    exact ⟨ret_bool (by unfold fits1; rw [Bool.eq_iff_iff]; simp; omega), rfl⟩
  · go_enter Tryz.func50, Tryz.ntmps50
    go_wp2
    go_ret
    exact ⟨ret_bool (by unfold fits1; rw [Bool.eq_iff_iff]; simp; omega), rfl⟩

theorem fitsTo_bd {l : List Int} {k : Nat} (h : fitsAll (l.take k) = true) (hk : k ≤ l.length) : -(1000000000000000 * (k : Int)) ≤ sumTo l k ∧ sumTo l k ≤ 1000000000000000 * (k : Int) := by
  have := fitsAll_bd h k (by simp; omega)
  simpa [sumTo, List.take_take] using this

end Go.Proofs.YtjlokkjbdgcooaaGreat.Mo

/-
  Contracts of the statements' helpers over lists of ints: copies, lent lists, comparisons.
-/
namespace Go.Proofs.YtjlokkjbdgcooaaGreat
open Go.RowKit

set_option maxRecDepth 100000 in
set_option maxHeartbeats 400000 in
theorem copyInts_any (l : List Int) (A : Option Addr) (n c B : Nat) (w : World) (h : Rd w B 1 A n (ints .i64 l)) (hn : n ≤ 17592186044000) :
    Calls Tryz.prog 49 #[.slice A n c] w fun e w' => ∃ A' c', e = .returned (.slice A' n c') ∧ w'.ownsRow w.heap.size 3 1 (.slice A' n c') n (ints .i64 l) ∧ Below w.heap.size w w' := by
  obtain ⟨v', w', hrun, hown, hg, _⟩ := append_fresh (P := Tryz.prog) (w := w) (ty := 22) (c := c) infoInt Tryz.underlying22 rfl (by omega) w.heap.size (.slice none 0 0) 0 [] (World.ownsRow_nil w _ _ _) h (ints_one _ _) (by unfold maxLen; omega) (by omega) (Nat.le_refl _)
  rw [Nat.zero_add, List.nil_append] at hown
  obtain ⟨A', c', rfl⟩ := own_form hown
  have HO := Lib.hid hown
  have HG := Lib.hid hg
  have HR := Lib.hid hrun
  clear hown hg h hn hrun
  go_enter Tryz.func49, Tryz.ntmps49
  go_wp2_with (at_builtin; refine wpList_append_run rfl _ _ _ rfl _ _ _ _ rfl rfl HR.out ?_)
  go_ret
  exact ⟨A', c', rfl, HO.out, (Below.refl _ _).grown HG.out (Nat.le_refl _) (fun k h => by cases h)⟩
end Go.Proofs.YtjlokkjbdgcooaaGreat

/-
  Contracts of SameInts, LentInts, StaysInts.
-/
namespace Go.Proofs.YtjlokkjbdgcooaaGreat
open Go.RowKit

theorem same_step {l m : List Int} {k : Nat} (h : l.length = m.length) (hk : k < l.length) (h1 : l.take k = m.take k) (h2 : l[k]?.getD 0 = m[k]?.getD 0) : l.take (k + 1) = m.take (k + 1) := by
  rw [List.take_succ_eq_append_getElem hk, List.take_succ_eq_append_getElem (by omega), h1]
  simp [hk, show k < m.length by omega] at h2
  rw [h2]

set_option maxRecDepth 100000 in
set_option maxHeartbeats 400000 in
theorem sameInts_any (l m : List Int) (A1 A2 : Option Addr) (n1 n2 c1 c2 B1 B2 : Nat) (w : World) (h1 : Rd w B1 1 A1 n1 (ints .i64 l)) (h2 : Rd w B2 1 A2 n2 (ints .i64 m)) (hn1 : n1 ≤ maxLen) (hn2 : n2 ≤ maxLen) :
    Calls Tryz.prog 20 #[.slice A1 n1 c1, .slice A2 n2 c2] w fun e w' => e = .returned (.bool (l == m)) ∧ Drew w w' := by
  unfold maxLen at hn1 hn2
  have L1 := Lib.hid h1.ints_len
  have L2 := Lib.hid h2.ints_len
  by_cases hne : n1 = n2
  · subst hne
    have t1 : ((n1 : Int) != (n1 : Int)) = false := by simp
    go_enter Tryz.func20, Tryz.ntmps20
    go_wp2_with fail
    go_loopw [5] (fun i wr => ∃ k : Nat, k ≤ n1 ∧ i = .int .i64 k ∧ Hid (l.take k = m.take k) ∧ Drew w wr) (fun i _ => n1 - (intOf i).toNat)
    case atStart => exact ⟨0, Nat.zero_le _, rfl, by simp [Hid], Drew.refl _⟩
    case round =>
      obtain ⟨k, hk, rfl, hs, q, rfl⟩ := hrel
      by_cases hlt : k < n1
      · obtain ⟨a1, rfl, hb1, hc1⟩ := h1.int hlt
        obtain ⟨a2, rfl, hb2, hc2⟩ := h2.int hlt
        have hkn : (k : Int) < (n1 : Int) := by omega
        have HX : Hid (l[k]?.getD 0 = m[k]?.getD 0 → l.take (k + 1) = m.take (k + 1)) := fun h => same_step (by have := L1.out; have := L2.out; omega) (by have := L1.out; omega) hs.out h
        have HY : Hid (l[k]?.getD 0 ≠ m[k]?.getD 0 → (l == m) = false) := by
          intro h
          rw [beq_eq_false_iff_ne]
          intro e
          exact h (by rw [e])
        generalize l[k]?.getD 0 = x at *
        generalize m[k]?.getD 0 = y at *
        by_cases hxy : x = y
        · have t2 : (x == y) = true := by rw [beq_iff_eq]; exact hxy
          have HXY := Lib.hid hxy
          clear hxy
          go_wp2_with fail
          go_quiet (fail)
          go_wp2
          exact ⟨⟨k + 1, by omega, by go_num, HX.out HXY.out, Drew.add _ _⟩, by simp [intOf]; omega⟩
        · have t2 : (x == y) = false := by rw [beq_eq_false_iff_ne]; exact hxy
          have HXY := Lib.hid hxy
          clear hxy
          go_wp2_with fail
          go_quiet (fail)
          go_wp2
          go_ret
          exact ⟨ret_bool (HY.out HXY.out).symm, ⟨_, World.drewN_drewN _ _ _⟩⟩
      · go_wp2
        go_ret
        refine ⟨ret_bool ?_, _, rfl⟩
        have := hs.out
        rw [List.take_of_length_le (by have := L1.out; omega), List.take_of_length_le (by have := L2.out; omega)] at this
        rw [this]; simp
  · have t1 : ((n1 : Int) != (n2 : Int)) = true := by rw [bne_iff_ne]; omega
    have HN := Lib.hid hne
    clear hne
    go_enter Tryz.func20, Tryz.ntmps20
    go_wp2
    go_ret
    refine ⟨ret_bool ?_, Drew.refl _⟩
    symm
    rw [beq_eq_false_iff_ne]
    intro e
    have := L1.out; have := L2.out
    rw [e] at *
    have := HN.out; omega

end Go.Proofs.YtjlokkjbdgcooaaGreat

/-
  Contracts of LentInts, StaysInts.
-/
namespace Go.Proofs.YtjlokkjbdgcooaaGreat
open Go.RowKit

/-- A list that was lent: its elements, the mark behind them. -/
def LentAt (w : World) (base g cap : Nat) (l : List Int) : Prop := w.ownsRow base 3 1 (.slice (some ⟨g, 0, none⟩) (l.length + 1) cap) (l.length + 1) (ints .i64 (l ++ [-77]))

theorem LentAt.cap_ge {w : World} {base g cap : Nat} {l : List Int} (h : LentAt w base g cap l) : l.length + 1 ≤ cap ∧ base ≤ g ∧ g < w.heap.size := by
  rcases h.2 with ⟨h1, _⟩ | ⟨g', cap', cur, h1, hB, hh, h2, _⟩
  · cases h1
  · injection h1 with h1 _ hc
    injection h1 with h1
    injection h1 with h1
    subst h1 hc
    exact ⟨h2, hB, lt_of_blk hh⟩
theorem LentAt.cells {w : World} {base g cap : Nat} {l : List Int} (h : LentAt w base g cap l) : ∀ j u, (ints .i64 (l ++ [-77]))[j]? = some u → w.cell? ⟨g, j, none⟩ = some u := by
  intro j u hu
  have h' : w.ownsRow base 3 1 (.slice (some ⟨g, 0, none⟩) (l.length + 1) cap) (l.length + 1) (ints .i64 (l ++ [-77])) := h
  have := (h'.cells (g := g) rfl) j u hu
  rwa [Addr.add_lit, Nat.zero_add] at this
theorem LentAt.rd {w : World} {base g cap : Nat} {l : List Int} (h : LentAt w base g cap l) : Rd w w.heap.size 1 (some ⟨g, 0, none⟩) l.length (ints .i64 l) := by
  refine ⟨by simp [ints], fun _ => ⟨_, rfl, h.cap_ge.2.2, fun j u hu => ?_⟩⟩
  rw [Addr.add_lit, Nat.zero_add]
  refine h.cells j u ?_
  have hj : j < l.length := by
    obtain ⟨h1, _⟩ := List.getElem?_eq_some_iff.1 hu
    simpa [ints] using h1
  simp only [ints, List.map_append]
  rw [List.getElem?_append_left (by simpa using hj)]
  exact hu
theorem LentAt.mark {w : World} {base g cap : Nat} {l : List Int} (h : LentAt w base g cap l) : w.cell? ⟨g, l.length, none⟩ = some (.int .i64 (-77)) := by
  refine h.cells _ _ ?_
  simp [ints]
theorem LentAt.below {w w' : World} {base g cap : Nat} {l : List Int} (h : LentAt w base g cap l) (hb : Below w.heap.size w w') : LentAt w' base g cap l :=
  own_kept h fun k hk _ => hb.block k hk

set_option maxRecDepth 100000 in
set_option maxHeartbeats 1000000 in
theorem lentInts_any (l : List Int) (A : Option Addr) (n c B : Nat) (w : World) (h : Rd w B 1 A n (ints .i64 l)) (hn : n ≤ 1000000) :
    Calls Tryz.prog 10 #[.slice A n c] w fun e w' => ∃ g cap, e = .returned (.slice (some ⟨g, 0, none⟩) n cap) ∧ LentAt w' w.heap.size g cap l ∧ Below w.heap.size w w' := by
  obtain ⟨i0, hi0, hz0, hz1, hz2⟩ := info_parts infoInt
  have hI := Lib.hid hi0; have hZ0 := Lib.hid hz0; have hZ1 := Lib.hid hz1; have hZ2 := Lib.hid hz2
  have HL := Lib.hid h.ints_len
  clear hi0 hz0 hz1 hz2
  go_enter Tryz.func10, Tryz.ntmps10
  go_wp2_with fail
  refine (copyInts_any l A n c B w h (by omega)).mono ?_
  rintro e w1 ⟨A', c', rfl, hown, hb⟩
  have hsz := hb.size
  go_wp2_with (at_builtin; refine wpList_append_lies _ rfl _ _ 22 rfl w.heap.size 3 i0 (.int .i64 0) 1 8 Tryz.underlying22 hI.out hZ0.out hZ1.out hZ2.out rfl (by decide) _ n _ rfl (own_kept hown fun k hk _ => Below.heap_alloc _ _ _ hk) ⟨w1.heap.size, 0, none⟩ 1 1 [.int .i64 (-77)] rfl rfl (cell_one_new _ _ _) (by simp [Value.oneCell']) (by omega) (by unfold maxLen; omega) (by omega) (by simp; omega) _ rfl ?_)
  intro g cap w2 hown2 hg2 hat2 hlt2
  have hL : LentAt w2 w.heap.size g cap l := by
    have e1 := HL.out
    unfold LentAt
    rw [e1]
    simpa [ints] using hown2
  have hcap := hL.cap_ge.1
  rw [HL.out] at hcap
  have hcap' : n ≤ cap := by omega
  have hB2 : Hid (Below w.heap.size w w2) := (hb.trans ((Below.refl _ _).alloc (by omega) _)).grown hg2 (by simp; omega) (own_ge hown)
  have HLL := Lib.hid hL
  clear hL hown2 hg2 hown hb
  go_wp2
  go_ret
  exact ⟨g, cap, rfl, HLL.out, hB2.out⟩

set_option maxRecDepth 100000 in
set_option maxHeartbeats 1000000 in
theorem staysInts_any (l m : List Int) (A : Option Addr) (n1 n c base B g cap : Nat) (w : World) (hl : LentAt w base g cap m) (hlen : m.length = n1) (h : Rd w B 1 A n (ints .i64 l)) (hn : n ≤ maxLen) (hn1 : n1 ≤ 1000000) :
    Calls Tryz.prog 22 #[.slice (some ⟨g, 0, none⟩) n1 cap, .slice A n c] w fun e w' => e = .returned (.bool (m == l)) ∧ Drew w w' := by
  obtain ⟨hcap, _, _⟩ := hl.cap_ge
  have hmark := hl.mark
  have hrd := hl.rd
  rw [hlen] at hcap hmark hrd
  have hcap' : n1 ≤ cap := by omega
  have hcI : (n1 : Int) + 1 ≤ (cap : Int) := by omega
  clear hlen
  cases hs : (m == l)
  · have HS := Lib.hid hs
    clear hs
    go_enter Tryz.func22, Tryz.ntmps22
    go_wp2_with fail
    refine (sameInts_any m l _ A n1 n cap c _ B w hrd h (by unfold maxLen; omega) hn).mono ?_
    rintro e w' ⟨rfl, q, rfl⟩
    rw [HS.out]
    go_wp2
    go_ret
    exact ⟨rfl, q, rfl⟩
  · have HS := Lib.hid hs
    clear hs
    go_enter Tryz.func22, Tryz.ntmps22
    go_wp2_with fail
    refine (sameInts_any m l _ A n1 n cap c _ B w hrd h (by unfold maxLen; omega) hn).mono ?_
    rintro e w' ⟨rfl, q, rfl⟩
    rw [HS.out]
    go_wp2
    go_ret
    exact ⟨rfl, q, rfl⟩
end Go.Proofs.YtjlokkjbdgcooaaGreat

/-
  The walk of the statement MoneyAdds.
-/
-- HOLE: obtain ⟨hr, hm, _⟩ := rd_of_isRow w0
-- exact moneyAdds_walk _ a0 len0 cap0 w hr hm
namespace Go.Proofs.YtjlokkjbdgcooaaGreat
open Mo
open Go.RowKit

theorem fitsAll_take_succ {l : List Int} {k : Nat} (hk : k < l.length) : fitsAll (l.take (k + 1)) = (fitsAll (l.take k) && fits1 (l[k]?.getD 0)) := by
  unfold fitsAll
  rw [List.take_succ_eq_append_getElem hk, List.all_append]
  simp [hk]

end Go.Proofs.YtjlokkjbdgcooaaGreat
