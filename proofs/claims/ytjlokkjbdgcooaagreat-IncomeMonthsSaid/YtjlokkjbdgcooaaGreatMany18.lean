/-
  Several texts, one behind the other: what each holds stands ahead of it.
-/
import Derived.Test.YtjlokkjbdgcooaaGreatMany17
import Derived.Laws.Externs
import Derived.Test.YtjlokkjbdgcooaaGreatMany13
import Derived.BigQuiet

/-
  Contract of money.Add of at most a thousand amounts.
-/
namespace Go.Proofs.YtjlokkjbdgcooaaGreat.Mo
open Go.RowKit

theorem add64_nat (x y c : Nat) (hc : c ≤ 1) (w : World) : (callFunc 175 #[.int .u64 x, .int .u64 y, .int .u64 c]).run Tryz.prog w =
    .ok (.value (.tuple #[.int .u64 (((x + y + c) % 18446744073709551616 : Nat) : Int), .int .u64 (((x + y + c) / 18446744073709551616 : Nat) : Int)])) w := by
  rw [run_callFunc_extern Tryz.func175 (by kernel_rfl) (by kernel_rfl) (by kernel_rfl) (e := add64Entry) (by kernel_rfl), run_add64 x y c (by omega) (by omega) (by omega) (by omega)]
  simp only [Result.andThen]
  congr 5 <;> omega
theorem add64_any (x y c : Int) (hx : 0 ≤ x) (hy : 0 ≤ y) (hc0 : 0 ≤ c) (hc : c ≤ 1) (w : World) : (callFunc 175 #[.int .u64 x, .int .u64 y, .int .u64 c]).run Tryz.prog w =
    .ok (.value (.tuple #[.int .u64 ((x + y + c) % 18446744073709551616), .int .u64 ((x + y + c) / 18446744073709551616)])) w := by
  obtain ⟨x, rfl⟩ := Int.eq_ofNat_of_zero_le hx
  obtain ⟨y, rfl⟩ := Int.eq_ofNat_of_zero_le hy
  obtain ⟨c, rfl⟩ := Int.eq_ofNat_of_zero_le hc0
  refine (add64_nat x y c (by omega) w).trans ?_
  congr 5
theorem add64_0 (x y : Int) (hx : 0 ≤ x) (hy : 0 ≤ y) (w : World) : (callFunc 175 #[.int .u64 x, .int .u64 y, .int .u64 0]).run Tryz.prog w =
    .ok (.value (.tuple #[.int .u64 ((x + y) % 18446744073709551616), .int .u64 ((x + y) / 18446744073709551616)])) w := by
  simpa using add64_any x y 0 hx hy (Int.le_refl 0) (by decide) w

theorem fitsAll_bd {l : List Int} (h : fitsAll l = true) : ∀ k, k ≤ l.length → -(1000000000000000 * (k : Int)) ≤ sumTo l k ∧ sumTo l k ≤ 1000000000000000 * (k : Int)
  | 0, _ => by rw [sumTo_zero]; omega
  | k + 1, hk => by
    have := fitsAll_bd h k (by omega)
    have hx : fits1 (l[k]?.getD 0) = true := by
      have := List.all_eq_true.1 h l[k] (List.getElem_mem (by omega))
      simpa [show k < l.length by omega] using this
    have := fits1_of hx
    rw [sumTo_succ (by omega)]; omega
theorem fitsAll_at {l : List Int} (h : fitsAll l = true) (k : Nat) : -1000000000000000 ≤ l[k]?.getD 0 ∧ l[k]?.getD 0 ≤ 1000000000000000 := by
  by_cases hk : k < l.length
  · have := List.all_eq_true.1 h l[k] (List.getElem_mem hk)
    simp [hk]
    exact fits1_of this
  · simp [hk]

def lowW (s : Int) : Int := s % 18446744073709551616
def highW (s : Int) : Int := s / 18446744073709551616 % 18446744073709551616
theorem low_step (s x : Int) : (lowW s + x % 18446744073709551616) % 18446744073709551616 = lowW (s + x) := by unfold lowW; omega
theorem high_step (s x : Int) (h1 : -1000000000000000 ≤ x) (h2 : x ≤ 1000000000000000) :
    (highW s + signW x + (lowW s + x % 18446744073709551616) / 18446744073709551616) % 18446744073709551616 = highW (s + x) := by
  unfold highW lowW signW; split <;> omega

/-- What Add tells of amounts that each fit. -/
def addV (l : List Int) : Int := if fitsAll l && fits1 l.sum then l.sum else 0
def addE (l : List Int) : Int := if fitsAll l && fits1 l.sum then 0 else 2

set_option maxRecDepth 100000 in
set_option maxHeartbeats 1000000 in
theorem add_any (l : List Int) (A : Option Addr) (n c B : Nat) (w : World) (h : Rd w B 1 A n (ints .i64 l)) (hn : n ≤ 1000) :
    Calls Tryz.prog 124 #[.slice A n c] w fun e w' => e = .returned (.tuple #[.int .i64 (addV l), .int .i64 (addE l)]) ∧ Below w.heap.size w w' := by
  have hl := Lib.hid h.ints_len
  cases hf : fitsAll l
  · have Hf := Lib.hid hf
    clear hf
    go_enter Tryz.func124, Tryz.ntmps124
    go_wp2_with fail
    refine (fits_any l A n c B w h (by unfold maxLen; omega)).mono ?_
    rintro e w' ⟨rfl, rfl⟩
    rw [Hf.out]
    go_wp2
    go_ret2
    exact ⟨by simp [addV, addE, Hf.out], Below.refl _ _⟩
  · have HB := Lib.hid (fitsAll_bd hf)
    have HX := Lib.hid (fitsAll_at hf)
    have Hf := Lib.hid hf
    clear hf
    go_enter Tryz.func124, Tryz.ntmps124
    go_wp2_with fail
    refine (fits_any l A n c B w h (by unfold maxLen; omega)).mono ?_
    rintro e w' ⟨rfl, rfl⟩
    rw [Hf.out]
    go_wp2_with fail
    go_loop [15, 4, 5] (fun i hi lo => ∃ k : Nat, k ≤ n ∧ i = .int .i64 k ∧ hi = .int .u64 (highW (sumTo l k)) ∧ lo = .int .u64 (lowW (sumTo l k))) (fun i _ _ => n - (intOf i).toNat)
    case atStart => exact ⟨0, Nat.zero_le _, rfl, by rw [sumTo_zero]; rfl, by rw [sumTo_zero]; rfl⟩
    case round =>
      obtain ⟨k, hk, rfl, rfl, rfl⟩ := hrel
      have hkl : k ≤ l.length := by have := hl.out; omega
      have hbd := HB.out k hkl
      by_cases hlt : k < n
      · obtain ⟨ad, rfl, hb, hc⟩ := h.int hlt
        have HS := Lib.hid (sumTo_succ (l := l) (k := k) (by have := hl.out; omega))
        have hx := HX.out k
        clear hkl
        generalize l[k]?.getD 0 = x at *
        have hL0 : 0 ≤ lowW (sumTo l k) := by unfold lowW; omega
        have hL1 : lowW (sumTo l k) < 18446744073709551616 := by unfold lowW; omega
        have hH0 : 0 ≤ highW (sumTo l k) := by unfold highW; omega
        have hH1 : highW (sumTo l k) < 18446744073709551616 := by unfold highW; omega
        have H1 := Lib.hid (low_step (sumTo l k) x)
        have H2 := Lib.hid (high_step (sumTo l k) x hx.1 hx.2)
        have hm0 : 0 ≤ x % 18446744073709551616 := by omega
        have hs0 : 0 ≤ signW x := by unfold signW; split <;> omega
        have hcw : IntKind.u64.wrap x = x % 18446744073709551616 := by rw [IntKind.wrap_u64]
        rw [← HS.out] at H1 H2
        clear HS
        generalize lowW (sumTo l k) = lo at *
        generalize highW (sumTo l k) = hi at *
        generalize hxm : x % 18446744073709551616 = xm at *
        have hxm1 : xm < 18446744073709551616 := by omega
        clear hxm
        have k0 : 0 ≤ (lo + xm) / 18446744073709551616 := by omega
        have k1 : (lo + xm) / 18446744073709551616 ≤ 1 := by omega
        have A1 := fun w => add64_0 lo xm hL0 hm0 w
        have A2 := fun w => add64_any hi (signW x) _ hH0 hs0 k0 k1 w
        generalize (lo + xm) / 18446744073709551616 = ca at *
        generalize (lo + xm) % 18446744073709551616 = lo2 at *
        generalize (hi + signW x + ca) % 18446744073709551616 = hi2 at *
        go_wp2_with fail
        refine (signWord_any x _ (by omega) (by omega)).mono ?_
        rintro e w' ⟨rfl, rfl⟩
        go_wp2
        exact ⟨⟨k + 1, by omega, by go_num, by rw [← H2.out], by rw [← H1.out]⟩, by simp [intOf]; omega⟩
      · obtain rfl : k = n := by omega
        have hS : sumTo l k = l.sum := sumTo_all (by have := hl.out; omega)
        rw [hS] at hbd ⊢
        clear hS hkl
        have e1 : IntKind.i64.wrap (lowW l.sum) = l.sum := by rw [IntKind.wrap_i64]; unfold lowW; omega
        have e2 : highW l.sum = signW l.sum := by unfold highW signW; split <;> omega
        rw [e2]
        have HA : Hid (addV l = (if fits1 l.sum then l.sum else 0) ∧ addE l = if fits1 l.sum then 0 else 2) := by
          unfold Hid addV addE; simp [Hf.out]
        clear e2
        generalize l.sum = S at *
        cases hF : fits1 S
        · rw [hF] at HA
          have HF := Lib.hid hF
          clear hF
          go_wp2_with fail
          refine (signWord_any S _ (by omega) (by omega)).mono ?_
          rintro e w' ⟨rfl, rfl⟩
          go_wp2_with fail
          refine (fits_one S w _ _).mono ?_
          rintro e w' ⟨rfl, rfl⟩
          rw [HF.out]
          go_wp2
          go_ret2
          exact ⟨by rw [HA.out.1, HA.out.2]; rfl, (Below.refl _ _).alloc (Nat.le_refl _) _⟩
        · rw [hF] at HA
          have HF := Lib.hid hF
          clear hF
          go_wp2_with fail
          refine (signWord_any S _ (by omega) (by omega)).mono ?_
          rintro e w' ⟨rfl, rfl⟩
          go_wp2_with fail
          refine (fits_one S w _ _).mono ?_
          rintro e w' ⟨rfl, rfl⟩
          rw [HF.out]
          go_wp2
          go_ret2
          exact ⟨by rw [HA.out.1, HA.out.2]; rfl, (Below.refl _ _).alloc (Nat.le_refl _) _⟩
end Go.Proofs.YtjlokkjbdgcooaaGreat.Mo

/-
  Contract of trial.Sum.
-/
namespace Go.Proofs.YtjlokkjbdgcooaaGreat
open Go.RowKit
open Mo

def amts (l : List Bal) : List Int := l.map Bal.amt
theorem amts_range {l : List Bal} {n : Nat} (h : l.length = n) : (List.range n).map (fun j => ((l.map Bal.amt)[j]?).getD 0) = amts l := by
  apply List.ext_getElem?
  intro i
  unfold amts
  by_cases hi : i < n
  · rw [List.getElem?_map, List.getElem?_range hi, List.getElem?_map, List.getElem?_eq_getElem (by omega)]
    simp [List.getElem?_eq_getElem (show i < l.length by omega)]
  · rw [List.getElem?_eq_none (by simp; omega), List.getElem?_eq_none (by simp; omega)]
set_option maxRecDepth 100000 in
set_option maxHeartbeats 2000000 in
theorem sumBals_any (l : List Bal) (A : Option Addr) (n c B : Nat) (w : World) (h : Rd w B 2 A n (bals l)) (hB : B ≤ w.heap.size) (hn : n ≤ 1000) :
    Calls Tryz.prog 41 #[.slice A n c] w fun e w' => e = .returned (.tuple #[.int .i64 (Mo.addV (amts l)), .int .i64 (Mo.addE (amts l))]) ∧ Below w.heap.size w w' := by
  have hmk := make_row (P := Tryz.prog) (q := .i64) (n := n) infoInt Tryz.underlying22 (by omega) w
  have hl := h.bals_len
  have HL := Lib.hid hl
  obtain ⟨f, hf⟩ : ∃ f : Nat → Int, (fun j => ((l.map Bal.amt)[j]?).getD 0) = f := ⟨_, rfl⟩
  have HF := Lib.hid hf
  obtain ⟨W1, hW1⟩ : ∃ W1, w.alloc (.cells (madeCells #[.int .i64 0] n) 3) = W1 := ⟨_, rfl⟩
  have hb1 : Below w.heap.size w W1 := by rw [← hW1]; exact (Below.refl _ _).alloc (Nat.le_refl _) _
  have HN1 : Hid (NRow 3 .i64 W1 w.heap.size n (fun _ => 0)) := by rw [← hW1]; exact NRow.new w _ _ n
  have hz1 : W1.heap.size = w.heap.size + 1 := by rw [← hW1]; simp
  rw [hW1] at hmk
  have HB1 := Lib.hid hb1
  have HR := Lib.hid (fun w1 (h1 : Below w.heap.size w w1) => h.far h1 hB)
  clear hW1 hb1 h hf hl
  go_enter Tryz.func41, Tryz.ntmps41
  go_wp2_with fail
  go_loopw [12] (fun iv wr => ∃ k : Nat, k ≤ n ∧ iv = .int .i64 k ∧ NRow 3 .i64 wr w.heap.size n (fun j => if j < k then f j else 0) ∧ Below w.heap.size w wr) (fun iv _ => n - (intOf iv).toNat)
  case atStart => exact ⟨0, Nat.zero_le _, rfl, HN1.out.congr fun j _ => by simp, HB1.out⟩
  case round =>
    obtain ⟨k, hk, rfl, hrow, hbel⟩ := hrel
    by_cases hlt : k < n
    · obtain ⟨ad, a, rfl, hb0, hx, p0, p1⟩ := (HR.out _ hbel).bal hlt
      have p1' := cell_behind (j := 1) p1 (by omega)
      have hkI : (k : Int) < (n : Int) := by omega
      have hlt0 := hrow.lt
      have hc := hrow.cell (j := k) hlt
      have hwm := hrow.warm k
      have HROW := Lib.hid hrow; have HBEL := Lib.hid hbel
      have HFX : Hid (f k = a.amt) := by
        rw [Hid, ← HF.out]
        simp [hx]
      clear hx hrow hbel p1 hb0
      go_wp2_with fail
      have hset := (HROW.out.set k a.amt).congr (g := fun j => if j < k + 1 then f j else 0) fun j hj => by
        have := HFX.out
        by_cases e : j = k
        · subst e; simp [this]
        · by_cases e2 : j < k
          · simp [e, e2, show j < k + 1 by omega]
          · simp [e, e2, show ¬ j < k + 1 by omega]
      refine ⟨⟨k + 1, by omega, by go_num, hset.kept (Below.heap_alloc _ _ _ (by simp; omega)), (HBEL.out.setCell (Nat.le_refl _) _).alloc (by simp; omega) _⟩, by simp [intOf]; omega⟩
    · obtain rfl : k = n := by omega
      have hrow2 := hrow.congr (g := f) fun j hj => by simp [hj]
      have hrd := hrow2.rd (B := wr.heap.size) hrow.lt
      rw [← HF.out, amts_range HL.out] at hrd
      have KA := Lib.hid (Mo.add_any (amts l) _ k k wr.heap.size wr hrd hn)
      have HBEL := Lib.hid hbel
      clear hrow hrow2 hrd hbel
      go_wp2_with fail
      refine KA.out.mono ?_
      rintro e w2 ⟨rfl, hb2⟩
      have HB2 := Lib.hid (HBEL.out.trans (hb2.mono HBEL.out.size))
      clear hb2 KA
      go_wp2_with fail
      go_ret2
      exact ⟨rfl, HB2.out⟩
end Go.Proofs.YtjlokkjbdgcooaaGreat
