/-
  Contract of trial.Sum.
-/
import Derived.Test.YthjpknipnmagkaaBals
import Derived.Test.YthjpknipnmagkaaMoneyAdd
import Derived.BigQuiet
namespace Go.Proofs.Ythjpknipnmagkaa
open Go.RowKit
open Mo

def amts (l : List Bal) : List Int := l.map Bal.amt
theorem amts_range {l : List Bal} {n : Nat} (h : l.length = n) : (List.range n).map (fun j => ((l.map Bal.amt)[j]?).getD 0) = amts l := by
  apply List.ext_getElem?
  intro i
  unfold amts
  by_cases hi : i < n
  · rw [List.getElem?_map, List.getElem?_range hi, List.getElem?_map, List.getElem?_eq_getElem (by omega)]
    simp [List.getElem?_eq_getElem (show i < l.length by omega)]
  · rw [List.getElem?_eq_none (by simp; omega), List.getElem?_eq_none (by simp; omega)]
set_option maxRecDepth 100000 in
set_option maxHeartbeats 2000000 in
theorem sumBals_any (l : List Bal) (A : Option Addr) (n c B : Nat) (w : World) (h : Rd w B 2 A n (bals l)) (hB : B ≤ w.heap.size) (hn : n ≤ 1000) :
    Calls Try.prog 41 #[.slice A n c] w fun e w' => e = .returned (.tuple #[.int .i64 (addV (amts l)), .int .i64 (addE (amts l))]) ∧ Below w.heap.size w w' := by
  have hmk := make_row (P := Try.prog) (q := .i64) (n := n) infoInt Try.underlying22 (by omega) w
  have hl := h.bals_len
  have HL := Lib.hid hl
  obtain ⟨f, hf⟩ : ∃ f : Nat → Int, (fun j => ((l.map Bal.amt)[j]?).getD 0) = f := ⟨_, rfl⟩
  have HF := Lib.hid hf
  obtain ⟨W1, hW1⟩ : ∃ W1, w.alloc (.cells (madeCells #[.int .i64 0] n) 3) = W1 := ⟨_, rfl⟩
  have hb1 : Below w.heap.size w W1 := by rw [← hW1]; exact (Below.refl _ _).alloc (Nat.le_refl _) _
  have HN1 : Hid (NRow 3 .i64 W1 w.heap.size n (fun _ => 0)) := by rw [← hW1]; exact NRow.new w _ _ n
  have hz1 : W1.heap.size = w.heap.size + 1 := by rw [← hW1]; simp
  rw [hW1] at hmk
  have HB1 := Lib.hid hb1
  have HR := Lib.hid (fun w1 (h1 : Below w.heap.size w w1) => h.far h1 hB)
  clear hW1 hb1 h hf hl
  go_enter Try.func41, Try.ntmps41
  go_wp2_with fail
  go_loopw [12] (fun iv wr => ∃ k : Nat, k ≤ n ∧ iv = .int .i64 k ∧ NRow 3 .i64 wr w.heap.size n (fun j => if j < k then f j else 0) ∧ Below w.heap.size w wr) (fun iv _ => n - (intOf iv).toNat)
  case atStart => exact ⟨0, Nat.zero_le _, rfl, HN1.out.congr fun j _ => by simp, HB1.out⟩
  case round =>
    obtain ⟨k, hk, rfl, hrow, hbel⟩ := hrel
    by_cases hlt : k < n
    · obtain ⟨ad, a, rfl, hb0, hx, p0, p1⟩ := (HR.out _ hbel).bal hlt
      have p1' := cell_behind (j := 1) p1 (by omega)
      have hkI : (k : Int) < (n : Int) := by omega
      have hlt0 := hrow.lt
      have hc := hrow.cell (j := k) hlt
      have hwm := hrow.warm k
      have HROW := Lib.hid hrow; have HBEL := Lib.hid hbel
      have HFX : Hid (f k = a.amt) := by
        rw [Hid, ← HF.out]
        simp [hx]
      clear hx hrow hbel p1 hb0
      go_wp2_with fail
      have hset := (HROW.out.set k a.amt).congr (g := fun j => if j < k + 1 then f j else 0) fun j hj => by
        have := HFX.out
        by_cases e : j = k
        · subst e; simp [this]
        · by_cases e2 : j < k
          · simp [e, e2, show j < k + 1 by omega]
          · simp [e, e2, show ¬ j < k + 1 by omega]
      refine ⟨⟨k + 1, by omega, by go_num, hset.kept (Below.heap_alloc _ _ _ (by simp; omega)), (HBEL.out.setCell (Nat.le_refl _) _).alloc (by simp; omega) _⟩, by simp [intOf]; omega⟩
    · obtain rfl : k = n := by omega
      have hrow2 := hrow.congr (g := f) fun j hj => by simp [hj]
      have hrd := hrow2.rd (B := wr.heap.size) hrow.lt
      rw [← HF.out, amts_range HL.out] at hrd
      have KA := Lib.hid (add_any (amts l) _ k k wr.heap.size wr hrd hn)
      have HBEL := Lib.hid hbel
      clear hrow hrow2 hrd hbel
      go_wp2_with fail
      refine KA.out.mono ?_
      rintro e w2 ⟨rfl, hb2⟩
      have HB2 := Lib.hid (HBEL.out.trans (hb2.mono HBEL.out.size))
      clear hb2 KA
      go_wp2_with fail
      go_ret2
      exact ⟨rfl, HB2.out⟩
end Go.Proofs.Ythjpknipnmagkaa

