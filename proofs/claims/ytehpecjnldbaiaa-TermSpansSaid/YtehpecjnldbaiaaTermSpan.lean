/-
  Contracts of term.walk, term.Span.
-/
import Derived.Test.YtehpecjnldbaiaaTermSmall
namespace Go.Proofs.Ytehpecjnldbaiaa
open Go.RowKit

/-- The first k months from p. -/
def spanL (p : Int) (k : Nat) : List Int := (List.range k).map fun j : Nat => p + (j : Int)
theorem spanL_succ (p : Int) (k : Nat) : spanL p (k + 1) = spanL p k ++ [p + (k : Int)] := by simp [spanL, List.range_succ]
theorem spanL_len (p : Int) (k : Nat) : (spanL p k).length = k := by simp [spanL]
theorem spanL_at (p : Int) {k j : Nat} (h : j < k) : (spanL p k)[j]?.getD 0 = p + (j : Int) := by simp [spanL, h]

theorem make_none {P : Program} {t e : TypeId} {q : IntKind} {k : IntKind} {n : Nat} (h : (P.info? e).map (fun i => (i.zero, i.size, i.bytes)) = some (some (.int k 0), 1, 8)) (ht : P.underlying t = some (.slice e)) (w : World) (hn : n ≤ 1000000) :
    (Instr.makeSlice t (.int q 0) (.int q (n : Int))).run P w = .ok (.slice (some ⟨w.heap.size, 0, none⟩) 0 n) (w.alloc (.cells (madeCells #[.int k 0] n) e)) := by
  obtain ⟨i, hi, hz, h1, h2⟩ := info_parts h
  have := run_make (P := P) w t e i _ ht hi hz q q 0 n (by omega) (by omega) (by rw [h2]; omega) (by omega)
  rw [this, h1]
  simp [Value.cells]
theorem own_none (w : World) (n : Nat) (hn : n ≤ 1000000) : (w.alloc (.cells (madeCells #[.int .i64 0] n) 3)).ownsRow w.heap.size 3 1 (.slice (some ⟨w.heap.size, 0, none⟩) 0 n) 0 (ints .i64 []) := by
  refine ⟨rfl, .inr ⟨w.heap.size, n, _, rfl, Nat.le_refl _, heap_new _ _, by omega, by unfold maxLen; omega, ?_, by simp [ints]⟩⟩
  rw [size_madeCells, Nat.mul_one]

set_option maxRecDepth 100000 in
set_option maxHeartbeats 1000000 in
theorem walk_any (p : Int) (n : Nat) (w : World) (hp : okP p = true) (hn : p + n ≤ 1200) :
    Calls Try.prog 27 #[.func (.func 22) #[.int .i64 p] #[], .int .i64 (n : Int)] w fun e w' => ∃ A c, e = .returned (.slice A n c) ∧ w'.ownsRow w.heap.size 3 1 (.slice A n c) n (ints .i64 (spanL p n)) ∧ Below w.heap.size w w' := by
  obtain ⟨i0, hi0, hz0, hz1, hz2⟩ := info_parts infoInt
  have hI := Lib.hid hi0; have hZ0 := Lib.hid hz0; have hZ1 := Lib.hid hz1; have hZ2 := Lib.hid hz2
  clear hi0 hz0 hz1 hz2
  have hb := okP_t hp
  have HP := Lib.hid hp
  clear hp
  have hmk := make_none (P := Try.prog) (q := .i64) (n := n) infoInt Try.underlying47 w (by omega)
  have HO0 := Lib.hid (own_none w n (by omega))
  go_enter Try.func27, Try.ntmps27
  go_wp2_with fail
  go_loopw [5, 12] (fun lv kv wr => ∃ (k : Nat) (A : Option Addr) (c : Nat), k ≤ n ∧ kv = .int .i64 (k : Int) ∧ lv = .slice A k c ∧ wr.ownsRow w.heap.size 3 1 (.slice A k c) k (ints .i64 (spanL p k)) ∧ Below w.heap.size w wr) (fun _ kv _ => n - (intOf kv).toNat)
  case atStart => exact ⟨0, _, n, Nat.zero_le _, rfl, rfl, HO0.out, (Below.refl _ _).alloc (Nat.le_refl _) _⟩
  case round =>
    obtain ⟨k, A, c, hk, rfl, rfl, hown, hbel⟩ := hrel
    have hsz := hbel.size
    clear hmk HO0
    by_cases hlt : k < n
    · have ko := fun w => on_any p (k : Int) w HP.out (by omega) (by omega)
      have hs : okS p (k : Int) = true := by unfold okS; rw [HP.out]; simp; omega
      rw [show shiftV p (k : Int) = p + (k : Int) from by unfold shiftV; rw [if_pos hs], hs] at ko
      clear hs
      have HOw := Lib.hid hown
      clear hown
      go_wp2_with fail
      refine (ko wr).mono ?_
      rintro e w2 ⟨rfl, rfl⟩
      have hown := HOw.out
      go_wp2_with (at_builtin; refine wpList_append_lies _ rfl _ _ 47 rfl w.heap.size 3 i0 (.int .i64 0) 1 8 Try.underlying47 hI.out hZ0.out hZ1.out hZ2.out rfl (by decide) _ k _ rfl (own_kept hown fun q hq _ => Below.heap_alloc _ _ _ hq) ⟨wr.heap.size, 0, none⟩ 1 1 [.int .i64 (p + (k : Int))] rfl rfl (cell_one_new _ _ _) (by simp [Value.oneCell']) (by omega) (by unfold maxLen; omega) (by omega) (by simp; omega) _ rfl ?_)
      intro g cap w2 hown2 hg2 hat2 hlt2
      have hB2 : Hid (Below w.heap.size w w2) := (hbel.alloc hsz _).grown hg2 (by simp; omega) (own_ge hown)
      have HO2 := Lib.hid hown2
      clear hown2 hg2 hown hbel
      go_wp2
      refine ⟨⟨k + 1, some ⟨g, 0, none⟩, cap, by omega, by go_num, rfl, ?_, hB2.out⟩, by simp [intOf]; omega⟩
      have := HO2.out
      rw [spanL_succ]
      simpa [ints] using this
    · obtain rfl : k = n := by omega
      have HO := Lib.hid hown
      clear hown
      go_wp2
      go_ret
      exact ⟨A, c, rfl, HO.out, hbel⟩

/-- How many months there are from p to q. -/
def spanN (p q : Int) : Nat := if okP p = true ∧ okP q = true ∧ p ≤ q then (q - p + 1).toNat else 0

set_option maxRecDepth 100000 in
set_option maxHeartbeats 400000 in
theorem span_any (p q : Int) (w : World) :
    Calls Try.prog 19 #[.int .i64 p, .int .i64 q] w fun e w' => ∃ A c, e = .returned (.slice A (spanN p q) c) ∧ w'.ownsRow w.heap.size 3 1 (.slice A (spanN p q) c) (spanN p q) (ints .i64 (spanL p (spanN p q))) ∧ Below w.heap.size w w' := by
  cases hv : (okP p && okP q)
  · have hN : spanN p q = 0 := by
      unfold spanN
      rw [if_neg]
      rintro ⟨h1, h2, _⟩
      rw [h1, h2] at hv
      cases hv
    rw [hN]
    have HV := Lib.hid hv
    clear hv hN
    go_enter Try.func19, Try.ntmps19
    go_wp2_with fail
    refine (valid_two p q w).mono ?_
    rintro e w1 ⟨rfl, rfl⟩
    rw [HV.out]
    go_wp2
    go_ret
    exact ⟨none, 0, rfl, World.ownsRow_nil _ _ _ _, (Below.refl _ _).alloc (Nat.le_refl _) _⟩
  · obtain ⟨hp, hq⟩ : okP p = true ∧ okP q = true := by simpa using hv
    have h1 := okP_t hp
    have h2 := okP_t hq
    have HV := Lib.hid hv
    clear hv
    by_cases hpq : q < p
    · have hN : spanN p q = 0 := by unfold spanN; rw [if_neg]; omega
      rw [hN]
      clear hN hp hq
      go_enter Try.func19, Try.ntmps19
      go_wp2_with fail
      refine (valid_two p q w).mono ?_
      rintro e w1 ⟨rfl, rfl⟩
      rw [HV.out]
      go_wp2
      go_ret
      exact ⟨none, 0, rfl, World.ownsRow_nil _ _ _ _, (Below.refl _ _).alloc (Nat.le_refl _) _⟩
    · have hN : spanN p q = (q - p + 1).toNat := by unfold spanN; rw [if_pos ⟨hp, hq, by omega⟩]
      have hN2 : ((spanN p q : Nat) : Int) = q - p + 1 := by rw [hN]; omega
      have kw := fun w => walk_any p (spanN p q) w hp (by omega)
      rw [hN2] at kw
      generalize spanN p q = N at *
      clear hN hN2 hp hq
      go_enter Try.func19, Try.ntmps19
      go_wp2_with fail
      refine (valid_two p q w).mono ?_
      rintro e w1 ⟨rfl, rfl⟩
      rw [HV.out]
      go_wp2_with fail
      refine (kw _).mono ?_
      rintro e w2 ⟨A, c, rfl, hown, hb⟩
      have HO := Lib.hid hown
      have HB := Lib.hid hb
      clear hown hb
      go_wp2
      go_ret
      refine ⟨A, c, rfl, ⟨HO.out.1, ?_⟩, ((Below.refl _ _).alloc (Nat.le_refl _) _).trans (HB.out.mono (by simp))⟩
      rcases HO.out.2 with h | ⟨g, cap, cur, e1, e2, r⟩
      · exact .inl h
      · exact .inr ⟨g, cap, cur, e1, by simp at e2; omega, r⟩
end Go.Proofs.Ytehpecjnldbaiaa
