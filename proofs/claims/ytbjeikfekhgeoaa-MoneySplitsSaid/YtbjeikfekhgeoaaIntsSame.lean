/-
  Contracts of SameInts, LentInts, StaysInts.
-/
import Derived.Test.YtbjeikfekhgeoaaInts
namespace Go.Proofs.Ytbjeikfekhgeoaa
open Go.RowKit

theorem Rd.drewN {w : World} {B size n : Nat} {A : Option Addr} {xs : List Value} (h : Rd w B size A n xs) (k : Nat) : Rd (w.drewN k) B size A n xs := h

/-- Only draws lie between two worlds. -/
def Drew (w w' : World) : Prop := ∃ k, w' = w.drewN k
theorem Drew.refl (w : World) : Drew w w := ⟨0, rfl⟩
theorem Drew.add {w : World} (a b : Nat) : Drew w (w.drewN (a + b)) := ⟨_, rfl⟩

theorem same_step {l m : List Int} {k : Nat} (h : l.length = m.length) (hk : k < l.length) (h1 : l.take k = m.take k) (h2 : l[k]?.getD 0 = m[k]?.getD 0) : l.take (k + 1) = m.take (k + 1) := by
  rw [List.take_succ_eq_append_getElem hk, List.take_succ_eq_append_getElem (by omega), h1]
  simp [hk, show k < m.length by omega] at h2
  rw [h2]

set_option maxRecDepth 100000 in
set_option maxHeartbeats 400000 in
theorem sameInts_any (l m : List Int) (A1 A2 : Option Addr) (n1 n2 c1 c2 B1 B2 : Nat) (w : World) (h1 : Rd w B1 1 A1 n1 (ints .i64 l)) (h2 : Rd w B2 1 A2 n2 (ints .i64 m)) (hn1 : n1 ≤ maxLen) (hn2 : n2 ≤ maxLen) :
    Calls Try.prog 20 #[.slice A1 n1 c1, .slice A2 n2 c2] w fun e w' => e = .returned (.bool (l == m)) ∧ Drew w w' := by
  unfold maxLen at hn1 hn2
  have L1 := Lib.hid h1.ints_len
  have L2 := Lib.hid h2.ints_len
  by_cases hne : n1 = n2
  · subst hne
    have t1 : ((n1 : Int) != (n1 : Int)) = false := by simp
    go_enter Try.func20, Try.ntmps20
    go_wp2_with fail
    go_loopw [5] (fun i wr => ∃ k : Nat, k ≤ n1 ∧ i = .int .i64 k ∧ Hid (l.take k = m.take k) ∧ Drew w wr) (fun i _ => n1 - (intOf i).toNat)
    case atStart => exact ⟨0, Nat.zero_le _, rfl, by simp [Hid], Drew.refl _⟩
    case round =>
      obtain ⟨k, hk, rfl, hs, q, rfl⟩ := hrel
      by_cases hlt : k < n1
      · obtain ⟨a1, rfl, hb1, hc1⟩ := h1.int hlt
        obtain ⟨a2, rfl, hb2, hc2⟩ := h2.int hlt
        have hkn : (k : Int) < (n1 : Int) := by omega
        have HX : Hid (l[k]?.getD 0 = m[k]?.getD 0 → l.take (k + 1) = m.take (k + 1)) := fun h => same_step (by have := L1.out; have := L2.out; omega) (by have := L1.out; omega) hs.out h
        have HY : Hid (l[k]?.getD 0 ≠ m[k]?.getD 0 → (l == m) = false) := by
          intro h
          rw [beq_eq_false_iff_ne]
          intro e
          exact h (by rw [e])
        generalize l[k]?.getD 0 = x at *
        generalize m[k]?.getD 0 = y at *
        by_cases hxy : x = y
        · have t2 : (x == y) = true := by rw [beq_iff_eq]; exact hxy
          have HXY := Lib.hid hxy
          clear hxy
          go_wp2_with fail
          go_quiet (fail)
          go_wp2
          exact ⟨⟨k + 1, by omega, by go_num, HX.out HXY.out, Drew.add _ _⟩, by simp [intOf]; omega⟩
        · have t2 : (x == y) = false := by rw [beq_eq_false_iff_ne]; exact hxy
          have HXY := Lib.hid hxy
          clear hxy
          go_wp2_with fail
          go_quiet (fail)
          go_wp2
          go_ret
          exact ⟨ret_bool (HY.out HXY.out).symm, ⟨_, World.drewN_drewN _ _ _⟩⟩
      · go_wp2
        go_ret
        refine ⟨ret_bool ?_, _, rfl⟩
        have := hs.out
        rw [List.take_of_length_le (by have := L1.out; omega), List.take_of_length_le (by have := L2.out; omega)] at this
        rw [this]; simp
  · have t1 : ((n1 : Int) != (n2 : Int)) = true := by rw [bne_iff_ne]; omega
    have HN := Lib.hid hne
    clear hne
    go_enter Try.func20, Try.ntmps20
    go_wp2
    go_ret
    refine ⟨ret_bool ?_, Drew.refl _⟩
    symm
    rw [beq_eq_false_iff_ne]
    intro e
    have := L1.out; have := L2.out
    rw [e] at *
    have := HN.out; omega

/-- A list that was lent: its elements, the mark behind them. -/
def LentAt (w : World) (base g cap : Nat) (l : List Int) : Prop := w.ownsRow base 3 1 (.slice (some ⟨g, 0, none⟩) (l.length + 1) cap) (l.length + 1) (ints .i64 (l ++ [-77]))

theorem LentAt.cap_ge {w : World} {base g cap : Nat} {l : List Int} (h : LentAt w base g cap l) : l.length + 1 ≤ cap ∧ base ≤ g ∧ g < w.heap.size := by
  rcases h.2 with ⟨h1, _⟩ | ⟨g', cap', cur, h1, hB, hh, h2, _⟩
  · cases h1
  · injection h1 with h1 _ hc
    injection h1 with h1
    injection h1 with h1
    subst h1 hc
    exact ⟨h2, hB, lt_of_blk hh⟩
theorem LentAt.cells {w : World} {base g cap : Nat} {l : List Int} (h : LentAt w base g cap l) : ∀ j u, (ints .i64 (l ++ [-77]))[j]? = some u → w.cell? ⟨g, j, none⟩ = some u := by
  intro j u hu
  have h' : w.ownsRow base 3 1 (.slice (some ⟨g, 0, none⟩) (l.length + 1) cap) (l.length + 1) (ints .i64 (l ++ [-77])) := h
  have := (h'.cells (g := g) rfl) j u hu
  rwa [Addr.add_lit, Nat.zero_add] at this
theorem LentAt.rd {w : World} {base g cap : Nat} {l : List Int} (h : LentAt w base g cap l) : Rd w w.heap.size 1 (some ⟨g, 0, none⟩) l.length (ints .i64 l) := by
  refine ⟨by simp [ints], fun _ => ⟨_, rfl, h.cap_ge.2.2, fun j u hu => ?_⟩⟩
  rw [Addr.add_lit, Nat.zero_add]
  refine h.cells j u ?_
  have hj : j < l.length := by
    obtain ⟨h1, _⟩ := List.getElem?_eq_some_iff.1 hu
    simpa [ints] using h1
  simp only [ints, List.map_append]
  rw [List.getElem?_append_left (by simpa using hj)]
  exact hu
theorem LentAt.mark {w : World} {base g cap : Nat} {l : List Int} (h : LentAt w base g cap l) : w.cell? ⟨g, l.length, none⟩ = some (.int .i64 (-77)) := by
  refine h.cells _ _ ?_
  simp [ints]
theorem LentAt.below {w w' : World} {base g cap : Nat} {l : List Int} (h : LentAt w base g cap l) (hb : Below w.heap.size w w') : LentAt w' base g cap l :=
  own_kept h fun k hk _ => hb.block k hk

set_option maxRecDepth 100000 in
set_option maxHeartbeats 1000000 in
theorem lentInts_any (l : List Int) (A : Option Addr) (n c B : Nat) (w : World) (h : Rd w B 1 A n (ints .i64 l)) (hn : n ≤ 1000000) :
    Calls Try.prog 11 #[.slice A n c] w fun e w' => ∃ g cap, e = .returned (.slice (some ⟨g, 0, none⟩) n cap) ∧ LentAt w' w.heap.size g cap l ∧ Below w.heap.size w w' := by
  obtain ⟨i0, hi0, hz0, hz1, hz2⟩ := info_parts infoInt
  have hI := Lib.hid hi0; have hZ0 := Lib.hid hz0; have hZ1 := Lib.hid hz1; have hZ2 := Lib.hid hz2
  have HL := Lib.hid h.ints_len
  clear hi0 hz0 hz1 hz2
  go_enter Try.func11, Try.ntmps11
  go_wp2_with fail
  refine (copyInts_any l A n c B w h (by omega)).mono ?_
  rintro e w1 ⟨A', c', rfl, hown, hb⟩
  have hsz := hb.size
  go_wp2_with (at_builtin; refine wpList_append_lies _ rfl _ _ 22 rfl w.heap.size 3 i0 (.int .i64 0) 1 8 Try.underlying22 hI.out hZ0.out hZ1.out hZ2.out rfl (by decide) _ n _ rfl (own_kept hown fun k hk _ => Below.heap_alloc _ _ _ hk) ⟨w1.heap.size, 0, none⟩ 1 1 [.int .i64 (-77)] rfl rfl (cell_one_new _ _ _) (by simp [Value.oneCell']) (by omega) (by unfold maxLen; omega) (by omega) (by simp; omega) _ rfl ?_)
  intro g cap w2 hown2 hg2 hat2 hlt2
  have hL : LentAt w2 w.heap.size g cap l := by
    have e1 := HL.out
    unfold LentAt
    rw [e1]
    simpa [ints] using hown2
  have hcap := hL.cap_ge.1
  rw [HL.out] at hcap
  have hcap' : n ≤ cap := by omega
  have hB2 : Hid (Below w.heap.size w w2) := (hb.trans ((Below.refl _ _).alloc (by omega) _)).grown hg2 (by simp; omega) (own_ge hown)
  have HLL := Lib.hid hL
  clear hL hown2 hg2 hown hb
  go_wp2
  go_ret
  exact ⟨g, cap, rfl, HLL.out, hB2.out⟩

set_option maxRecDepth 100000 in
set_option maxHeartbeats 1000000 in
theorem staysInts_any (l m : List Int) (A : Option Addr) (n1 n c base B g cap : Nat) (w : World) (hl : LentAt w base g cap m) (hlen : m.length = n1) (h : Rd w B 1 A n (ints .i64 l)) (hn : n ≤ maxLen) (hn1 : n1 ≤ 1000000) :
    Calls Try.prog 16 #[.slice (some ⟨g, 0, none⟩) n1 cap, .slice A n c] w fun e w' => e = .returned (.bool (m == l)) ∧ Drew w w' := by
  obtain ⟨hcap, _, _⟩ := hl.cap_ge
  have hmark := hl.mark
  have hrd := hl.rd
  rw [hlen] at hcap hmark hrd
  have hcap' : n1 ≤ cap := by omega
  have hcI : (n1 : Int) + 1 ≤ (cap : Int) := by omega
  clear hlen
  cases hs : (m == l)
  · have HS := Lib.hid hs
    clear hs
    go_enter Try.func16, Try.ntmps16
    go_wp2_with fail
    refine (sameInts_any m l _ A n1 n cap c _ B w hrd h (by unfold maxLen; omega) hn).mono ?_
    rintro e w' ⟨rfl, q, rfl⟩
    rw [HS.out]
    go_wp2
    go_ret
    exact ⟨rfl, q, rfl⟩
  · have HS := Lib.hid hs
    clear hs
    go_enter Try.func16, Try.ntmps16
    go_wp2_with fail
    refine (sameInts_any m l _ A n1 n cap c _ B w hrd h (by unfold maxLen; omega) hn).mono ?_
    rintro e w' ⟨rfl, q, rfl⟩
    rw [HS.out]
    go_wp2
    go_ret
    exact ⟨rfl, q, rfl⟩
end Go.Proofs.Ytbjeikfekhgeoaa
