/-
  Contracts of the reference's Post, Voided.
-/
import Derived.Test.YthjpknipnmagkaaRefBook
namespace Go.Proofs.Ythjpknipnmagkaa
open Go.RowKit

theorem postE_eqs (M : List Jrn) (j : Jrn) : (checkE j ≠ 0 ∧ postE M j = checkE j) ∨ (checkE j = 0 ∧ hasId M j.id = true ∧ postE M j = 7) ∨ (checkE j = 0 ∧ hasId M j.id = false ∧ takenJ M j = true ∧ postE M j = 8) ∨ (checkE j = 0 ∧ hasId M j.id = false ∧ takenJ M j = false ∧ 200 ≤ M.length ∧ postE M j = 13) ∨ (checkE j = 0 ∧ hasId M j.id = false ∧ takenJ M j = false ∧ ¬ 200 ≤ M.length ∧ postE M j = 0) := by
  unfold postE
  by_cases h1 : checkE j = 0
  · cases h2 : hasId M j.id
    · cases h3 : takenJ M j
      · by_cases h4 : 200 ≤ M.length
        · simp [h1, h4]
        · simp [h1, h4]
      · simp [h1]
    · simp [h1]
  · simp [h1]
/-- The reference's Get, whatever is found: the one that the book's Post asks. -/
theorem refGet_has (l : List JR) (x : Int) (A : Option Addr) (n c B : Nat) (w : World) (h : Rd w B 6 A n (jrs l)) (hB : B ≤ w.heap.size) (hn : n ≤ 1000000) :
    Calls Try.prog 78 #[.slice A n c, .int .i64 x] w fun e w' => (∃ (a0 a1 a2 : Int) (a3 : ByteArray) (a4 : Option Addr × Nat × Nat) (a5 : Bool), e = .returned (.tuple #[.agg #[.int .i64 a0, .int .i64 a1, .int .i64 a2, .string a3, .slice a4.1 a4.2.1 a4.2.2, .bool a5], .bool (hasId (l.map JR.j) x)])) ∧ Below w.heap.size w w' := by
  rw [hasId_map]
  cases hf : findK JR.id l x with
  | none => exact (refGet_none l x A n c B w h hB hn hf).mono fun e w' hh => ⟨⟨0, 0, 0, ⟨#[]⟩, (none, 0, 0), false, hh.1⟩, hh.2⟩
  | some a => exact (refGet_some l x a A n c B w h hB hn hf).mono fun e w' hh => ⟨⟨a.j.id, a.j.ent, a.j.per, a.j.ref, (a.A, a.j.lines.length, a.c), a.j.void, hh.1⟩, hh.2⟩

set_option maxRecDepth 100000 in
set_option maxHeartbeats 4000000 in
theorem refPost_any (l : List JR) (j : Jrn) (A A2 : Option Addr) (n c n2 c2 B B2 : Nat) (w : World) (h : Rd w B 6 A n (jrs l)) (hB : B ≤ w.heap.size) (hn : n ≤ 1000000) (h2 : Rd w B2 3 A2 n2 (lins j.lines)) (hB2 : B2 ≤ w.heap.size) :
    Calls Try.prog 53 #[.slice A n c, j.val A2 n2 c2] w fun e w' => e = .returned (.int .i64 (postE (l.map JR.j) j)) ∧ Below w.heap.size w w' := by
  obtain ⟨W, hW⟩ : ∃ W, w.alloc (.cells #[.int .i64 j.id, .int .i64 j.ent, .int .i64 j.per, .string j.ref, .slice A2 n2 c2, .bool j.void] 38) = W := ⟨_, rfl⟩
  have hbW : Below w.heap.size w W := by rw [← hW]; exact (Below.refl _ _).alloc (Nat.le_refl _) _
  have hzW : W.heap.size = w.heap.size + 1 := by rw [← hW]; simp
  have HW := Lib.hid hW
  have HBW := Lib.hid hbW
  have HR : Hid (∀ w1, Below W.heap.size W w1 → Rd w1 B 6 A n (jrs l)) := fun w1 hb => h.far (hbW.trans (hb.mono hbW.size)) hB
  have HFIN : Hid (∀ w1, Below W.heap.size W w1 → Below w.heap.size w w1) := fun w1 hb => hbW.trans (hb.mono hbW.size)
  have kc := Lib.hid (refCheck_any j A2 n2 c2 B2 W (h2.far hbW hB2) (by omega))
  have kg : Hid (∀ w1, Below W.heap.size W w1 → Calls Try.prog 78 #[.slice A n c, .int .i64 j.id] w1 fun e w' => (∃ (a0 a1 a2 : Int) (a3 : ByteArray) (a4 : Option Addr × Nat × Nat) (a5 : Bool), e = .returned (.tuple #[.agg #[.int .i64 a0, .int .i64 a1, .int .i64 a2, .string a3, .slice a4.1 a4.2.1 a4.2.2, .bool a5], .bool (hasId (l.map JR.j) j.id)])) ∧ Below w1.heap.size w1 w') := fun w1 hb => refGet_has l j.id A n c B w1 (HR.out w1 hb) (by have := hb.size; omega) hn
  have kt : Hid (∀ w1, Below W.heap.size W w1 → Calls Try.prog 79 #[.slice A n c, j.val A2 n2 c2] w1 fun e w' => e = .returned (.bool (takenJ (l.map JR.j) j)) ∧ Below w1.heap.size w1 w') := fun w1 hb => refTakenR_any l j A A2 n c n2 c2 B w1 (HR.out w1 hb) (by have := hb.size; omega) hn
  have hlen : (l.map JR.j).length = n := by rw [List.length_map]; exact h.jrs_len
  have HC := Lib.hid (postE_eqs (l.map JR.j) j)
  rw [hlen] at HC
  clear h h2 hW hbW hlen
  generalize postE (l.map JR.j) j = E at *
  generalize checkE j = K at *
  generalize hasId (l.map JR.j) j.id = G at *
  generalize takenJ (l.map JR.j) j = T at *
  obtain ⟨id, ent, per, ref, L, void⟩ := j
  unfold Jrn.val at *
  dsimp only at *
  rcases HC.out with ⟨h1, rfl⟩ | ⟨rfl, rfl, rfl⟩ | ⟨rfl, rfl, rfl, rfl⟩ | ⟨rfl, rfl, rfl, h4, rfl⟩ | ⟨rfl, rfl, rfl, h4, rfl⟩
  all_goals
    clear HC
    try have ht : (E != 0) = true := by simpa using h1
    try have hI : (200 : Int) ≤ (n : Int) := by omega
    try have hI : ¬ (200 : Int) ≤ (n : Int) := by omega
    go_enter Try.func53, Try.ntmps53
    go_wp2_with fail
    rw [HW.out]
    refine kc.out.mono ?_
    rintro e w1 ⟨rfl, hb1⟩
    have HB1 := Lib.hid hb1
    obtain ⟨b0, b1, b2, b3, b4, b5⟩ := box6 HW.out hb1
    clear hb1
    go_wp2_with fail
    refine (kg.out w1 HB1.out).mono ?_
    rintro e w2 ⟨⟨a0, a1, a2, a3, a4, a5, rfl⟩, hb2⟩
    have HB2 : Hid (Below W.heap.size W w2) := HB1.out.trans (hb2.mono HB1.out.size)
    clear hb2 b0 b1 b2 b3 b4 b5
    obtain ⟨x4, x5, x6⟩ := a4
    dsimp only
    have HB3 : Hid (∀ o, Below W.heap.size W (w2.alloc o)) := fun o => HB2.out.alloc HB2.out.size o
    obtain ⟨b0, b1, b2, b3, b4, b5⟩ := box6 HW.out HB2.out
    have hlt2 : w.heap.size < w2.heap.size := by have := HB2.out.size; omega
    go_wp2_with fail
    first
      | (go_ret; exact ⟨rfl, HFIN.out _ (HB3.out _)⟩)
      | (refine (kt.out _ (HB3.out _)).mono ?_
         rintro e w3 ⟨rfl, hb3⟩
         have HB4 := Lib.hid (HFIN.out _ ((HB3.out _).trans (hb3.mono (HB3.out _).size)))
         clear hb3 b0 b1 b2 b3 b4 b5
         go_wp2_with fail
         go_ret
         exact ⟨rfl, HB4.out⟩)
end Go.Proofs.Ythjpknipnmagkaa

