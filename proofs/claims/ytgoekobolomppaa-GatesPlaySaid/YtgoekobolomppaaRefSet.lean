/-
  Contract of the reference's SetGate.
-/
import Derived.Test.YtgoekobolomppaaRefGates
import Derived.Test.YtgoekobolomppaaRefSetMath
import Derived.Test.YtgoekobolomppaaInsertTrio
import Derived.Test.YtgoekobolomppaaGatesSet
namespace Go.Proofs.Ytgoekobolomppaa
open Go.RowKit

theorem infoGate : (Try.prog.info? 50).map (fun i => (i.zero, i.size, i.bytes)) = some (some (.agg #[.int .i64 0, .int .i64 0, .int .i64 0]), 3, 24) := by kernel_rfl
/-- One row more. -/
theorem gate_add {W : World} {B m : Nat} {v : Value} {acc : List Trio} (a : Trio) (hown : W.ownsRow B 50 3 v m (trios acc)) (hB : B ≤ W.heap.size) (hm : m ≤ 1000000) :
    ∃ A c w', (Builtin.append_ #[28, 28] 28 #[v, .slice (some ⟨W.heap.size, 0, none⟩) 1 1]).run Try.prog (W.alloc (.cells #[.int .i64 a.x, .int .i64 a.y, .int .i64 a.z] 50)) = .ok (.slice A (m + 1) c) w' ∧ w'.ownsRow B 50 3 (.slice A (m + 1) c) (m + 1) (trios (acc ++ [a])) ∧ But (fun k => v.ownBlock = some k) W w' ∧ (∀ k, (Value.slice A (m + 1) c).ownBlock = some k → v.ownBlock = some k ∨ W.heap.size ≤ k) ∧ W.heap.size + 1 ≤ w'.heap.size := by
  have hr : Rd (W.alloc (.cells #[.int .i64 a.x, .int .i64 a.y, .int .i64 a.z] 50)) (W.heap.size + 1) 3 (some ⟨W.heap.size, 0, none⟩) 1 a.cells := ⟨rfl, fun _ => ⟨_, rfl, by simp, rd_at (heap_new W _)⟩⟩
  obtain ⟨v', w', hrun, hown', hg, hp⟩ := append_fresh (P := Try.prog) (ty := 28) (c := 1) infoGate Try.underlying28 rfl (by omega) B v m _ (own_kept hown fun q hq _ => Below.heap_alloc W _ _ hq) hr (cells_oneT a) (by unfold maxLen; omega) (by omega) (by simp; omega)
  obtain ⟨A, c, rfl⟩ := own_form hown'
  have hb := But.of_grown hg
  refine ⟨A, c, w', hrun, ?_, ((But.of_below ((Below.refl _ _).alloc (Nat.le_refl _) _)).trans (hb.wide fun k _ hk => hk)), fun k hk => ?_, by have := hb.size; simpa using this⟩
  · rw [trios_append]
    have : trios [a] = a.cells := by simp [trios]
    rw [this]; exact hown'
  · rcases hp with h | h
    · exact .inl (by rw [← h]; exact hk)
    · rw [h] at hk
      injection hk with hk
      simp at hk
      exact .inr (by omega)

/-- What comes of the reference's SetGate. -/
def RefSet (w : World) (B : Nat) (l : List Trio) (E : Int) (e : Ending) (w' : World) : Prop :=
  ∃ A c, e = .returned (.tuple #[.slice A l.length c, .int .i64 E]) ∧ w'.ownsRow B 50 3 (.slice A l.length c) l.length (trios l) ∧ Below w.heap.size w w'
set_option maxRecDepth 100000 in
set_option maxHeartbeats 1000000 in
theorem refSet_lo (l : List Trio) (en pe s : Int) (A : Option Addr) (n c B : Nat) (w : World) (h : w.ownsRow B 50 3 (.slice A n c) n (trios l)) (h1 : en < 1) :
    Calls Try.prog 9 #[.slice A n c, .agg #[.int .i64 en, .int .i64 pe, .int .i64 s]] w (RefSet w B l 1) := by
  have HO := Lib.hid h
  have hl : l.length = n := by have := h.1; rw [trios_len] at this; omega
  subst hl
  clear h
  go_enter Try.func9, Try.ntmps9
  go_wp2_with fail
  go_ret2
  exact ⟨A, c, rfl, own_kept HO.out fun q hq _ => Below.heap_alloc _ _ _ hq, (Below.refl _ _).alloc (Nat.le_refl _) _⟩
set_option maxRecDepth 100000 in
set_option maxHeartbeats 1000000 in
theorem refSet_hi (l : List Trio) (en pe s : Int) (A : Option Addr) (n c B : Nat) (w : World) (h : w.ownsRow B 50 3 (.slice A n c) n (trios l)) (h1 : ¬ en < 1) (h2 : 9 < en) :
    Calls Try.prog 9 #[.slice A n c, .agg #[.int .i64 en, .int .i64 pe, .int .i64 s]] w (RefSet w B l 1) := by
  have HO := Lib.hid h
  have hl : l.length = n := by have := h.1; rw [trios_len] at this; omega
  subst hl
  clear h
  go_enter Try.func9, Try.ntmps9
  go_wp2_with fail
  go_ret2
  exact ⟨A, c, rfl, own_kept HO.out fun q hq _ => Below.heap_alloc _ _ _ hq, (Below.refl _ _).alloc (Nat.le_refl _) _⟩
set_option maxRecDepth 100000 in
set_option maxHeartbeats 1000000 in
theorem refSet_p (l : List Trio) (en pe s : Int) (A : Option Addr) (n c B : Nat) (w : World) (h : w.ownsRow B 50 3 (.slice A n c) n (trios l)) (h1 : ¬ en < 1) (h2 : ¬ 9 < en) (kv : ∀ w, Calls Try.prog 17 #[.int .i64 pe] w fun e w' => e = .returned (.bool false) ∧ w = w') :
    Calls Try.prog 9 #[.slice A n c, .agg #[.int .i64 en, .int .i64 pe, .int .i64 s]] w (RefSet w B l 1) := by
  have HO := Lib.hid h
  have hl : l.length = n := by have := h.1; rw [trios_len] at this; omega
  subst hl
  clear h
  go_enter Try.func9, Try.ntmps9
  go_wp2_with fail
  refine (kv _).mono ?_
  rintro e w1 ⟨rfl, rfl⟩
  go_wp2_with fail
  go_ret2
  exact ⟨A, c, rfl, own_kept HO.out fun q hq _ => Below.heap_alloc _ _ _ hq, (Below.refl _ _).alloc (Nat.le_refl _) _⟩
set_option maxRecDepth 100000 in
set_option maxHeartbeats 1000000 in
theorem refSet_s0 (l : List Trio) (en pe s : Int) (A : Option Addr) (n c B : Nat) (w : World) (h : w.ownsRow B 50 3 (.slice A n c) n (trios l)) (h1 : ¬ en < 1) (h2 : ¬ 9 < en) (kv : ∀ w, Calls Try.prog 17 #[.int .i64 pe] w fun e w' => e = .returned (.bool true) ∧ w = w') (h3 : s < 0) :
    Calls Try.prog 9 #[.slice A n c, .agg #[.int .i64 en, .int .i64 pe, .int .i64 s]] w (RefSet w B l 1) := by
  have HO := Lib.hid h
  have hl : l.length = n := by have := h.1; rw [trios_len] at this; omega
  subst hl
  clear h
  go_enter Try.func9, Try.ntmps9
  go_wp2_with fail
  refine (kv _).mono ?_
  rintro e w1 ⟨rfl, rfl⟩
  go_wp2_with fail
  go_ret2
  exact ⟨A, c, rfl, own_kept HO.out fun q hq _ => Below.heap_alloc _ _ _ hq, (Below.refl _ _).alloc (Nat.le_refl _) _⟩
set_option maxRecDepth 100000 in
set_option maxHeartbeats 1000000 in
theorem refSet_s2 (l : List Trio) (en pe s : Int) (A : Option Addr) (n c B : Nat) (w : World) (h : w.ownsRow B 50 3 (.slice A n c) n (trios l)) (h1 : ¬ en < 1) (h2 : ¬ 9 < en) (kv : ∀ w, Calls Try.prog 17 #[.int .i64 pe] w fun e w' => e = .returned (.bool true) ∧ w = w') (h3 : ¬ s < 0) (h4 : 2 < s) :
    Calls Try.prog 9 #[.slice A n c, .agg #[.int .i64 en, .int .i64 pe, .int .i64 s]] w (RefSet w B l 1) := by
  have HO := Lib.hid h
  have hl : l.length = n := by have := h.1; rw [trios_len] at this; omega
  subst hl
  clear h
  go_enter Try.func9, Try.ntmps9
  go_wp2_with fail
  refine (kv _).mono ?_
  rintro e w1 ⟨rfl, rfl⟩
  go_wp2_with fail
  go_ret2
  exact ⟨A, c, rfl, own_kept HO.out fun q hq _ => Below.heap_alloc _ _ _ hq, (Below.refl _ _).alloc (Nat.le_refl _) _⟩
set_option maxRecDepth 100000 in
set_option maxHeartbeats 1000000 in
theorem refSet_locked (l : List Trio) (en pe s st : Int) (A : Option Addr) (n c B : Nat) (w : World) (h : w.ownsRow B 50 3 (.slice A n c) n (trios l)) (h1 : ¬ en < 1) (h2 : ¬ 9 < en) (kv : ∀ w, Calls Try.prog 17 #[.int .i64 pe] w fun e w' => e = .returned (.bool true) ∧ w = w') (h3 : ¬ s < 0) (h4 : ¬ 2 < s) (ks : ∀ W, Below w.heap.size w W → Calls Try.prog 13 #[.slice A n c, .int .i64 en, .int .i64 pe] W fun e w' => e = .returned (.int .i64 st) ∧ W = w') (hs : st = 2) :
    Calls Try.prog 9 #[.slice A n c, .agg #[.int .i64 en, .int .i64 pe, .int .i64 s]] w (RefSet w B l 11) := by
  have HO := Lib.hid h
  have KS := Lib.hid ks
  have hl : l.length = n := by have := h.1; rw [trios_len] at this; omega
  subst hl
  subst hs
  clear h ks
  go_enter Try.func9, Try.ntmps9
  go_wp2_with fail
  refine (kv _).mono ?_
  rintro e w1 ⟨rfl, rfl⟩
  go_wp2_with fail
  refine (KS.out _ ((Below.refl _ _).alloc (Nat.le_refl _) _)).mono ?_
  rintro e w1 ⟨rfl, rfl⟩
  go_wp2_with fail
  go_ret2
  exact ⟨A, c, rfl, own_kept HO.out fun q hq _ => Below.heap_alloc _ _ _ hq, (Below.refl _ _).alloc (Nat.le_refl _) _⟩
set_option maxRecDepth 100000 in
set_option maxHeartbeats 1000000 in
theorem refSet_early (l : List Trio) (en pe s st : Int) (A : Option Addr) (n c B : Nat) (w : World) (h : w.ownsRow B 50 3 (.slice A n c) n (trios l)) (h1 : ¬ en < 1) (h2 : ¬ 9 < en) (kv : ∀ w, Calls Try.prog 17 #[.int .i64 pe] w fun e w' => e = .returned (.bool true) ∧ w = w') (h3 : ¬ s < 0) (h4 : ¬ 2 < s) (ks : ∀ W, Below w.heap.size w W → Calls Try.prog 13 #[.slice A n c, .int .i64 en, .int .i64 pe] W fun e w' => e = .returned (.int .i64 st) ∧ W = w') (hs : ¬ st = 2) (hs2 : s = 2) (hs3 : ¬ st = 1) :
    Calls Try.prog 9 #[.slice A n c, .agg #[.int .i64 en, .int .i64 pe, .int .i64 s]] w (RefSet w B l 11) := by
  have HO := Lib.hid h
  have KS := Lib.hid ks
  have hl : l.length = n := by have := h.1; rw [trios_len] at this; omega
  subst hl
  subst hs2
  have t1 : (st == 2) = false := by simp [hs]
  have t2 : (st != 1) = true := by simp [hs3]
  clear h ks
  go_enter Try.func9, Try.ntmps9
  go_wp2_with fail
  refine (kv _).mono ?_
  rintro e w1 ⟨rfl, rfl⟩
  go_wp2_with fail
  refine (KS.out _ ((Below.refl _ _).alloc (Nat.le_refl _) _)).mono ?_
  rintro e w1 ⟨rfl, rfl⟩
  go_wp2_with fail
  go_ret2
  exact ⟨A, c, rfl, own_kept HO.out fun q hq _ => Below.heap_alloc _ _ _ hq, (Below.refl _ _).alloc (Nat.le_refl _) _⟩
end Go.Proofs.Ytgoekobolomppaa
