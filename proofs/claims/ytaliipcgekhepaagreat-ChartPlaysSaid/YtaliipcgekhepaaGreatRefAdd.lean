/-
  Contract of the reference's AddAccount.
-/
import Derived.Test.YtaliipcgekhepaaGreatMany6
import Derived.Test.YtaliipcgekhepaaGreatChartSort
namespace Go.Proofs.YtaliipcgekhepaaGreat
open Go.RowKit

/-- What AddAccount answers: the list itself, or one of its own. -/
def RefAdded (w : World) (B : Nat) (rv : Value) (l : List Acc) (E : Int) (e : Ending) (w' : World) : Prop :=
  ∃ A c, e = .returned (.tuple #[.slice A l.length c, .int .i64 E]) ∧ w'.ownsRow B 34 3 (.slice A l.length c) l.length (accs l) ∧ (∀ k, (Value.slice A l.length c).ownBlock = some k → rv.ownBlock = some k ∨ w.heap.size ≤ k) ∧ Below w.heap.size w w'

theorem posn_step {l : List Acc} {x : Int} {j : Nat} {a : Acc} (hj : j ≤ posn l x) (ha : l[j]? = some a) : (a.code < x → j + 1 ≤ posn l x) ∧ (¬ a.code < x → j = posn l x) := by
  rcases Nat.lt_or_ge j (posn l x) with h | h
  · have := posn_lt l x j a h ha
    exact ⟨fun _ => h, fun h2 => absurd this h2⟩
  · obtain rfl : j = posn l x := by omega
    have := posn_at l x a ha
    exact ⟨fun h2 => by omega, fun _ => rfl⟩

set_option maxRecDepth 100000 in
set_option maxHeartbeats 1000000 in
theorem refAdd_bad (l : List Acc) (x k : Int) (r : Bool) (A : Option Addr) (n c B : Nat) (w : World) (h : w.ownsRow B 34 3 (.slice A n c) n (accs l)) (ho : okRow x k = false) :
    Calls Tryz.prog 7 #[.slice A n c, .agg #[.int .i64 x, .int .i64 k, .bool r]] w (RefAdded w B (.slice A n c) l 1) := by
  have hl : l.length = n := by have := h.1; rw [accs_len] at this; omega
  subst hl
  have kr := fun w => refRow_any x k w
  rw [ho] at kr
  have HO := Lib.hid h
  clear h ho
  go_enter Tryz.func7, Tryz.ntmps7
  go_wp2_with fail
  refine (kr _).mono ?_
  rintro e w1 ⟨rfl, rfl⟩
  go_wp2
  go_ret2
  exact ⟨A, c, rfl, own_kept HO.out fun q hq _ => Below.heap_alloc _ _ _ hq, fun _ hk => .inl hk, (Below.refl _ _).alloc (Nat.le_refl _) _⟩

set_option maxRecDepth 100000 in
set_option maxHeartbeats 1000000 in
theorem refAdd_dup (l : List Acc) (x k : Int) (r : Bool) (A : Option Addr) (n c B : Nat) (w : World) (h : w.ownsRow B 34 3 (.slice A n c) n (accs l)) (hn : n ≤ 1000000) (hs : l.Pairwise fun a b => a.code < b.code) (ho : okRow x k = true) (hf : (findA l x).isSome = true) :
    Calls Tryz.prog 7 #[.slice A n c, .agg #[.int .i64 x, .int .i64 k, .bool r]] w (RefAdded w B (.slice A n c) l 7) := by
  have hl : l.length = n := by have := h.1; rw [accs_len] at this; omega
  have HL := Lib.hid hl
  have kr := fun w => refRow_any x k w
  rw [ho] at kr
  have HO := Lib.hid h
  have HP := Lib.hid (posn_le l x)
  obtain ⟨a0, hfa⟩ : ∃ a0, findA l x = some a0 := by
    cases hq : findA l x with
    | none => rw [hq] at hf; cases hf
    | some a => exact ⟨a, rfl⟩
  have HAT := Lib.hid (find_some_at hs hfa)
  have HR := Lib.hid ((rd_of_own h).below (Below.mono (B := w.heap.size) ((Below.refl _ w).alloc (Nat.le_refl _) (.cells #[.int .i64 x, .int .i64 k, .bool r] 34)) (Nat.le_refl _)))
  clear h ho hf hfa hs hl
  go_enter Tryz.func7, Tryz.ntmps7
  go_wp2_with fail
  refine (kr _).mono ?_
  rintro e w1 ⟨rfl, rfl⟩
  go_wp2_with fail
  go_loopw [6] (fun iv wr => ∃ j : Nat, Hid (j ≤ posn l x) ∧ iv = .int .i64 j ∧ Drew (w.alloc (.cells #[.int .i64 x, .int .i64 k, .bool r] 34)) wr) (fun iv _ => n - (intOf iv).toNat)
  case atStart => exact ⟨0, Nat.zero_le _, rfl, Drew.refl _⟩
  case round =>
    obtain ⟨j, hj, rfl, q, rfl⟩ := hrel
    have hpn : posn l x < n := by have := (List.getElem?_eq_some_iff.1 HAT.out.1).1; have := HL.out; omega
    have hlt : j < n := by have := hj.out; omega
    obtain ⟨ad, a, rfl, hb1, hx, p1, p2, p3⟩ := HR.out.acc hlt
    have HST := Lib.hid (posn_step hj.out hx)
    have hjn : (j : Int) < (n : Int) := by omega
    have HX := Lib.hid hx
    clear hx p2 p3
    obtain ⟨x1, x2, x3⟩ := a
    by_cases hc : x1 < x
    · have hd : decide (x1 < x) = true := by simp [hc]
      go_wp2_with fail
      go_big_quiet (fail)
      go_wp2
      exact ⟨⟨j + 1, HST.out.1 hc, by go_num, Drew.add _ _⟩, by simp [intOf]; omega⟩
    · have hd : decide (x1 < x) = false := by simp [hc]
      have HJE := Lib.hid (HST.out.2 hc)
      have hxx : x1 = x := by
        have h1 := HAT.out
        rw [← HJE.out, HX.out] at h1
        obtain ⟨h2, h3⟩ := h1
        injection h2 with h2
        rw [← h2] at h3; exact h3
      subst hxx
      have he : (x1 == x1) = true := by simp
      go_wp2_with fail
      go_big_quiet (fail)
      go_wp2_with fail
      go_big_quiet (fail)
      go_wp2
      go_ret2
      have hlen := HL.out
      subst hlen
      refine ⟨some ad, c, rfl, own_kept HO.out fun q hq _ => ?_, fun _ hk => .inl hk, ?_⟩
      · exact Below.heap_alloc _ _ _ hq
      · exact below_drewN (below_drewN (below_drewN ((Below.refl _ _).alloc (Nat.le_refl _) _) _) _) _

/-- The three appends of AddAccount, the new row's block made behind the first one. -/
theorem addRuns_x {W : World} {B p n c ct : Nat} {A T : Option Addr} {l m : List Acc} (a : Acc) (h1 : Rd W B 3 A p (accs l)) (h2 : Rd W B 3 T (n - p) (accs m)) (hB : B ≤ W.heap.size) (hp : p ≤ n) (hn : n ≤ 1000000) :
    ∃ A1 c1 w1 A2 c2 w2 A3 c3 w3, (Builtin.append_ #[22, 22] 22 #[.slice none 0 0, .slice A p c]).run Tryz.prog W = .ok (.slice A1 p c1) w1 ∧
      (Builtin.append_ #[22, 22] 22 #[.slice A1 p c1, .slice (some ⟨w1.heap.size, 0, none⟩) 1 1]).run Tryz.prog (w1.alloc (.cells #[.int .i64 a.code, .int .i64 a.kind, .bool a.ret] 34)) = .ok (.slice A2 (p + 1) c2) w2 ∧
      (Builtin.append_ #[22, 22] 22 #[.slice A2 (p + 1) c2, .slice T (n - p) ct]).run Tryz.prog w2 = .ok (.slice A3 (n + 1) c3) w3 ∧
      w3.ownsRow W.heap.size 34 3 (.slice A3 (n + 1) c3) (n + 1) (accs (l ++ a :: m)) ∧ Below W.heap.size W w3 ∧ Below W.heap.size W w1 := by
  obtain ⟨v1, w1, r1, o1, g1, _⟩ := append_fresh (P := Tryz.prog) (ty := 22) (c := c) infoAcc Tryz.underlying22 rfl (by omega) W.heap.size (.slice none 0 0) 0 [] (World.ownsRow_nil _ _ _ _) h1 (accs_one _) (by unfold maxLen; omega) (by omega) (Nat.le_refl _)
  have b1 : Below W.heap.size W w1 := (Below.refl _ _).grown g1 (Nat.le_refl _) (fun k h => by cases h)
  rw [Nat.zero_add, List.nil_append] at o1
  have z1 := b1.size
  have o1' : (w1.alloc (.cells #[.int .i64 a.code, .int .i64 a.kind, .bool a.ret] 34)).ownsRow W.heap.size 34 3 v1 p (accs l) := own_kept o1 fun q hq _ => Below.heap_alloc _ _ _ hq
  have hr : Rd (w1.alloc (.cells #[.int .i64 a.code, .int .i64 a.kind, .bool a.ret] 34)) (w1.heap.size + 1) 3 (some ⟨w1.heap.size, 0, none⟩) 1 (accs [a]) := ⟨rfl, fun _ => ⟨_, rfl, by simp, cells_new w1 a.cells _⟩⟩
  obtain ⟨v2, w2, r2, o2, g2, _⟩ := append_fresh (P := Tryz.prog) (ty := 22) (c := 1) infoAcc Tryz.underlying22 rfl (by omega) W.heap.size v1 p _ o1' hr (accs_one _) (by unfold maxLen; omega) (by omega) (by simp; omega)
  have b2 : Below W.heap.size W w2 := (b1.alloc z1 _).grown g2 (by simp; omega) (own_ge o1)
  have z2 := b2.size
  obtain ⟨v3, w3, r3, o3, g3, _⟩ := append_fresh (P := Tryz.prog) (ty := 22) (c := ct) infoAcc Tryz.underlying22 rfl (by omega) W.heap.size v2 (p + 1) _ o2 (h2.below (b2.mono hB)) (accs_one _) (by unfold maxLen; omega) (by omega) z2
  have b3 : Below W.heap.size W w3 := b2.grown g3 z2 (own_ge o2)
  rw [show p + 1 + (n - p) = n + 1 by omega, ← accs_append, ← accs_append, List.append_assoc] at o3
  obtain ⟨A1, c1, rfl⟩ := own_form o1
  obtain ⟨A2, c2, rfl⟩ := own_form o2
  obtain ⟨A3, c3, rfl⟩ := own_form o3
  exact ⟨A1, c1, w1, A2, c2, w2, A3, c3, w3, r1, r2, r3, o3, b3, b1⟩
/-- The same, the new row's block made ahead of them. -/
theorem addRuns_y {W : World} {B p n c ct : Nat} {A T : Option Addr} {l m : List Acc} (a : Acc) (h1 : Rd W B 3 A p (accs l)) (h2 : Rd W B 3 T (n - p) (accs m)) (hB : B ≤ W.heap.size) (hp : p ≤ n) (hn : n ≤ 1000000) :
    ∃ A1 c1 w1 A2 c2 w2 A3 c3 w3, (Builtin.append_ #[22, 22] 22 #[.slice none 0 0, .slice A p c]).run Tryz.prog (W.alloc (.cells #[.int .i64 a.code, .int .i64 a.kind, .bool a.ret] 34)) = .ok (.slice A1 p c1) w1 ∧
      (Builtin.append_ #[22, 22] 22 #[.slice A1 p c1, .slice (some ⟨W.heap.size, 0, none⟩) 1 1]).run Tryz.prog w1 = .ok (.slice A2 (p + 1) c2) w2 ∧
      (Builtin.append_ #[22, 22] 22 #[.slice A2 (p + 1) c2, .slice T (n - p) ct]).run Tryz.prog w2 = .ok (.slice A3 (n + 1) c3) w3 ∧
      w3.ownsRow W.heap.size 34 3 (.slice A3 (n + 1) c3) (n + 1) (accs (l ++ a :: m)) ∧ Below W.heap.size W w3 := by
  have b0 : Below W.heap.size W (W.alloc (.cells #[.int .i64 a.code, .int .i64 a.kind, .bool a.ret] 34)) := (Below.refl _ _).alloc (Nat.le_refl _) _
  obtain ⟨v1, w1, r1, o1, g1, _⟩ := append_fresh (P := Tryz.prog) (w := W.alloc (.cells #[.int .i64 a.code, .int .i64 a.kind, .bool a.ret] 34)) (ty := 22) (c := c) infoAcc Tryz.underlying22 rfl (by omega) (W.heap.size + 1) (.slice none 0 0) 0 [] (World.ownsRow_nil _ _ _ _) (h1.below (b0.mono hB)) (accs_one _) (by unfold maxLen; omega) (by omega) (by simp)
  have b1' : Below (W.heap.size + 1) (W.alloc (.cells #[.int .i64 a.code, .int .i64 a.kind, .bool a.ret] 34)) w1 := (Below.refl _ _).grown g1 (by simp) (fun k h => by cases h)
  have b1 : Below W.heap.size W w1 := b0.trans (b1'.mono (by omega))
  rw [Nat.zero_add, List.nil_append] at o1
  have z1 := b1.size
  have z1' : W.heap.size + 1 ≤ w1.heap.size := by have := b1'.size; simpa using this
  have hr0 : Rd (W.alloc (.cells #[.int .i64 a.code, .int .i64 a.kind, .bool a.ret] 34)) (W.heap.size + 1) 3 (some ⟨W.heap.size, 0, none⟩) 1 (accs [a]) := ⟨rfl, fun _ => ⟨_, rfl, by simp, cells_new W a.cells _⟩⟩
  obtain ⟨v2, w2, r2, o2, g2, _⟩ := append_fresh (P := Tryz.prog) (ty := 22) (c := 1) infoAcc Tryz.underlying22 rfl (by omega) (W.heap.size + 1) v1 p _ o1 (hr0.below b1') (accs_one _) (by unfold maxLen; omega) (by omega) z1'
  have b2 : Below W.heap.size W w2 := b1.grown g2 z1 (fun k hk => by have := own_ge o1 k hk; omega)
  have z2 := b2.size
  have z2' : W.heap.size + 1 ≤ w2.heap.size := Nat.le_trans z1' g2.size
  obtain ⟨v3, w3, r3, o3, g3, _⟩ := append_fresh (P := Tryz.prog) (ty := 22) (c := ct) infoAcc Tryz.underlying22 rfl (by omega) (W.heap.size + 1) v2 (p + 1) _ o2 (h2.below (b2.mono hB)) (accs_one _) (by unfold maxLen; omega) (by omega) z2'
  have b3 : Below W.heap.size W w3 := b2.grown g3 z2 (fun k hk => by have := own_ge o2 k hk; omega)
  rw [show p + 1 + (n - p) = n + 1 by omega, ← accs_append, ← accs_append, List.append_assoc] at o3
  obtain ⟨A1, c1, rfl⟩ := own_form o1
  obtain ⟨A2, c2, rfl⟩ := own_form o2
  obtain ⟨A3, c3, rfl⟩ := own_form o3
  exact ⟨A1, c1, w1, A2, c2, w2, A3, c3, w3, r1, r2, r3, own_base o3 (by omega), b3⟩
end Go.Proofs.YtaliipcgekhepaaGreat
