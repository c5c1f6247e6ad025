/-
  Several texts, one behind the other: what each holds stands ahead of it.
-/
import Derived.Test.YtjlokkjbdgcooaaGreatMany30

/-
  Accounts in whatever order make one chart; how many of each kind there are. No code.
-/
namespace Go.Proofs.YtjlokkjbdgcooaaGreat
open Go.RowKit

theorem insA_perm (l : List Acc) (a : Acc) : (insA l a).Perm (a :: l) := by
  unfold insA
  have := (List.perm_middle (a := a) (l₁ := l.take (posn l a.code)) (l₂ := l.drop (posn l a.code)))
  rwa [List.take_append_drop] at this
theorem addE_zero {l : List Acc} {a : Acc} : addE l a = 0 ↔ okRow a.code a.kind = true ∧ ∀ b ∈ l, b.code ≠ a.code := by
  constructor
  · intro h
    obtain ⟨h1, h2⟩ := addE_ok h
    exact ⟨h1, find_none_memCh h2⟩
  · rintro ⟨h1, h2⟩
    have : findA l a.code = none := by
      unfold findA
      rw [List.find?_eq_none]
      intro b hb
      simpa using h2 b hb
    simp [addE, h1, this]
theorem newR_zero : ∀ (xs l : List Acc), (newR l xs).2 = 0 ↔ (∀ a ∈ xs, okRow a.code a.kind = true) ∧ xs.Pairwise (fun a b => a.code ≠ b.code) ∧ ∀ a ∈ xs, ∀ b ∈ l, b.code ≠ a.code
  | [], l => by simp [newR]
  | a :: xs, l => by
    rw [newR]
    by_cases h : addE l a = 0
    · rw [if_pos h, newR_zero xs]
      obtain ⟨h1, h2⟩ := addE_zero.1 h
      rw [List.pairwise_cons]
      constructor
      · rintro ⟨h3, h4, h5⟩
        refine ⟨fun b hb => ?_, ⟨fun b hb => ?_, h4⟩, fun b hb c hc => ?_⟩
        · rcases List.mem_cons.1 hb with rfl | hb
          · exact h1
          · exact h3 b hb
        · exact h5 b hb a ((insA_perm l a).mem_iff.2 (by simp))
        · rcases List.mem_cons.1 hb with rfl | hb
          · exact h2 c hc
          · exact h5 b hb c ((insA_perm l a).mem_iff.2 (by simp [hc]))
      · rintro ⟨h3, ⟨h4, h5⟩, h6⟩
        refine ⟨fun b hb => h3 b (by simp [hb]), h5, fun b hb c hc => ?_⟩
        rcases List.mem_cons.1 ((insA_perm l a).mem_iff.1 hc) with rfl | hc
        · exact h4 b hb
        · exact h6 b (by simp [hb]) c hc
    · rw [if_neg h]
      constructor
      · intro h1; exact absurd h1 h
      · rintro ⟨h3, _, h6⟩
        exact absurd (addE_zero.2 ⟨h3 a (by simp), fun b hb => h6 a (by simp) b hb⟩) h
theorem newR_perm : ∀ (xs l : List Acc), (newR l xs).2 = 0 → (newR l xs).1.Perm (l ++ xs)
  | [], l, _ => by simp [newR]
  | a :: xs, l, h => by
    rw [newR] at h ⊢
    by_cases h0 : addE l a = 0
    · rw [if_pos h0] at h ⊢
      refine (newR_perm xs _ h).trans ?_
      refine ((insA_perm l a).append_right xs).trans ?_
      rw [List.cons_append]
      exact List.perm_middle.symm
    · rw [if_neg h0] at h; exact absurd h h0
theorem newE_zero (xs : List Acc) : newE xs = 0 ↔ (∀ a ∈ xs, okRow a.code a.kind = true) ∧ xs.Pairwise (fun a b => a.code ≠ b.code) := by
  unfold newE
  rw [newR_zero]
  simp
theorem newE_perm {xs ys : List Acc} (h : xs.Perm ys) : newE xs = 0 ↔ newE ys = 0 := by
  rw [newE_zero, newE_zero]
  constructor
  · rintro ⟨h1, h2⟩
    exact ⟨fun a ha => h1 a (h.mem_iff.2 ha), h2.perm h (fun h => h.symm)⟩
  · rintro ⟨h1, h2⟩
    exact ⟨fun a ha => h1 a (h.mem_iff.1 ha), h2.perm h.symm (fun h => h.symm)⟩
theorem newL_perm {xs : List Acc} (h : newE xs = 0) : (newL xs).Perm xs := by
  have := newR_perm xs [] h
  simpa [newL] using this
theorem newL_same {xs ys : List Acc} (h : xs.Perm ys) (hx : newE xs = 0) : newL xs = newL ys := by
  have hy := (newE_perm h).1 hx
  refine List.Perm.eq_of_pairwise (le := fun a b => a.code < b.code) ?_ (newL_good xs).1 (newL_good ys).1 ((newL_perm hx).trans (h.trans (newL_perm hy).symm))
  intro a b _ _ h1 h2
  exact absurd h1 (by omega)
theorem turn_perm (l : List Acc) (k : Nat) : l.Perm (l.drop k ++ l.take k) := by
  have := List.perm_append_comm (l₁ := l.take k) (l₂ := l.drop k)
  rwa [List.take_append_drop] at this
/-- How many there are of kinds 1 to j. -/
def kindN (l : List Acc) (j : Nat) : Nat := (l.filter fun a => decide (a.kind ≤ (j : Int))).length
theorem kindN_zero {l : List Acc} (h : ∀ a ∈ l, 1 ≤ a.kind) : kindN l 0 = 0 := by
  unfold kindN
  rw [List.length_eq_zero_iff, List.filter_eq_nil_iff]
  intro a ha
  have := h a ha
  simp; omega
theorem kindN_five {l : List Acc} (h : ∀ a ∈ l, a.kind ≤ 5) : kindN l 5 = l.length := by
  unfold kindN
  rw [List.filter_eq_self.2]
  intro a ha
  have := h a ha
  simp; omega
theorem kindN_succ : ∀ (l : List Acc) (j : Nat), kindN l (j + 1) = kindN l j + (kindL l [((j + 1 : Nat) : Int)]).length
  | [], j => rfl
  | a :: l, j => by
    have ih := kindN_succ l j
    unfold kindN kindL at *
    rw [List.length_map] at *
    simp only [List.filter_cons]
    rcases Int.lt_trichotomy a.kind ((j + 1 : Nat) : Int) with h | h | h
    · have h1 : decide (a.kind ≤ ((j + 1 : Nat) : Int)) = true := by simp; omega
      have h2 : decide (a.kind ≤ (j : Int)) = true := by simp; omega
      have h3 : [((j + 1 : Nat) : Int)].contains a.kind = false := by simp; omega
      rw [h1, h2, h3]
      simp only [if_true, List.length_cons, ih, Bool.false_eq_true, if_false]
      omega
    · have h1 : decide (a.kind ≤ ((j + 1 : Nat) : Int)) = true := by simp; omega
      have h2 : decide (a.kind ≤ (j : Int)) = false := by simp; omega
      have h3 : [((j + 1 : Nat) : Int)].contains a.kind = true := by simp; omega
      rw [h1, h2, h3]
      simp only [if_true, List.length_cons, ih, Bool.false_eq_true, if_false]
      omega
    · have h1 : decide (a.kind ≤ ((j + 1 : Nat) : Int)) = false := by simp; omega
      have h2 : decide (a.kind ≤ (j : Int)) = false := by simp; omega
      have h3 : [((j + 1 : Nat) : Int)].contains a.kind = false := by simp; omega
      rw [h1, h2, h3]
      simp only [ih, Bool.false_eq_true, if_false]
theorem kindL_none (l : List Acc) : kindL l [] = [] := by unfold kindL; simp
theorem kindL_all {l : List Acc} (h : ∀ a ∈ l, 1 ≤ a.kind ∧ a.kind ≤ 5) : (kindL l [1, 2, 3, 4, 5]).length = l.length := by
  unfold kindL
  rw [List.length_map, List.filter_eq_self.2]
  intro a ha
  have := h a ha
  simp; omega
/-- A slice's tail, of whatever elements. -/
theorem Rd.dropS {w : World} {B size n k : Nat} {ad : Addr} {xs : List Value} (h : Rd w B size (some ad) n xs) (hk : k < n) : Rd w B size (some (ad.add (k * size))) (n - k) (xs.drop (k * size)) := by
  have hl := h.1
  refine ⟨by rw [List.length_drop, hl, Nat.sub_mul], fun _ => ?_⟩
  obtain ⟨a2, e, hb, hc⟩ := h.2 (by omega)
  injection e with e
  subst e
  refine ⟨_, rfl, by rw [add_block]; exact hb, fun j u hu => ?_⟩
  rw [add_add]
  refine hc _ u ?_
  rw [← hu, List.getElem?_drop]
theorem Rd.takeS {w : World} {B size n k : Nat} {A : Option Addr} {xs : List Value} (h : Rd w B size A n xs) (hk : k ≤ n) : Rd w B size A k (xs.take (k * size)) := by
  have hl := h.1
  refine ⟨by rw [List.length_take, hl]; exact Nat.min_eq_left (Nat.mul_le_mul_right _ hk), fun h0 => ?_⟩
  obtain ⟨a2, e, hb, hc⟩ := h.2 (by omega)
  refine ⟨a2, e, hb, fun j u hu => hc j u ?_⟩
  rw [List.getElem?_take] at hu
  split at hu
  · exact hu
  · cases hu
end Go.Proofs.YtjlokkjbdgcooaaGreat

/-
  Contract of the reference's AddAccount.
-/
namespace Go.Proofs.YtjlokkjbdgcooaaGreat
open Go.RowKit

/-- What AddAccount answers: the list itself, or one of its own. -/
def RefAdded (w : World) (B : Nat) (rv : Value) (l : List Acc) (E : Int) (e : Ending) (w' : World) : Prop :=
  ∃ A c, e = .returned (.tuple #[.slice A l.length c, .int .i64 E]) ∧ w'.ownsRow B 165 3 (.slice A l.length c) l.length (accs l) ∧ (∀ k, (Value.slice A l.length c).ownBlock = some k → rv.ownBlock = some k ∨ w.heap.size ≤ k) ∧ Below w.heap.size w w'

theorem posn_step {l : List Acc} {x : Int} {j : Nat} {a : Acc} (hj : j ≤ posn l x) (ha : l[j]? = some a) : (a.code < x → j + 1 ≤ posn l x) ∧ (¬ a.code < x → j = posn l x) := by
  rcases Nat.lt_or_ge j (posn l x) with h | h
  · have := posn_lt l x j a h ha
    exact ⟨fun _ => h, fun h2 => absurd this h2⟩
  · obtain rfl : j = posn l x := by omega
    have := posn_at l x a ha
    exact ⟨fun h2 => by omega, fun _ => rfl⟩

set_option maxRecDepth 100000 in
set_option maxHeartbeats 1000000 in
theorem refAdd_bad (l : List Acc) (x k : Int) (r : Bool) (A : Option Addr) (n c B : Nat) (w : World) (h : w.ownsRow B 165 3 (.slice A n c) n (accs l)) (ho : okRow x k = false) :
    Calls Tryz.prog 110 #[.slice A n c, .agg #[.int .i64 x, .int .i64 k, .bool r]] w (RefAdded w B (.slice A n c) l 1) := by
  have hl : l.length = n := by have := h.1; rw [accs_len] at this; omega
  subst hl
  have kr := fun w => refRow_any x k w
  rw [ho] at kr
  have HO := Lib.hid h
  clear h ho
  go_enter Tryz.func110, Tryz.ntmps110
  go_wp2_with fail
  refine (kr _).mono ?_
  rintro e w1 ⟨rfl, rfl⟩
  go_wp2
  go_ret2
  exact ⟨A, c, rfl, own_kept HO.out fun q hq _ => Below.heap_alloc _ _ _ hq, fun _ hk => .inl hk, (Below.refl _ _).alloc (Nat.le_refl _) _⟩

set_option maxRecDepth 100000 in
set_option maxHeartbeats 1000000 in
theorem refAdd_dup (l : List Acc) (x k : Int) (r : Bool) (A : Option Addr) (n c B : Nat) (w : World) (h : w.ownsRow B 165 3 (.slice A n c) n (accs l)) (hn : n ≤ 1000000) (hs : l.Pairwise fun a b => a.code < b.code) (ho : okRow x k = true) (hf : (findA l x).isSome = true) :
    Calls Tryz.prog 110 #[.slice A n c, .agg #[.int .i64 x, .int .i64 k, .bool r]] w (RefAdded w B (.slice A n c) l 7) := by
  have hl : l.length = n := by have := h.1; rw [accs_len] at this; omega
  have HL := Lib.hid hl
  have kr := fun w => refRow_any x k w
  rw [ho] at kr
  have HO := Lib.hid h
  have HP := Lib.hid (posn_le l x)
  obtain ⟨a0, hfa⟩ : ∃ a0, findA l x = some a0 := by
    cases hq : findA l x with
    | none => rw [hq] at hf; cases hf
    | some a => exact ⟨a, rfl⟩
  have HAT := Lib.hid (find_some_atCh hs hfa)
  have HR := Lib.hid ((rd_of_own h).below (Below.mono (B := w.heap.size) ((Below.refl _ w).alloc (Nat.le_refl _) (.cells #[.int .i64 x, .int .i64 k, .bool r] 165)) (Nat.le_refl _)))
  clear h ho hf hfa hs hl
  go_enter Tryz.func110, Tryz.ntmps110
  go_wp2_with fail
  refine (kr _).mono ?_
  rintro e w1 ⟨rfl, rfl⟩
  go_wp2_with fail
  go_loopw [6] (fun iv wr => ∃ j : Nat, Hid (j ≤ posn l x) ∧ iv = .int .i64 j ∧ Drew (w.alloc (.cells #[.int .i64 x, .int .i64 k, .bool r] 165)) wr) (fun iv _ => n - (intOf iv).toNat)
  case atStart => exact ⟨0, Nat.zero_le _, rfl, Drew.refl _⟩
  case round =>
    obtain ⟨j, hj, rfl, q, rfl⟩ := hrel
    have hpn : posn l x < n := by have := (List.getElem?_eq_some_iff.1 HAT.out.1).1; have := HL.out; omega
    have hlt : j < n := by have := hj.out; omega
    obtain ⟨ad, a, rfl, hb1, hx, p1, p2, p3⟩ := HR.out.acc hlt
    have HST := Lib.hid (posn_step hj.out hx)
    have hjn : (j : Int) < (n : Int) := by omega
    have HX := Lib.hid hx
    clear hx p2 p3
    obtain ⟨x1, x2, x3⟩ := a
    by_cases hc : x1 < x
    · have hd : decide (x1 < x) = true := by simp [hc]
      go_wp2_with fail
      go_big_quiet (fail)
      go_wp2
      exact ⟨⟨j + 1, HST.out.1 hc, by go_num, Drew.add _ _⟩, by simp [intOf]; omega⟩
    · have hd : decide (x1 < x) = false := by simp [hc]
      have HJE := Lib.hid (HST.out.2 hc)
      have hxx : x1 = x := by
        have h1 := HAT.out
        rw [← HJE.out, HX.out] at h1
        obtain ⟨h2, h3⟩ := h1
        injection h2 with h2
        rw [← h2] at h3; exact h3
      subst hxx
      have he : (x1 == x1) = true := by simp
      go_wp2_with fail
      go_big_quiet (fail)
      go_wp2_with fail
      go_big_quiet (fail)
      go_wp2
      go_ret2
      have hlen := HL.out
      subst hlen
      refine ⟨some ad, c, rfl, own_kept HO.out fun q hq _ => ?_, fun _ hk => .inl hk, ?_⟩
      · exact Below.heap_alloc _ _ _ hq
      · exact below_drewN (below_drewN (below_drewN ((Below.refl _ _).alloc (Nat.le_refl _) _) _) _) _

/-- The three appends of AddAccount, the new row's block made behind the first one. -/
theorem addRuns_x {W : World} {B p n c ct : Nat} {A T : Option Addr} {l m : List Acc} (a : Acc) (h1 : Rd W B 3 A p (accs l)) (h2 : Rd W B 3 T (n - p) (accs m)) (hB : B ≤ W.heap.size) (hp : p ≤ n) (hn : n ≤ 1000000) :
    ∃ A1 c1 w1 A2 c2 w2 A3 c3 w3, (Builtin.append_ #[76, 76] 76 #[.slice none 0 0, .slice A p c]).run Tryz.prog W = .ok (.slice A1 p c1) w1 ∧
      (Builtin.append_ #[76, 76] 76 #[.slice A1 p c1, .slice (some ⟨w1.heap.size, 0, none⟩) 1 1]).run Tryz.prog (w1.alloc (.cells #[.int .i64 a.code, .int .i64 a.kind, .bool a.ret] 165)) = .ok (.slice A2 (p + 1) c2) w2 ∧
      (Builtin.append_ #[76, 76] 76 #[.slice A2 (p + 1) c2, .slice T (n - p) ct]).run Tryz.prog w2 = .ok (.slice A3 (n + 1) c3) w3 ∧
      w3.ownsRow W.heap.size 165 3 (.slice A3 (n + 1) c3) (n + 1) (accs (l ++ a :: m)) ∧ Below W.heap.size W w3 ∧ Below W.heap.size W w1 := by
  obtain ⟨v1, w1, r1, o1, g1, _⟩ := append_fresh (P := Tryz.prog) (ty := 76) (c := c) infoAcc Tryz.underlying76 rfl (by omega) W.heap.size (.slice none 0 0) 0 [] (World.ownsRow_nil _ _ _ _) h1 (accs_one _) (by unfold maxLen; omega) (by omega) (Nat.le_refl _)
  have b1 : Below W.heap.size W w1 := (Below.refl _ _).grown g1 (Nat.le_refl _) (fun k h => by cases h)
  rw [Nat.zero_add, List.nil_append] at o1
  have z1 := b1.size
  have o1' : (w1.alloc (.cells #[.int .i64 a.code, .int .i64 a.kind, .bool a.ret] 165)).ownsRow W.heap.size 165 3 v1 p (accs l) := own_kept o1 fun q hq _ => Below.heap_alloc _ _ _ hq
  have hr : Rd (w1.alloc (.cells #[.int .i64 a.code, .int .i64 a.kind, .bool a.ret] 165)) (w1.heap.size + 1) 3 (some ⟨w1.heap.size, 0, none⟩) 1 (accs [a]) := ⟨rfl, fun _ => ⟨_, rfl, by simp, cells_new w1 a.cells _⟩⟩
  obtain ⟨v2, w2, r2, o2, g2, _⟩ := append_fresh (P := Tryz.prog) (ty := 76) (c := 1) infoAcc Tryz.underlying76 rfl (by omega) W.heap.size v1 p _ o1' hr (accs_one _) (by unfold maxLen; omega) (by omega) (by simp; omega)
  have b2 : Below W.heap.size W w2 := (b1.alloc z1 _).grown g2 (by simp; omega) (own_ge o1)
  have z2 := b2.size
  obtain ⟨v3, w3, r3, o3, g3, _⟩ := append_fresh (P := Tryz.prog) (ty := 76) (c := ct) infoAcc Tryz.underlying76 rfl (by omega) W.heap.size v2 (p + 1) _ o2 (h2.below (b2.mono hB)) (accs_one _) (by unfold maxLen; omega) (by omega) z2
  have b3 : Below W.heap.size W w3 := b2.grown g3 z2 (own_ge o2)
  rw [show p + 1 + (n - p) = n + 1 by omega, ← accs_append, ← accs_append, List.append_assoc] at o3
  obtain ⟨A1, c1, rfl⟩ := own_form o1
  obtain ⟨A2, c2, rfl⟩ := own_form o2
  obtain ⟨A3, c3, rfl⟩ := own_form o3
  exact ⟨A1, c1, w1, A2, c2, w2, A3, c3, w3, r1, r2, r3, o3, b3, b1⟩
/-- The same, the new row's block made ahead of them. -/
theorem addRuns_y {W : World} {B p n c ct : Nat} {A T : Option Addr} {l m : List Acc} (a : Acc) (h1 : Rd W B 3 A p (accs l)) (h2 : Rd W B 3 T (n - p) (accs m)) (hB : B ≤ W.heap.size) (hp : p ≤ n) (hn : n ≤ 1000000) :
    ∃ A1 c1 w1 A2 c2 w2 A3 c3 w3, (Builtin.append_ #[76, 76] 76 #[.slice none 0 0, .slice A p c]).run Tryz.prog (W.alloc (.cells #[.int .i64 a.code, .int .i64 a.kind, .bool a.ret] 165)) = .ok (.slice A1 p c1) w1 ∧
      (Builtin.append_ #[76, 76] 76 #[.slice A1 p c1, .slice (some ⟨W.heap.size, 0, none⟩) 1 1]).run Tryz.prog w1 = .ok (.slice A2 (p + 1) c2) w2 ∧
      (Builtin.append_ #[76, 76] 76 #[.slice A2 (p + 1) c2, .slice T (n - p) ct]).run Tryz.prog w2 = .ok (.slice A3 (n + 1) c3) w3 ∧
      w3.ownsRow W.heap.size 165 3 (.slice A3 (n + 1) c3) (n + 1) (accs (l ++ a :: m)) ∧ Below W.heap.size W w3 := by
  have b0 : Below W.heap.size W (W.alloc (.cells #[.int .i64 a.code, .int .i64 a.kind, .bool a.ret] 165)) := (Below.refl _ _).alloc (Nat.le_refl _) _
  obtain ⟨v1, w1, r1, o1, g1, _⟩ := append_fresh (P := Tryz.prog) (w := W.alloc (.cells #[.int .i64 a.code, .int .i64 a.kind, .bool a.ret] 165)) (ty := 76) (c := c) infoAcc Tryz.underlying76 rfl (by omega) (W.heap.size + 1) (.slice none 0 0) 0 [] (World.ownsRow_nil _ _ _ _) (h1.below (b0.mono hB)) (accs_one _) (by unfold maxLen; omega) (by omega) (by simp)
  have b1' : Below (W.heap.size + 1) (W.alloc (.cells #[.int .i64 a.code, .int .i64 a.kind, .bool a.ret] 165)) w1 := (Below.refl _ _).grown g1 (by simp) (fun k h => by cases h)
  have b1 : Below W.heap.size W w1 := b0.trans (b1'.mono (by omega))
  rw [Nat.zero_add, List.nil_append] at o1
  have z1 := b1.size
  have z1' : W.heap.size + 1 ≤ w1.heap.size := by have := b1'.size; simpa using this
  have hr0 : Rd (W.alloc (.cells #[.int .i64 a.code, .int .i64 a.kind, .bool a.ret] 165)) (W.heap.size + 1) 3 (some ⟨W.heap.size, 0, none⟩) 1 (accs [a]) := ⟨rfl, fun _ => ⟨_, rfl, by simp, cells_new W a.cells _⟩⟩
  obtain ⟨v2, w2, r2, o2, g2, _⟩ := append_fresh (P := Tryz.prog) (ty := 76) (c := 1) infoAcc Tryz.underlying76 rfl (by omega) (W.heap.size + 1) v1 p _ o1 (hr0.below b1') (accs_one _) (by unfold maxLen; omega) (by omega) z1'
  have b2 : Below W.heap.size W w2 := b1.grown g2 z1 (fun k hk => by have := own_ge o1 k hk; omega)
  have z2 := b2.size
  have z2' : W.heap.size + 1 ≤ w2.heap.size := Nat.le_trans z1' g2.size
  obtain ⟨v3, w3, r3, o3, g3, _⟩ := append_fresh (P := Tryz.prog) (ty := 76) (c := ct) infoAcc Tryz.underlying76 rfl (by omega) (W.heap.size + 1) v2 (p + 1) _ o2 (h2.below (b2.mono hB)) (accs_one _) (by unfold maxLen; omega) (by omega) z2'
  have b3 : Below W.heap.size W w3 := b2.grown g3 z2 (fun k hk => by have := own_ge o2 k hk; omega)
  rw [show p + 1 + (n - p) = n + 1 by omega, ← accs_append, ← accs_append, List.append_assoc] at o3
  obtain ⟨A1, c1, rfl⟩ := own_form o1
  obtain ⟨A2, c2, rfl⟩ := own_form o2
  obtain ⟨A3, c3, rfl⟩ := own_form o3
  exact ⟨A1, c1, w1, A2, c2, w2, A3, c3, w3, r1, r2, r3, own_base o3 (by omega), b3⟩
end Go.Proofs.YtjlokkjbdgcooaaGreat
