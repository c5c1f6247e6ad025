/-
  'append(append(append(nil, l[:k]...), x), l[k:]...)', whatever the elements are: its three appends, in both orders of making x's block. Of no function.
-/
import Derived.Test.YtafloaabjinkfaaOwn
namespace Go.Proofs.Ytafloaabjinkfaa
open Go.RowKit

section
variable {P : Program} {t e : TypeId} {z : Value} {size bytes : Nat} {W : World} {B p n c ct : Nat} {A T : Option Addr} {xs ms cs : List Value}
/-- x's block made behind the first append. -/
theorem ins_x (h : (P.info? e).map (fun i => (i.zero, i.size, i.bytes)) = some (some z, size, bytes)) (ht : P.underlying t = some (.slice e)) (hzs : z.cells.size = size) (hsz : 0 < size) (hby : bytes ≤ 1000) (hcs : cs.length = size)
    (ox : ∀ u ∈ xs, u.oneCell' = true) (oc : ∀ u ∈ cs, u.oneCell' = true) (om : ∀ u ∈ ms, u.oneCell' = true) (h1 : Rd W B size A p xs) (h2 : Rd W B size T (n - p) ms) (hB : B ≤ W.heap.size) (hp : p ≤ n) (hn : n ≤ 1000000) :
    ∃ A1 c1 w1 A2 c2 w2 A3 c3 w3, (Builtin.append_ #[t, t] t #[.slice none 0 0, .slice A p c]).run P W = .ok (.slice A1 p c1) w1 ∧
      (Builtin.append_ #[t, t] t #[.slice A1 p c1, .slice (some ⟨w1.heap.size, 0, none⟩) 1 1]).run P (w1.alloc (.cells cs.toArray e)) = .ok (.slice A2 (p + 1) c2) w2 ∧
      (Builtin.append_ #[t, t] t #[.slice A2 (p + 1) c2, .slice T (n - p) ct]).run P w2 = .ok (.slice A3 (n + 1) c3) w3 ∧
      w3.ownsRow W.heap.size e size (.slice A3 (n + 1) c3) (n + 1) (xs ++ (cs ++ ms)) ∧ Below W.heap.size W w3 ∧ Below W.heap.size W w1 := by
  have hb1 : (0 + p) * bytes ≤ 140737488355328 := Nat.le_trans (Nat.mul_le_mul (show 0 + p ≤ 1000001 by omega) hby) (by omega)
  have hb2 : (p + 1) * bytes ≤ 140737488355328 := Nat.le_trans (Nat.mul_le_mul (show p + 1 ≤ 1000001 by omega) hby) (by omega)
  have hb3 : (p + 1 + (n - p)) * bytes ≤ 140737488355328 := Nat.le_trans (Nat.mul_le_mul (show p + 1 + (n - p) ≤ 1000001 by omega) hby) (by omega)
  obtain ⟨v1, w1, r1, o1, g1, _⟩ := append_fresh (P := P) (ty := t) (c := c) h ht hzs hsz W.heap.size (.slice none 0 0) 0 [] (World.ownsRow_nil _ _ _ _) h1 ox (by unfold maxLen; omega) hb1 (Nat.le_refl _)
  have b1 : Below W.heap.size W w1 := (Below.refl _ _).grown g1 (Nat.le_refl _) (fun k h => by cases h)
  rw [Nat.zero_add, List.nil_append] at o1
  have z1 := b1.size
  have o1' : (w1.alloc (.cells cs.toArray e)).ownsRow W.heap.size e size v1 p xs := own_kept o1 fun q hq _ => Below.heap_alloc _ _ _ hq
  have hr : Rd (w1.alloc (.cells cs.toArray e)) (w1.heap.size + 1) size (some ⟨w1.heap.size, 0, none⟩) 1 cs := ⟨by rw [hcs, Nat.one_mul], fun _ => ⟨_, rfl, by simp, cells_new w1 cs _⟩⟩
  obtain ⟨v2, w2, r2, o2, g2, _⟩ := append_fresh (P := P) (ty := t) (c := 1) h ht hzs hsz W.heap.size v1 p _ o1' hr oc (by unfold maxLen; omega) hb2 (by simp; omega)
  have b2 : Below W.heap.size W w2 := (b1.alloc z1 _).grown g2 (by simp; omega) (own_ge o1)
  have z2 := b2.size
  obtain ⟨v3, w3, r3, o3, g3, _⟩ := append_fresh (P := P) (ty := t) (c := ct) h ht hzs hsz W.heap.size v2 (p + 1) _ o2 (h2.below (b2.mono hB)) om (by unfold maxLen; omega) hb3 z2
  have b3 : Below W.heap.size W w3 := b2.grown g3 z2 (own_ge o2)
  rw [show p + 1 + (n - p) = n + 1 by omega, List.append_assoc] at o3
  obtain ⟨A1, c1, rfl⟩ := own_form o1
  obtain ⟨A2, c2, rfl⟩ := own_form o2
  obtain ⟨A3, c3, rfl⟩ := own_form o3
  exact ⟨A1, c1, w1, A2, c2, w2, A3, c3, w3, r1, r2, r3, o3, b3, b1⟩
/-- x's block made ahead of them. -/
theorem ins_y (h : (P.info? e).map (fun i => (i.zero, i.size, i.bytes)) = some (some z, size, bytes)) (ht : P.underlying t = some (.slice e)) (hzs : z.cells.size = size) (hsz : 0 < size) (hby : bytes ≤ 1000) (hcs : cs.length = size)
    (ox : ∀ u ∈ xs, u.oneCell' = true) (oc : ∀ u ∈ cs, u.oneCell' = true) (om : ∀ u ∈ ms, u.oneCell' = true) (h1 : Rd W B size A p xs) (h2 : Rd W B size T (n - p) ms) (hB : B ≤ W.heap.size) (hp : p ≤ n) (hn : n ≤ 1000000) :
    ∃ A1 c1 w1 A2 c2 w2 A3 c3 w3, (Builtin.append_ #[t, t] t #[.slice none 0 0, .slice A p c]).run P (W.alloc (.cells cs.toArray e)) = .ok (.slice A1 p c1) w1 ∧
      (Builtin.append_ #[t, t] t #[.slice A1 p c1, .slice (some ⟨W.heap.size, 0, none⟩) 1 1]).run P w1 = .ok (.slice A2 (p + 1) c2) w2 ∧
      (Builtin.append_ #[t, t] t #[.slice A2 (p + 1) c2, .slice T (n - p) ct]).run P w2 = .ok (.slice A3 (n + 1) c3) w3 ∧
      w3.ownsRow W.heap.size e size (.slice A3 (n + 1) c3) (n + 1) (xs ++ (cs ++ ms)) ∧ Below W.heap.size W w3 := by
  have hb1 : (0 + p) * bytes ≤ 140737488355328 := Nat.le_trans (Nat.mul_le_mul (show 0 + p ≤ 1000001 by omega) hby) (by omega)
  have hb2 : (p + 1) * bytes ≤ 140737488355328 := Nat.le_trans (Nat.mul_le_mul (show p + 1 ≤ 1000001 by omega) hby) (by omega)
  have hb3 : (p + 1 + (n - p)) * bytes ≤ 140737488355328 := Nat.le_trans (Nat.mul_le_mul (show p + 1 + (n - p) ≤ 1000001 by omega) hby) (by omega)
  have b0 : Below W.heap.size W (W.alloc (.cells cs.toArray e)) := (Below.refl _ _).alloc (Nat.le_refl _) _
  obtain ⟨v1, w1, r1, o1, g1, _⟩ := append_fresh (P := P) (w := W.alloc (.cells cs.toArray e)) (ty := t) (c := c) h ht hzs hsz (W.heap.size + 1) (.slice none 0 0) 0 [] (World.ownsRow_nil _ _ _ _) (h1.below (b0.mono hB)) ox (by unfold maxLen; omega) hb1 (by simp)
  have b1' : Below (W.heap.size + 1) (W.alloc (.cells cs.toArray e)) w1 := (Below.refl _ _).grown g1 (by simp) (fun k h => by cases h)
  have b1 : Below W.heap.size W w1 := b0.trans (b1'.mono (by omega))
  rw [Nat.zero_add, List.nil_append] at o1
  have z1 := b1.size
  have z1' : W.heap.size + 1 ≤ w1.heap.size := by have := b1'.size; simpa using this
  have hr0 : Rd (W.alloc (.cells cs.toArray e)) (W.heap.size + 1) size (some ⟨W.heap.size, 0, none⟩) 1 cs := ⟨by rw [hcs, Nat.one_mul], fun _ => ⟨_, rfl, by simp, cells_new W cs _⟩⟩
  obtain ⟨v2, w2, r2, o2, g2, _⟩ := append_fresh (P := P) (ty := t) (c := 1) h ht hzs hsz (W.heap.size + 1) v1 p _ o1 (hr0.below b1') oc (by unfold maxLen; omega) hb2 z1'
  have b2 : Below W.heap.size W w2 := b1.grown g2 z1 (fun k hk => by have := own_ge o1 k hk; omega)
  have z2 := b2.size
  have z2' : W.heap.size + 1 ≤ w2.heap.size := Nat.le_trans z1' g2.size
  obtain ⟨v3, w3, r3, o3, g3, _⟩ := append_fresh (P := P) (ty := t) (c := ct) h ht hzs hsz (W.heap.size + 1) v2 (p + 1) _ o2 (h2.below (b2.mono hB)) om (by unfold maxLen; omega) hb3 z2'
  have b3 : Below W.heap.size W w3 := b2.grown g3 z2 (fun k hk => by have := own_ge o2 k hk; omega)
  rw [show p + 1 + (n - p) = n + 1 by omega, List.append_assoc] at o3
  obtain ⟨A1, c1, rfl⟩ := own_form o1
  obtain ⟨A2, c2, rfl⟩ := own_form o2
  obtain ⟨A3, c3, rfl⟩ := own_form o3
  exact ⟨A1, c1, w1, A2, c2, w2, A3, c3, w3, r1, r2, r3, own_base o3 (by omega), b3⟩
end
end Go.Proofs.Ytafloaabjinkfaa
