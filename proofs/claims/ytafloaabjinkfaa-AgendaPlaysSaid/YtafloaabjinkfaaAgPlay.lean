/-
  What AgendaPlays has between its rounds: an agenda, the reference's list, an op's box.
-/
import Derived.Test.YtafloaabjinkfaaAgSame
import Derived.Test.YtafloaabjinkfaaAgDel
import Derived.Test.YtafloaabjinkfaaAgAll
import Derived.Test.YtafloaabjinkfaaAgAlive
import Derived.Test.YtafloaabjinkfaaArgRd
namespace Go.Proofs.Ytafloaabjinkfaa
open Go.RowKit Go.Sort

theorem AgAt.notIn {w : World} {B b k : Nat} {v : Value} {L : List Itm} {cur : Array Value} {T : TypeId} (h : AgAt w B b v L) (hk : w.heap[k]? = some (.cells cur T (0, 0))) (h1 : T ≠ 28) (h2 : T ≠ 33) : ¬ InAg b v k := by
  rintro (rfl | hi)
  · have := h.blk
    rw [hk] at this
    injection this with this
    injection this with _ this
    exact h1 this
  · obtain ⟨f, hh, _⟩ := h
    obtain ⟨cur2, h3⟩ := own_block hh.own hi
    rw [hk] at h3
    injection h3 with h3
    injection h3 with _ h3
    exact h2 h3
theorem RefAt.but {w w' : World} {L : List Itm} {v : Value} {S : Nat → Prop} (h : RefAt w L v) (hb : But S w w') (hS : ∀ k cur, w.heap[k]? = some (.cells cur 35 (0, 0)) → ¬ S k) : RefAt w' L v := by
  obtain ⟨A, c, e, h1, h2, h3, h4, h5⟩ := h
  refine ⟨A, c, e, (h1.but hb (Nat.le_refl _) (fun _ ad ha => by obtain ⟨cur, hc⟩ := h5 ad ha; exact hS _ _ hc)).wide hb.size, h2, h3, h4, fun ad ha => ?_⟩
  obtain ⟨cur, hc⟩ := h5 ad ha
  exact ⟨cur, (hb.block _ (lt_of_blk hc) (hS _ _ hc)).trans hc⟩
/-- What lies between rounds. -/
def AgR (w0 : World) (a : Nat) (L : List Itm) (rv : Value) (w : World) : Prop := ∃ v, AgAt w w0.heap.size a v L ∧ RefAt w L rv ∧ Below w0.heap.size w0 w
/-- An op: its kind, its number, its list. -/
structure OpR where
  kind : Int
  num : Int
  l : List Itm
  A : Option Addr
  c : Nat
def OpR.cells (o : OpR) : List Value := [.int .i64 o.kind, .int .i64 o.num, .slice o.A o.l.length o.c]
def OpBox (w : World) (ob : Nat) (o : OpR) : Prop := w.heap[ob]? = some (.cells #[.int .i64 o.kind, .int .i64 o.num, .slice o.A o.l.length o.c] 31 (0, 0))
theorem OpBox.below {w w' : World} {ob : Nat} {o : OpR} (h : OpBox w ob o) (hb : Below w.heap.size w w') : OpBox w' ob o := (hb.block _ (lt_of_blk h)).trans h
theorem OpBox.to {w w' : World} {B b ob : Nat} {v : Value} {L L' : List Itm} {o : OpR} (h : OpBox w ob o) (ha : AgAt w B b v L) (t : AgTo w B b v L' w') : OpBox w' ob o := by
  obtain ⟨_, _, hb, _⟩ := t
  exact (hb.block _ (lt_of_blk h) (ha.notIn h (by decide) (by decide))).trans h
theorem RefAt.to {w w' : World} {B b : Nat} {v rv : Value} {L L' R : List Itm} (h : RefAt w R rv) (ha : AgAt w B b v L) (t : AgTo w B b v L' w') : RefAt w' R rv := by
  obtain ⟨_, _, hb, _⟩ := t
  exact h.but hb fun k cur hk => ha.notIn hk (by decide) (by decide)
theorem RefAt.len {w : World} {L : List Itm} {v : Value} (h : RefAt w L v) : ∃ A c, v = .slice A L.length c ∧ L.length ≤ c ∧ c ≤ 9223372036854775807 ∧ (A = none → c = 0) := by
  obtain ⟨A, c, e, h1, h2, h3, h4, h5⟩ := h
  unfold maxLen at h4
  exact ⟨A, c, e, h3, by omega, h2⟩
/-- Its elements behind the first k. -/
theorem RefAt.drop {w : World} {L : List Itm} {ad : Addr} {n c k : Nat} (h : RefAt w L (.slice (some ad) n c)) (hk : k ≤ L.length) : RefAt w (L.drop k) (if c = k then .slice (some ad) (n - k) 0 else .slice (some (ad.add (k * 3))) (n - k) (c - k)) := by
  obtain ⟨A, c', e, h1, h2, h3, h4, h5⟩ := h
  injection e with e1 e2 e3
  subst e1 e2 e3
  have hl : (L.drop k).length = L.length - k := List.length_drop
  split
  · rename_i hc
    subst hc
    have h0 : L.length = c := by omega
    have hnil : L.drop c = [] := List.drop_eq_nil_of_le (by omega)
    rw [h0, Nat.sub_self, hnil]
    exact ⟨some ad, 0, rfl, ⟨rfl, fun hn => absurd hn (by simp)⟩, (fun e => by cases e), Nat.le_refl _, by unfold maxLen; omega, h5⟩
  · refine ⟨some (ad.add (k * 3)), c - k, by rw [hl], by rw [hl]; exact h1.dropR hk, (fun e => by cases e), by omega, by unfold maxLen at *; omega, fun ad' e => ?_⟩
    injection e with e
    subst e
    rw [add_block]
    exact h5 ad rfl
end Go.Proofs.Ytafloaabjinkfaa
