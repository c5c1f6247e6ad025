/-
  Contracts of (*Gates).All, Copy; the first call of chapter 5's statements.
-/
import Derived.Test.YtgoekobolomppaaGatesSet
import Derived.Test.YtgoekobolomppaaGatesClone
namespace Go.Proofs.Ytgoekobolomppaa
open Go.RowKit

set_option maxRecDepth 100000 in
theorem all_any (B c : Nat) (v : Value) (l : List Trio) (w : World) (h : GatesAt w B c v l) :
    Calls Try.prog 10 #[.pointer (some ⟨c, 0, none⟩)] w fun e w' => ∃ A cap, e = .returned (.slice A l.length cap) ∧ w'.ownsRow w.heap.size 53 3 (.slice A l.length cap) l.length (trios l) ∧ Below w.heap.size w w' := by
  have hc := h.cell
  obtain ⟨A, cap, rfl⟩ := h.form
  have kc := Lib.hid (clone_any B l.length cap A l w h.own (by have := h.good.len; omega))
  clear h
  go_enter Try.func10, Try.ntmps10
  go_wp2_with fail
  refine kc.out.mono ?_
  rintro e w' ⟨A', c', rfl, hown, hb⟩
  have HO := Lib.hid hown
  have HB := Lib.hid hb
  clear hown hb
  go_wp2_with fail
  go_ret
  exact ⟨A', c', rfl, HO.out, HB.out⟩
set_option maxRecDepth 100000 in
theorem all_nil (w : World) : Calls Try.prog 10 #[.pointer none] w fun e w' => e = .returned (.slice none 0 0) ∧ w = w' := by
  go_enter Try.func10, Try.ntmps10
  go_wp2_with fail
  go_ret
  exact ⟨rfl, rfl⟩
set_option maxRecDepth 100000 in
theorem copy_any (B c : Nat) (v : Value) (l : List Trio) (w : World) (h : GatesAt w B c v l) :
    Calls Try.prog 7 #[.pointer (some ⟨c, 0, none⟩)] w fun e w' => ∃ d v', e = .returned (.pointer (some ⟨d, 0, none⟩)) ∧ GatesAt w' w.heap.size d v' l ∧ Below w.heap.size w w' := by
  have hc := h.cell
  obtain ⟨A, cap, rfl⟩ := h.form
  have kc := Lib.hid (clone_any B l.length cap A l w h.own (by have := h.good.len; omega))
  have HG := Lib.hid h.good
  have hclt := h.lt
  have hblk := Lib.hid h.blk
  clear h
  go_enter Try.func7, Try.ntmps7
  go_wp2_with fail
  refine kc.out.mono ?_
  rintro e w' ⟨A', c', rfl, hown, hb⟩
  have hz := hb.size
  have HO := Lib.hid hown
  have HB := Lib.hid hb
  clear hown hb
  go_wp2
  go_ret
  refine ⟨w'.heap.size, .slice A' l.length c', rfl, ⟨heap_new _ _, hz, own_kept HO.out fun q hq _ => Below.heap_alloc _ _ _ hq, HG.out⟩, HB.out.alloc hz _⟩
set_option maxRecDepth 100000 in
theorem copy_nil (w : World) : Calls Try.prog 7 #[.pointer none] w fun e w' => e = .returned (.pointer none) ∧ w = w' := by
  go_enter Try.func7, Try.ntmps7
  go_wp2
  go_ret
  exact ⟨rfl, rfl⟩

/-- A zero Gates. -/
theorem gates_new (w : World) : GatesAt (w.alloc (.cells #[.slice none 0 0] 27)) w.heap.size w.heap.size (.slice none 0 0) [] :=
  ⟨heap_new _ _, Nat.le_refl _, World.ownsRow_nil _ _ _ _, GoodT.nil⟩
/-- Gates, and all that was there ahead of them as it was. -/
def GatesOn (B : Nat) (w : World) (c : Nat) (l : List Trio) (w' : World) : Prop := ∃ v, GatesAt w' B c v l ∧ Below B w w'
theorem GatesOn.set {B c : Nat} {w w1 w2 : World} {v : Value} {l m : List Trio} (hw : B ≤ w1.heap.size) (h : GatesAt w1 B c v l) (hb : Below B w w1) (ht : GatesTo w1 B c v m w2) : GatesOn B w c m w2 := by
  obtain ⟨v', h1, h2, _⟩ := ht
  exact ⟨v', h1, hb.trans (h2.below (fun k _ hk => h.ge k hk) hw)⟩
theorem GatesOn.same {B c : Nat} {w w1 w2 : World} {v : Value} {l : List Trio} (hw : B ≤ w1.heap.size) (h : GatesAt w1 B c v l) (hb : Below B w w1) (hb2 : Below w1.heap.size w1 w2) : GatesOn B w c l w2 :=
  ⟨v, h.below hb2, hb.trans (hb2.mono hw)⟩
end Go.Proofs.Ytgoekobolomppaa
