/-
  Several texts, one behind the other: what each holds stands ahead of it.
-/
import Derived.Test.YthjpknipnmagkaaGreatInsertJr
import Derived.Lib.SliceRun
import Derived.Deep.RegionLaw
import Derived.Test.YthjpknipnmagkaaGreatMany8
import Derived.Test.YthjpknipnmagkaaGreatEntryCheck2
import Derived.LoopN
import Derived.Laws.EntriesVeiled

/-
  Contract of slices.Delete over journals, of one element.
-/
namespace Go.Proofs.YthjpknipnmagkaaGreat
open Go.RowKit

theorem run_clear_one {P : Program} (w : World) (t e ty : TypeId) (z : Value) (zs : List Value) (ht : P.underlying t = some (.slice e)) (hv : ∀ w, (zeroValue e).run P w = .ok z w) (hz : (Builtin.zeroCells z.cells 1).toList = zs) (h1 : ∀ u ∈ zs, u.oneCell' = true) (b o c : Nat)
    (hc : ∀ j, j < zs.length → (w.cell? ⟨b, o + j, none⟩).isSome = true) (hf : ∀ j, j < zs.length → w.frozen? ⟨b, o + j, none⟩ = false) :
    (Builtin.clear_ #[t] ty #[.slice (some ⟨b, o, none⟩) 1 c]).run P w = .ok (.tuple #[]) (w.setCells b o zs) := by
  have hst := run_storeCells_cells (P := P) b o zs 0 w (by simpa using hc) (by simpa using hf) h1
  simp only [Nat.add_zero] at hst
  simp [Builtin.clear_, run_underlying ht, hv, hz, hst]
/-- A row, taken for fewer elements. -/
theorem own_less {w : World} {B g n c size : Nat} {e : TypeId} {L : List Value} (h : w.ownsRow B e size (.slice (some ⟨g, 0, none⟩) n c) n L) {m : Nat} (hm : m ≤ n) : w.ownsRow B e size (.slice (some ⟨g, 0, none⟩) m c) m (L.take (m * size)) := by
  obtain ⟨cur, hh, hB, hnc, hcm, hsz, hL⟩ := own_blk h
  have hl := h.1
  have hms := Nat.mul_le_mul_right size hm
  refine ⟨by simp; omega, .inr ⟨g, c, cur, rfl, hB, hh, by omega, hcm, hsz, ?_⟩⟩
  rw [← hL, List.take_take, Nat.min_eq_left hms]
theorem del_core (a m d zs : List Value) (hm : m.length = zs.length) : (setL (setL (a ++ (m ++ d)) a.length d) (a.length + d.length) zs).take (a.length + d.length) = a ++ d := by
  rw [setL_mid d a (m ++ d) (by simp)]
  have hr : ((m ++ d).drop d.length).length = m.length := by simp
  have hl : a.length + d.length = (a ++ d).length := by simp
  rw [hl, setL_mid zs (a ++ d) _ (by omega), List.append_assoc, List.take_left]
theorem del_jrs (l : List JR) (n i : Nat) (hn : l.length = n) (hi : i < n) (zs : List Value) (hz : zs.length = 6) :
    (setL (setL (jrs l) (i * 6) (jrs (l.drop (i + 1)))) ((n - 1) * 6) zs).take ((n - 1) * 6) = jrs (l.take i ++ l.drop (i + 1)) := by
  obtain ⟨a, ha⟩ : ∃ a, l[i]? = some a := ⟨_, List.getElem?_eq_getElem (by omega)⟩
  have he : jrs l = jrs (l.take i) ++ (a.cells ++ jrs (l.drop (i + 1))) := by
    conv => lhs; rw [← List.take_append_drop i l, List.drop_eq_getElem_cons (by omega : i < l.length)]
    rw [jrs_append]
    have : l[i] = a := by rw [List.getElem?_eq_getElem (by omega)] at ha; injection ha
    rw [this]
    rfl
  have h1 : (jrs (l.take i)).length = i * 6 := by rw [jrs_len]; simp; omega
  have h2 : (jrs (l.drop (i + 1))).length = (n - 1 - i) * 6 := by rw [jrs_len]; simp; omega
  have := del_core (jrs (l.take i)) a.cells (jrs (l.drop (i + 1))) zs (by rw [hz]; rfl)
  rw [h1, h2, ← he, show i * 6 + (n - 1 - i) * 6 = (n - 1) * 6 by omega] at this
  rw [this, jrs_append]

end Go.Proofs.YthjpknipnmagkaaGreat

/-
  Contracts of LentLines, StaysLines.
-/
namespace Go.Proofs.YthjpknipnmagkaaGreat
open Go.RowKit

theorem linsOne (l : List Lin) : ∀ u ∈ lins l, u.oneCell' = true := by
  intro u hu
  obtain ⟨a, _, hu⟩ := List.mem_flatMap.1 hu
  simp [Lin.cells] at hu
  rcases hu with rfl | rfl | rfl <;> rfl
end Go.Proofs.YthjpknipnmagkaaGreat

/-
  Contracts of slices.Clone over lines, entry.Copy.
-/
namespace Go.Proofs.YthjpknipnmagkaaGreat
open Go.RowKit

theorem own_empty (w : World) (T : TypeId) (size : Nat) : (w.alloc (.cells #[] T)).ownsRow w.heap.size T size (.slice (some ⟨w.heap.size, 0, none⟩) 0 0) 0 [] :=
  ⟨by simp, .inr ⟨w.heap.size, 0, #[], rfl, Nat.le_refl _, heap_new _ _, Nat.le_refl _, Nat.zero_le _, by simp, by simp⟩⟩

set_option maxRecDepth 100000 in
set_option maxHeartbeats 400000 in
theorem cloneLins_any (n c B : Nat) (A : Option Addr) (l : List Lin) (w : World) (h : Rd w B 3 A n (lins l)) (hB : B ≤ w.heap.size) (hn : n ≤ 1000000) (h0 : A = none → c = 0) :
    Calls Tryz.prog 225 #[.slice A n c] w fun e w' => ∃ A' c', e = .returned (.slice A' n c') ∧ w'.ownsRow w.heap.size 106 3 (.slice A' n c') n (lins l) ∧ Below w.heap.size w w' := by
  rcases A with _ | ad
  · have h1 : n = 0 := by
      rcases Nat.eq_zero_or_pos n with h1 | h1
      · exact h1
      · obtain ⟨ad, e, _⟩ := h.2 h1
        cases e
    obtain rfl := h0 rfl
    subst h1
    have hl : lins l = [] := List.eq_nil_of_length_eq_zero (by simpa using h.1)
    rw [hl]
    clear h h0 hl
    have hq : ∀ w : World, (binOp .eql 102 (.slice none 0 0) (.slice none 0 0)).run Tryz.prog w = .ok (.bool true) w := fun w => Lib.run_eql_slice_nil w 102 106 none 0 0 0 0 Tryz.underlying102
    go_enter Tryz.func225, Tryz.ntmps225
    go_wp2
    go_ret
    exact ⟨none, 0, rfl, World.ownsRow_nil _ _ _ _, Below.refl _ _⟩
  · have hR : Rd (w.alloc (.cells #[] 106)) B 3 (some ad) n (lins l) := h.far ((Below.refl _ _).alloc (Nat.le_refl _) _) hB
    obtain ⟨v', w', hrun, hown, hg, hp⟩ := append_fresh (P := Tryz.prog) (ty := 102) (c := c) infoLin Tryz.underlying102 rfl (by omega) w.heap.size _ 0 [] (own_empty w 106 3) hR (linsOne l) (by unfold maxLen; omega) (by omega) (by simp)
    rw [Nat.zero_add, List.nil_append] at hown
    obtain ⟨A', c', rfl⟩ := own_form hown
    have HR := Lib.hid hrun
    have HO := Lib.hid hown
    have HB : Hid (Below w.heap.size w w') := ((Below.refl _ _).alloc (Nat.le_refl _) _).grown hg (by simp) (fun k hk => by simp [Value.ownBlock] at hk; omega)
    clear h h0 hR hrun hown hg hp
    have hq : ∀ w : World, (binOp .eql 102 (.slice (some ad) n c) (.slice none 0 0)).run Tryz.prog w = .ok (.bool false) w := fun w => Lib.run_eql_slice_nil w 102 106 (some ad) n c 0 0 Tryz.underlying102
    go_enter Tryz.func225, Tryz.ntmps225
    go_wp2_with (at_builtin; refine wpList_append_run rfl _ _ _ rfl _ _ _ _ rfl rfl HR.out ?_)
    go_ret
    exact ⟨A', c', rfl, HO.out, HB.out⟩

set_option maxRecDepth 100000 in
set_option maxHeartbeats 2000000 in
theorem entryCopy_any (j : Jrn) (A : Option Addr) (n c B : Nat) (w : World) (h : Rd w B 3 A n (lins j.lines)) (hB : B ≤ w.heap.size) (hn : n ≤ 1000000) (h0 : A = none → c = 0) :
    Calls Tryz.prog 201 #[j.val A n c] w fun e w' => ∃ A' c', e = .returned (.agg #[.int .i64 j.id, .int .i64 j.ent, .int .i64 j.per, .string j.ref, .slice A' n c', .bool j.void]) ∧ w'.ownsRow w.heap.size 106 3 (.slice A' n c') n (lins j.lines) ∧ Below w.heap.size w w' := by
  obtain ⟨W2, hW2⟩ : ∃ W2, (w.alloc (.cells #[.int .i64 j.id, .int .i64 j.ent, .int .i64 j.per, .string j.ref, .slice A n c, .bool j.void] 104)).alloc (.cells #[.int .i64 0, .int .i64 0, .int .i64 0, .string ⟨#[]⟩, .slice none 0 0, .bool false] 104) = W2 := ⟨_, rfl⟩
  have hb2 : Below w.heap.size w W2 := by rw [← hW2]; exact ((Below.refl _ _).alloc (Nat.le_refl _) _).alloc (by simp) _
  have hz2 : W2.heap.size = w.heap.size + 2 := by rw [← hW2]; simp
  have hbox : JAt W2 w.heap.size j A n c := by
    rw [← hW2]
    exact (Below.heap_alloc _ _ _ (by simp)).trans (heap_new w _)
  have hres : JAt W2 (w.heap.size + 1) zeroJ none 0 0 := by
    rw [← hW2]
    have := heap_new (w.alloc (.cells #[.int .i64 j.id, .int .i64 j.ent, .int .i64 j.per, .string j.ref, .slice A n c, .bool j.void] 104)) (.cells #[.int .i64 0, .int .i64 0, .int .i64 0, .string ⟨#[]⟩, .slice none 0 0, .bool false] 104)
    rw [show (w.alloc (.cells #[.int .i64 j.id, .int .i64 j.ent, .int .i64 j.per, .string j.ref, .slice A n c, .bool j.void] 104)).heap.size = w.heap.size + 1 by simp] at this
    exact this
  have kc := Lib.hid (cloneLins_any n c B A j.lines W2 (h.far hb2 hB) (by omega) hn h0)
  have HBOX := Lib.hid hbox
  have HRES := Lib.hid hres
  have HB2 := Lib.hid hb2
  have HW2 := Lib.hid hW2
  have HZ2 := Lib.hid hz2
  clear hW2 hb2 hbox hres h hz2
  unfold Jrn.val
  go_enter Tryz.func201, Tryz.ntmps201
  go_wp2_with fail
  rw [HW2.out]
  refine kc.out.mono ?_
  rintro e w3 ⟨A', c', rfl, hown, hb3⟩
  have hz3 := hb3.size
  have hbox3 : JAt w3 w.heap.size j A n c := (hb3.block _ (by have := HZ2.out; omega)).trans HBOX.out
  have hres3 : JAt w3 (w.heap.size + 1) zeroJ none 0 0 := (hb3.block _ (by have := HZ2.out; omega)).trans HRES.out
  obtain ⟨x0, x1, x2, x3, x4, x5⟩ := six_cells hbox3
  have xf := fun o => warm_of hbox3 o
  obtain ⟨y0, y1, y2, y3, y4, y5⟩ := six_cells hres3
  have yf := fun o => warm_of hres3 o
  have hlt3 : w.heap.size + 1 < w3.heap.size := lt_of_blk hres3
  have HOWN := Lib.hid hown
  have HB : Hid (Below w.heap.size w w3) := HB2.out.trans (hb3.mono HB2.out.size)
  clear hown hbox3 hres3 hb3 hz3
  go_wp2_with fail
  refine bodyPost_ret (v := .agg #[.int .i64 j.id, .int .i64 j.ent, .int .i64 j.per, .string j.ref, .slice A' n c', .bool j.void]) (by simp [results, Tryz.results201, go_sem, y0, y1, y2, y3, y4, y5]) rfl ⟨A', c', rfl, ?_, ?_⟩
  · refine own_base (own_six (own_kept HOWN.out fun q hq ho => ?_) (by have := HZ2.out; omega) _ _ _ _ _ _) (by have := HZ2.out; omega)
    have hge := own_ge HOWN.out q ho
    exact Below.heap_setCell _ _ _ _ (by have := HZ2.out; show q ≠ w.heap.size; omega)
  · exact below_six (HB.out.setCell (p := ⟨w.heap.size, 4, none⟩) (Nat.le_refl _) _) (Nat.le_succ _) _ _ _ _ _ _
end Go.Proofs.YthjpknipnmagkaaGreat
