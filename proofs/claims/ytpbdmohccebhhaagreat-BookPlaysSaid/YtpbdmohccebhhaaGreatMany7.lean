/-
  Several texts, one behind the other: what each holds stands ahead of it.
-/
import Derived.Test.YtpbdmohccebhhaaGreatMany2
import Derived.Test.YtpbdmohccebhhaaGreatEntryCheck2
import Derived.LoopN
import Derived.Laws.EntriesVeiled

/-
  Contracts of LentLines, StaysLines.
-/
namespace Go.Proofs.YtpbdmohccebhhaaGreat
open Go.RowKit

theorem linsOne (l : List Lin) : ∀ u ∈ lins l, u.oneCell' = true := by
  intro u hu
  obtain ⟨a, _, hu⟩ := List.mem_flatMap.1 hu
  simp [Lin.cells] at hu
  rcases hu with rfl | rfl | rfl <;> rfl
set_option maxRecDepth 100000 in
set_option maxHeartbeats 400000 in
theorem copyLins_any (l : List Lin) (A : Option Addr) (n c B : Nat) (w : World) (h : Rd w B 3 A n (lins l)) (hn : n ≤ 1000000) :
    Calls Tryz.prog 54 #[.slice A n c] w fun e w' => ∃ A' c', e = .returned (.slice A' n c') ∧ w'.ownsRow w.heap.size 100 3 (.slice A' n c') n (lins l) ∧ Below w.heap.size w w' := by
  obtain ⟨v', w', hrun, hown, hg, _⟩ := append_fresh (P := Tryz.prog) (w := w) (ty := 41) (c := c) infoLin Tryz.underlying41 rfl (by omega) w.heap.size (.slice none 0 0) 0 [] (World.ownsRow_nil _ _ _ _) h (linsOne _) (by unfold maxLen; omega) (by omega) (Nat.le_refl _)
  rw [Nat.zero_add, List.nil_append] at hown
  obtain ⟨A', c', rfl⟩ := own_form hown
  have HO := Lib.hid hown
  have HG := Lib.hid hg
  have HR := Lib.hid hrun
  clear hown hg h hn hrun
  go_enter Tryz.func54, Tryz.ntmps54
  go_wp2_with (at_builtin; refine wpList_append_run rfl _ _ _ rfl _ _ _ _ rfl rfl HR.out ?_)
  go_ret
  exact ⟨A', c', rfl, HO.out, (Below.refl _ _).grown HG.out (Nat.le_refl _) (fun k h => by cases h)⟩


/-- A list that was lent: its elements, the mark behind them. -/
def LentLins (w : World) (base g cap : Nat) (l : List Lin) : Prop := w.ownsRow base 100 3 (.slice (some ⟨g, 0, none⟩) (l.length + 1) cap) (l.length + 1) (lins (l ++ [⟨77, 0, 0⟩]))

theorem LentLins.cap_ge {w : World} {base g cap : Nat} {l : List Lin} (h : LentLins w base g cap l) : l.length + 1 ≤ cap ∧ base ≤ g ∧ g < w.heap.size := by
  rcases h.2 with ⟨h1, _⟩ | ⟨g', cap', cur, h1, hB, hh, h2, _⟩
  · cases h1
  · injection h1 with h1 _ hc
    injection h1 with h1
    injection h1 with h1
    subst h1 hc
    exact ⟨h2, hB, lt_of_blk hh⟩
theorem LentLins.rd {w : World} {base g cap : Nat} {l : List Lin} (h : LentLins w base g cap l) : Rd w w.heap.size 3 (some ⟨g, 0, none⟩) l.length (lins l) := by
  refine ⟨by rw [lins_len], fun _ => ⟨_, rfl, h.cap_ge.2.2, fun j u hu => ?_⟩⟩
  rw [Addr.add_lit, Nat.zero_add]
  refine own_cell h ?_
  rw [lins_append, List.getElem?_append_left (List.getElem?_eq_some_iff.1 hu).1]
  exact hu
theorem LentLins.mark {w : World} {base g cap : Nat} {l : List Lin} (h : LentLins w base g cap l) : w.cell? ⟨g, l.length * 3, none⟩ = some (.int .i64 77) := by
  refine own_cell h ?_
  rw [lins_append, List.getElem?_append_right (by rw [lins_len]; exact Nat.le_refl _), lins_len, Nat.sub_self]
  rfl
theorem LentLins.below {w w' : World} {base g cap : Nat} {l : List Lin} (h : LentLins w base g cap l) (hb : Below w.heap.size w w') : LentLins w' base g cap l :=
  own_kept h fun k hk _ => hb.block k hk

set_option maxRecDepth 100000 in
set_option maxHeartbeats 1000000 in
theorem lentLines_any (l : List Lin) (A : Option Addr) (n c B : Nat) (w : World) (h : Rd w B 3 A n (lins l)) (hn : n ≤ 900000) :
    Calls Tryz.prog 10 #[.slice A n c] w fun e w' => ∃ g cap, e = .returned (.slice (some ⟨g, 0, none⟩) n cap) ∧ LentLins w' w.heap.size g cap l ∧ Below w.heap.size w w' := by
  have HL := Lib.hid h.lins_len
  go_enter Tryz.func10, Tryz.ntmps10
  go_wp2_with fail
  refine (copyLins_any l A n c B w h (by omega)).mono ?_
  rintro e w1 ⟨A', c', rfl, hown, hb⟩
  have hsz := hb.size
  have hr : Rd (w1.alloc (.cells #[.int .i64 77, .int .i64 0, .int .i64 0] 100)) (w1.heap.size + 1) 3 (some ⟨w1.heap.size, 0, none⟩) 1 (lins [⟨77, 0, 0⟩]) := ⟨rfl, fun _ => ⟨_, rfl, by simp, cells_new w1 [.int .i64 77, .int .i64 0, .int .i64 0] _⟩⟩
  obtain ⟨v2, w2, hrun, hown2, hg2, _⟩ := append_fresh (P := Tryz.prog) (ty := 41) (c := 1) infoLin Tryz.underlying41 rfl (by omega) w.heap.size _ n _ (own_kept hown fun k hk _ => Below.heap_alloc _ _ _ hk) hr (linsOne _) (by unfold maxLen; omega) (by omega) (by simp; omega)
  rw [← lins_append] at hown2
  obtain ⟨g, cap, rfl⟩ : ∃ g cap, v2 = .slice (some ⟨g, 0, none⟩) (n + 1) cap := by
    rcases hown2.2 with ⟨_, h0⟩ | ⟨g, cap, cur, h1, _⟩
    · omega
    · exact ⟨g, cap, h1⟩
  have hL : LentLins w2 w.heap.size g cap l := by
    unfold LentLins
    rw [HL.out]
    exact hown2
  have hcap := hL.cap_ge.1
  rw [HL.out] at hcap
  have hcap' : n ≤ cap := by omega
  have hB2 : Hid (Below w.heap.size w w2) := (hb.trans ((Below.refl _ _).alloc (by omega) _)).grown hg2 (by simp; omega) (own_ge hown)
  have HLL := Lib.hid hL
  have HR := Lib.hid hrun
  clear hL hown2 hg2 hown hb hrun hr
  go_wp2_with (at_builtin; refine wpList_append_run rfl _ _ _ rfl _ _ _ _ rfl rfl HR.out ?_)
  go_ret
  exact ⟨g, cap, rfl, HLL.out, hB2.out⟩

set_option maxRecDepth 100000 in
set_option maxHeartbeats 1000000 in
theorem staysLines_any (l m : List Lin) (A : Option Addr) (n1 n c base B g cap : Nat) (w : World) (hl : LentLins w base g cap m) (hlen : m.length = n1) (h : Rd w B 3 A n (lins l)) (hn : n ≤ 1000000) (hn1 : n1 ≤ 900000) :
    Calls Tryz.prog 28 #[.slice (some ⟨g, 0, none⟩) n1 cap, .slice A n c] w fun e w' => e = .returned (.bool (m == l)) ∧ Drew w w' := by
  obtain ⟨hcap, _, _⟩ := hl.cap_ge
  have hmark := hl.mark
  have hrd := hl.rd
  rw [hlen] at hcap hmark hrd
  have hcap' : n1 ≤ cap := by omega
  have hcI : (n1 : Int) + 1 ≤ (cap : Int) := by omega
  clear hlen
  cases hs : (m == l)
  · have HS := Lib.hid hs
    clear hs
    go_enter Tryz.func28, Tryz.ntmps28
    go_wp2_with fail
    refine (sameLines_any m l _ A n1 n cap c _ B w hrd h (by omega) hn).mono ?_
    rintro e w' ⟨rfl, q, rfl⟩
    rw [HS.out]
    go_wp2
    go_ret
    exact ⟨rfl, q, rfl⟩
  · have HS := Lib.hid hs
    clear hs
    go_enter Tryz.func28, Tryz.ntmps28
    go_wp2_with fail
    refine (sameLines_any m l _ A n1 n cap c _ B w hrd h (by omega) hn).mono ?_
    rintro e w' ⟨rfl, q, rfl⟩
    rw [HS.out]
    go_wp2
    go_ret
    exact ⟨rfl, q, rfl⟩
end Go.Proofs.YtpbdmohccebhhaaGreat

/-
  Contract of the reference's Copy.
-/
namespace Go.Proofs.YtpbdmohccebhhaaGreat
open Go.RowKit

set_option maxRecDepth 100000 in
set_option maxHeartbeats 2000000 in
theorem refCopy_any (j : Jrn) (A : Option Addr) (n c B : Nat) (w : World) (h : Rd w B 3 A n (lins j.lines)) (hB : B ≤ w.heap.size) (hn : n ≤ 1000000) :
    Calls Tryz.prog 51 #[j.val A n c] w fun e w' => ∃ A' c', e = .returned (.agg #[.int .i64 j.id, .int .i64 j.ent, .int .i64 j.per, .string j.ref, .slice A' n c', .bool j.void]) ∧ w'.ownsRow w.heap.size 100 3 (.slice A' n c') n (lins j.lines) ∧ Below w.heap.size w w' := by
  obtain ⟨W2, hW2⟩ : ∃ W2, (w.alloc (.cells #[.int .i64 j.id, .int .i64 j.ent, .int .i64 j.per, .string j.ref, .slice A n c, .bool j.void] 43)).alloc (.cells #[.int .i64 0, .int .i64 0, .int .i64 0, .string ⟨#[]⟩, .slice none 0 0, .bool false] 43) = W2 := ⟨_, rfl⟩
  have hb2 : Below w.heap.size w W2 := by rw [← hW2]; exact ((Below.refl _ _).alloc (Nat.le_refl _) _).alloc (by simp) _
  have hz2 : W2.heap.size = w.heap.size + 2 := by rw [← hW2]; simp
  have hbox : JAt W2 w.heap.size j A n c := by
    rw [← hW2]
    exact (Below.heap_alloc _ _ _ (by simp)).trans (heap_new w _)
  have hres : JAt W2 (w.heap.size + 1) zeroJ none 0 0 := by
    rw [← hW2]
    have := heap_new (w.alloc (.cells #[.int .i64 j.id, .int .i64 j.ent, .int .i64 j.per, .string j.ref, .slice A n c, .bool j.void] 43)) (.cells #[.int .i64 0, .int .i64 0, .int .i64 0, .string ⟨#[]⟩, .slice none 0 0, .bool false] 43)
    rw [show (w.alloc (.cells #[.int .i64 j.id, .int .i64 j.ent, .int .i64 j.per, .string j.ref, .slice A n c, .bool j.void] 43)).heap.size = w.heap.size + 1 by simp] at this
    exact this
  obtain ⟨v3, w3, hrun, hown, hg, _⟩ := append_fresh (P := Tryz.prog) (w := W2) (ty := 41) (c := c) infoLin Tryz.underlying41 rfl (by omega) W2.heap.size (.slice none 0 0) 0 [] (World.ownsRow_nil _ _ _ _) (h.far hb2 hB) (linsOne _) (by unfold maxLen; omega) (by omega) (Nat.le_refl _)
  rw [Nat.zero_add, List.nil_append] at hown
  obtain ⟨A', c', rfl⟩ := own_form hown
  have hk : ∀ q, q < W2.heap.size → w3.heap[q]? = W2.heap[q]? := fun q hq => hg.block q hq (fun e => by cases e)
  have hbox3 : JAt w3 w.heap.size j A n c := (hk _ (by omega)).trans hbox
  have hres3 : JAt w3 (w.heap.size + 1) zeroJ none 0 0 := (hk _ (by omega)).trans hres
  have hb3 : Below W2.heap.size W2 w3 := ⟨hg.os, hg.tape, hg.output, hg.size, hk⟩
  obtain ⟨x0, x1, x2, x3, x4, x5⟩ := six_cells hbox3
  have xf := fun o => warm_of hbox3 o
  obtain ⟨y0, y1, y2, y3, y4, y5⟩ := six_cells hres3
  have yf := fun o => warm_of hres3 o
  have HR := Lib.hid hrun
  have HOWN := Lib.hid hown
  have HB : Hid (Below w.heap.size w w3) := hb2.trans (hb3.mono hb2.size)
  have HW2 := Lib.hid hW2
  have hlt3 : w.heap.size + 1 < w3.heap.size := lt_of_blk hres3
  have HZ2 := Lib.hid hz2
  clear hrun hown hg hW2 hb2 hbox hres hbox3 hres3 hb3 hk h hz2
  unfold Jrn.val
  go_enter Tryz.func51, Tryz.ntmps51
  go_wp2_with (at_builtin; rw [HW2.out]; refine wpList_append_run rfl _ _ _ rfl _ _ _ _ rfl rfl HR.out ?_)
  refine bodyPost_ret (v := .agg #[.int .i64 j.id, .int .i64 j.ent, .int .i64 j.per, .string j.ref, .slice A' n c', .bool j.void]) (by simp [results, Tryz.results51, go_sem, y0, y1, y2, y3, y4, y5]) rfl ⟨A', c', rfl, ?_, ?_⟩
  · refine own_base (own_six (own_kept HOWN.out fun q hq ho => ?_) (by have := HZ2.out; omega) _ _ _ _ _ _) (by have := HZ2.out; omega)
    have hge := own_ge HOWN.out q ho
    exact Below.heap_setCell _ _ _ _ (by have := HZ2.out; show q ≠ w.heap.size; omega)
  · exact below_six (HB.out.setCell (p := ⟨w.heap.size, 4, none⟩) (Nat.le_refl _) _) (Nat.le_succ _) _ _ _ _ _ _
end Go.Proofs.YtpbdmohccebhhaaGreat
