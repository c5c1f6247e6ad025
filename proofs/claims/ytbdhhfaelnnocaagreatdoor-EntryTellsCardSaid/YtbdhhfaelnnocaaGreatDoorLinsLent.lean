/-
  Contracts of LentLines, StaysLines.
-/
import Derived.Test.YtbdhhfaelnnocaaGreatDoorLins
namespace Go.Proofs.YtbdhhfaelnnocaaGreatDoor
open Go.RowKit

theorem linsOne (l : List Lin) : ∀ u ∈ lins l, u.oneCell' = true := by
  intro u hu
  obtain ⟨a, _, hu⟩ := List.mem_flatMap.1 hu
  simp [Lin.cells] at hu
  rcases hu with rfl | rfl | rfl <;> rfl
set_option maxRecDepth 100000 in
set_option maxHeartbeats 400000 in
theorem copyLins_any (l : List Lin) (A : Option Addr) (n c B : Nat) (w : World) (h : Rd w B 3 A n (lins l)) (hn : n ≤ 1000000) :
    Calls Tryz.prog 19 #[.slice A n c] w fun e w' => ∃ A' c', e = .returned (.slice A' n c') ∧ w'.ownsRow w.heap.size 34 3 (.slice A' n c') n (lins l) ∧ Below w.heap.size w w' := by
  obtain ⟨v', w', hrun, hown, hg, _⟩ := append_fresh (P := Tryz.prog) (w := w) (ty := 22) (c := c) infoLin Tryz.underlying22 rfl (by omega) w.heap.size (.slice none 0 0) 0 [] (World.ownsRow_nil _ _ _ _) h (linsOne _) (by unfold maxLen; omega) (by omega) (Nat.le_refl _)
  rw [Nat.zero_add, List.nil_append] at hown
  obtain ⟨A', c', rfl⟩ := own_form hown
  have HO := Lib.hid hown
  have HG := Lib.hid hg
  have HR := Lib.hid hrun
  clear hown hg h hn hrun
  go_enter Tryz.func19, Tryz.ntmps19
  go_wp2_with (at_builtin; refine wpList_append_run rfl _ _ _ rfl _ _ _ _ rfl rfl HR.out ?_)
  go_ret
  exact ⟨A', c', rfl, HO.out, (Below.refl _ _).grown HG.out (Nat.le_refl _) (fun k h => by cases h)⟩


/-- A list that was lent: its elements, the mark behind them. -/
def LentLins (w : World) (base g cap : Nat) (l : List Lin) : Prop := w.ownsRow base 34 3 (.slice (some ⟨g, 0, none⟩) (l.length + 1) cap) (l.length + 1) (lins (l ++ [⟨77, 0, 0⟩]))

theorem LentLins.cap_ge {w : World} {base g cap : Nat} {l : List Lin} (h : LentLins w base g cap l) : l.length + 1 ≤ cap ∧ base ≤ g ∧ g < w.heap.size := by
  rcases h.2 with ⟨h1, _⟩ | ⟨g', cap', cur, h1, hB, hh, h2, _⟩
  · cases h1
  · injection h1 with h1 _ hc
    injection h1 with h1
    injection h1 with h1
    subst h1 hc
    exact ⟨h2, hB, lt_of_blk hh⟩
theorem LentLins.rd {w : World} {base g cap : Nat} {l : List Lin} (h : LentLins w base g cap l) : Rd w w.heap.size 3 (some ⟨g, 0, none⟩) l.length (lins l) := by
  refine ⟨by rw [lins_len], fun _ => ⟨_, rfl, h.cap_ge.2.2, fun j u hu => ?_⟩⟩
  rw [Addr.add_lit, Nat.zero_add]
  refine own_cell h ?_
  rw [lins_append, List.getElem?_append_left (List.getElem?_eq_some_iff.1 hu).1]
  exact hu
theorem LentLins.mark {w : World} {base g cap : Nat} {l : List Lin} (h : LentLins w base g cap l) : w.cell? ⟨g, l.length * 3, none⟩ = some (.int .i64 77) := by
  refine own_cell h ?_
  rw [lins_append, List.getElem?_append_right (by rw [lins_len]; exact Nat.le_refl _), lins_len, Nat.sub_self]
  rfl
theorem LentLins.below {w w' : World} {base g cap : Nat} {l : List Lin} (h : LentLins w base g cap l) (hb : Below w.heap.size w w') : LentLins w' base g cap l :=
  own_kept h fun k hk _ => hb.block k hk

set_option maxRecDepth 100000 in
set_option maxHeartbeats 1000000 in
theorem lentLines_any (l : List Lin) (A : Option Addr) (n c B : Nat) (w : World) (h : Rd w B 3 A n (lins l)) (hn : n ≤ 900000) :
    Calls Tryz.prog 6 #[.slice A n c] w fun e w' => ∃ g cap, e = .returned (.slice (some ⟨g, 0, none⟩) n cap) ∧ LentLins w' w.heap.size g cap l ∧ Below w.heap.size w w' := by
  have HL := Lib.hid h.lins_len
  go_enter Tryz.func6, Tryz.ntmps6
  go_wp2_with fail
  refine (copyLins_any l A n c B w h (by omega)).mono ?_
  rintro e w1 ⟨A', c', rfl, hown, hb⟩
  have hsz := hb.size
  have hr : Rd (w1.alloc (.cells #[.int .i64 77, .int .i64 0, .int .i64 0] 34)) (w1.heap.size + 1) 3 (some ⟨w1.heap.size, 0, none⟩) 1 (lins [⟨77, 0, 0⟩]) := ⟨rfl, fun _ => ⟨_, rfl, by simp, cells_new w1 [.int .i64 77, .int .i64 0, .int .i64 0] _⟩⟩
  obtain ⟨v2, w2, hrun, hown2, hg2, _⟩ := append_fresh (P := Tryz.prog) (ty := 22) (c := 1) infoLin Tryz.underlying22 rfl (by omega) w.heap.size _ n _ (own_kept hown fun k hk _ => Below.heap_alloc _ _ _ hk) hr (linsOne _) (by unfold maxLen; omega) (by omega) (by simp; omega)
  rw [← lins_append] at hown2
  obtain ⟨g, cap, rfl⟩ : ∃ g cap, v2 = .slice (some ⟨g, 0, none⟩) (n + 1) cap := by
    rcases hown2.2 with ⟨_, h0⟩ | ⟨g, cap, cur, h1, _⟩
    · omega
    · exact ⟨g, cap, h1⟩
  have hL : LentLins w2 w.heap.size g cap l := by
    unfold LentLins
    rw [HL.out]
    exact hown2
  have hcap := hL.cap_ge.1
  rw [HL.out] at hcap
  have hcap' : n ≤ cap := by omega
  have hB2 : Hid (Below w.heap.size w w2) := (hb.trans ((Below.refl _ _).alloc (by omega) _)).grown hg2 (by simp; omega) (own_ge hown)
  have HLL := Lib.hid hL
  have HR := Lib.hid hrun
  clear hL hown2 hg2 hown hb hrun hr
  go_wp2_with (at_builtin; refine wpList_append_run rfl _ _ _ rfl _ _ _ _ rfl rfl HR.out ?_)
  go_ret
  exact ⟨g, cap, rfl, HLL.out, hB2.out⟩

set_option maxRecDepth 100000 in
set_option maxHeartbeats 1000000 in
theorem staysLines_any (l m : List Lin) (A : Option Addr) (n1 n c base B g cap : Nat) (w : World) (hl : LentLins w base g cap m) (hlen : m.length = n1) (h : Rd w B 3 A n (lins l)) (hn : n ≤ 1000000) (hn1 : n1 ≤ 900000) :
    Calls Tryz.prog 16 #[.slice (some ⟨g, 0, none⟩) n1 cap, .slice A n c] w fun e w' => e = .returned (.bool (m == l)) ∧ Drew w w' := by
  obtain ⟨hcap, _, _⟩ := hl.cap_ge
  have hmark := hl.mark
  have hrd := hl.rd
  rw [hlen] at hcap hmark hrd
  have hcap' : n1 ≤ cap := by omega
  have hcI : (n1 : Int) + 1 ≤ (cap : Int) := by omega
  clear hlen
  cases hs : (m == l)
  · have HS := Lib.hid hs
    clear hs
    go_enter Tryz.func16, Tryz.ntmps16
    go_wp2_with fail
    refine (sameLines_any m l _ A n1 n cap c _ B w hrd h (by omega) hn).mono ?_
    rintro e w' ⟨rfl, q, rfl⟩
    rw [HS.out]
    go_wp2
    go_ret
    exact ⟨rfl, q, rfl⟩
  · have HS := Lib.hid hs
    clear hs
    go_enter Tryz.func16, Tryz.ntmps16
    go_wp2_with fail
    refine (sameLines_any m l _ A n1 n cap c _ B w hrd h (by omega) hn).mono ?_
    rintro e w' ⟨rfl, q, rfl⟩
    rw [HS.out]
    go_wp2
    go_ret
    exact ⟨rfl, q, rfl⟩
end Go.Proofs.YtbdhhfaelnnocaaGreatDoor
