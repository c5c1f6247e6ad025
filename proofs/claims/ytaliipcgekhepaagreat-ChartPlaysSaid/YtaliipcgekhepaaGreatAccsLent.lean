/-
  Contracts of LentAccounts, StaysAccounts.
-/
import Derived.Test.YtaliipcgekhepaaGreatMany2
namespace Go.Proofs.YtaliipcgekhepaaGreat
open Go.RowKit

/-- A list that was lent: its elements, the mark behind them. -/
def LentAccs (w : World) (base g cap : Nat) (l : List Acc) : Prop := w.ownsRow base 34 3 (.slice (some ⟨g, 0, none⟩) (l.length + 1) cap) (l.length + 1) (accs (l ++ [⟨77, 0, false⟩]))

theorem LentAccs.cap_ge {w : World} {base g cap : Nat} {l : List Acc} (h : LentAccs w base g cap l) : l.length + 1 ≤ cap ∧ base ≤ g ∧ g < w.heap.size := by
  rcases h.2 with ⟨h1, _⟩ | ⟨g', cap', cur, h1, hB, hh, h2, _⟩
  · cases h1
  · injection h1 with h1 _ hc
    injection h1 with h1
    injection h1 with h1
    subst h1 hc
    exact ⟨h2, hB, lt_of_blk hh⟩
theorem LentAccs.rd {w : World} {base g cap : Nat} {l : List Acc} (h : LentAccs w base g cap l) : Rd w w.heap.size 3 (some ⟨g, 0, none⟩) l.length (accs l) := by
  refine ⟨by rw [accs_len], fun _ => ⟨_, rfl, h.cap_ge.2.2, fun j u hu => ?_⟩⟩
  rw [Addr.add_lit, Nat.zero_add]
  refine own_cell h ?_
  rw [accs_append, List.getElem?_append_left (List.getElem?_eq_some_iff.1 hu).1]
  exact hu
theorem LentAccs.mark {w : World} {base g cap : Nat} {l : List Acc} (h : LentAccs w base g cap l) : w.cell? ⟨g, l.length * 3, none⟩ = some (.int .i64 77) := by
  refine own_cell h ?_
  rw [accs_append, List.getElem?_append_right (by rw [accs_len]; exact Nat.le_refl _), accs_len, Nat.sub_self]
  rfl
theorem LentAccs.below {w w' : World} {base g cap : Nat} {l : List Acc} (h : LentAccs w base g cap l) (hb : Below w.heap.size w w') : LentAccs w' base g cap l :=
  own_kept h fun k hk _ => hb.block k hk

set_option maxRecDepth 100000 in
set_option maxHeartbeats 1000000 in
theorem lentAccounts_any (l : List Acc) (A : Option Addr) (n c B : Nat) (w : World) (h : Rd w B 3 A n (accs l)) (hn : n ≤ 900000) :
    Calls Tryz.prog 5 #[.slice A n c] w fun e w' => ∃ g cap, e = .returned (.slice (some ⟨g, 0, none⟩) n cap) ∧ LentAccs w' w.heap.size g cap l ∧ Below w.heap.size w w' := by
  have HL := Lib.hid h.accs_len
  go_enter Tryz.func5, Tryz.ntmps5
  go_wp2_with fail
  refine (copyAccounts_any l A n c B w h (by omega)).mono ?_
  rintro e w1 ⟨A', c', rfl, hown, hb⟩
  have hsz := hb.size
  have hr : Rd (w1.alloc (.cells #[.int .i64 77, .int .i64 0, .bool false] 34)) (w1.heap.size + 1) 3 (some ⟨w1.heap.size, 0, none⟩) 1 (accs [⟨77, 0, false⟩]) := ⟨rfl, fun _ => ⟨_, rfl, by simp, cells_new w1 [.int .i64 77, .int .i64 0, .bool false] _⟩⟩
  obtain ⟨v2, w2, hrun, hown2, hg2, _⟩ := append_fresh (P := Tryz.prog) (ty := 22) (c := 1) infoAcc Tryz.underlying22 rfl (by omega) w.heap.size _ n _ (own_kept hown fun k hk _ => Below.heap_alloc _ _ _ hk) hr (accs_one _) (by unfold maxLen; omega) (by omega) (by simp; omega)
  rw [← accs_append] at hown2
  obtain ⟨g, cap, rfl⟩ : ∃ g cap, v2 = .slice (some ⟨g, 0, none⟩) (n + 1) cap := by
    rcases hown2.2 with ⟨_, h0⟩ | ⟨g, cap, cur, h1, _⟩
    · omega
    · exact ⟨g, cap, h1⟩
  have hL : LentAccs w2 w.heap.size g cap l := by
    unfold LentAccs
    rw [HL.out]
    exact hown2
  have hcap := hL.cap_ge.1
  rw [HL.out] at hcap
  have hcap' : n ≤ cap := by omega
  have hB2 : Hid (Below w.heap.size w w2) := (hb.trans ((Below.refl _ _).alloc (by omega) _)).grown hg2 (by simp; omega) (own_ge hown)
  have HLL := Lib.hid hL
  have HR := Lib.hid hrun
  clear hL hown2 hg2 hown hb hrun hr
  go_wp2_with (at_builtin; refine wpList_append_run rfl _ _ _ rfl _ _ _ _ rfl rfl HR.out ?_)
  go_ret
  exact ⟨g, cap, rfl, HLL.out, hB2.out⟩

set_option maxRecDepth 100000 in
set_option maxHeartbeats 1000000 in
theorem staysAccounts_any (l m : List Acc) (A : Option Addr) (n1 n c base B g cap : Nat) (w : World) (hl : LentAccs w base g cap m) (hlen : m.length = n1) (h : Rd w B 3 A n (accs l)) (hn : n ≤ 1000000) (hn1 : n1 ≤ 900000) :
    Calls Tryz.prog 8 #[.slice (some ⟨g, 0, none⟩) n1 cap, .slice A n c] w fun e w' => e = .returned (.bool (m == l)) ∧ Drew w w' := by
  obtain ⟨hcap, _, _⟩ := hl.cap_ge
  have hmark := hl.mark
  have hrd := hl.rd
  rw [hlen] at hcap hmark hrd
  have hcap' : n1 ≤ cap := by omega
  have hcI : (n1 : Int) + 1 ≤ (cap : Int) := by omega
  clear hlen
  cases hs : (m == l)
  · have HS := Lib.hid hs
    clear hs
    go_enter Tryz.func8, Tryz.ntmps8
    go_wp2_with fail
    refine (sameAccounts_any m l _ A n1 n cap c _ B w hrd h (by omega) hn).mono ?_
    rintro e w' ⟨rfl, q, rfl⟩
    rw [HS.out]
    go_wp2
    go_ret
    exact ⟨rfl, q, rfl⟩
  · have HS := Lib.hid hs
    clear hs
    go_enter Tryz.func8, Tryz.ntmps8
    go_wp2_with fail
    refine (sameAccounts_any m l _ A n1 n cap c _ B w hrd h (by omega) hn).mono ?_
    rintro e w' ⟨rfl, q, rfl⟩
    rw [HS.out]
    go_wp2
    go_ret
    exact ⟨rfl, q, rfl⟩
end Go.Proofs.YtaliipcgekhepaaGreat
