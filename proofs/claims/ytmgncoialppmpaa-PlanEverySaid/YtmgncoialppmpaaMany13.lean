/-
  Several texts, one behind the other: what each holds stands ahead of it.
-/
import Derived.Test.YtmgncoialppmpaaMany6
import Derived.Test.YtmgncoialppmpaaMany8
import Derived.Test.YtmgncoialppmpaaMany11

/-
  Contracts of LentLines, StaysLines.
-/
namespace Go.Proofs.Ytmgncoialppmpaa
open Go.RowKit

theorem linsOne (l : List Lin) : ∀ u ∈ lins l, u.oneCell' = true := by
  intro u hu
  obtain ⟨a, _, hu⟩ := List.mem_flatMap.1 hu
  simp [Lin.cells] at hu
  rcases hu with rfl | rfl | rfl <;> rfl
end Go.Proofs.Ytmgncoialppmpaa

/-
  Contract of plan's (Template).journal.
-/
namespace Go.Proofs.Ytmgncoialppmpaa
open Go.RowKit

/-- A line appended to a row of one's own. -/
theorem append_lin {w : World} {base m : Nat} {v : Value} {L : List Lin} (x : Lin) (h : w.ownsRow base 40 3 v m (lins L)) (hb : base ≤ w.heap.size) (hm : m ≤ 1000000) :
    ∃ v' w', (∀ ty, (Builtin.append_ #[36, 36] ty #[v, .slice (some ⟨w.heap.size, 0, none⟩) 1 1]).run Try.prog (w.alloc (.cells #[.int .i64 x.acct, .int .i64 x.amt, .int .i64 x.part] 40)) = .ok v' w') ∧ w'.ownsRow base 40 3 v' (m + 1) (lins (L ++ [x])) ∧ But (fun k => v.ownBlock = some k) w w' ∧ Below base w w' := by
  have hR : Rd (w.alloc (.cells #[.int .i64 x.acct, .int .i64 x.amt, .int .i64 x.part] 40)) (w.heap.size + 1) 3 (some ⟨w.heap.size, 0, none⟩) 1 (lins [x]) := ⟨rfl, fun _ => ⟨_, rfl, by simp, cells_new w [.int .i64 x.acct, .int .i64 x.amt, .int .i64 x.part] 40⟩⟩
  have h1 : (w.alloc (.cells #[.int .i64 x.acct, .int .i64 x.amt, .int .i64 x.part] 40)).ownsRow base 40 3 v m (lins L) := own_kept h fun k hk _ => Below.heap_alloc w _ _ hk
  obtain ⟨v', w', hrun, hown, hg, _⟩ := append_fresh (P := Try.prog) (ty := 0) (c := 1) infoLin Try.underlying36 rfl (by omega) base v m (lins L) h1 hR (linsOne _) (by unfold maxLen; omega) (by omega) (by simp; omega)
  rw [← lins_append] at hown
  refine ⟨v', w', fun ty => hrun, hown, ?_, ?_⟩
  · exact (But.of_below ((Below.refl _ _).alloc (Nat.le_refl _) _)).trans (But.of_grown hg)
  · exact ((Below.refl _ _).alloc hb _).grown hg (by simp; omega) (own_ge h)

theorem six_far {w : World} {b q : Nat} (hq : q ≠ b) (v0 v1 v2 v3 v4 v5 : Value) : ((((((w.setCell ⟨b, 0, none⟩ v0).setCell ⟨b, 1, none⟩ v1).setCell ⟨b, 2, none⟩ v2).setCell ⟨b, 3, none⟩ v3).setCell ⟨b, 4, none⟩ v4).setCell ⟨b, 5, none⟩ v5).heap[q]? = w.heap[q]? := by
  have e : ∀ (u : World) (i : Nat) (v : Value), (u.setCell ⟨b, i, none⟩ v).heap[q]? = u.heap[q]? := fun u i v => Below.heap_setCell _ _ _ _ hq
  rw [e, e, e, e, e, e]
set_option maxRecDepth 100000 in
set_option maxHeartbeats 2000000 in
theorem journal_any (t : Tpl) (per id : Int) (v : Value) (m base : Nat) (L : List Lin) (w : World) (h : w.ownsRow base 40 3 v m (lins L)) (hb : base ≤ w.heap.size) (hm : m ≤ 1000000) (ha : 1 ≤ t.amt ∧ t.amt ≤ 1000000000000000) :
    Calls Try.prog 40 #[.agg t.cells.toArray, .int .i64 per, .int .i64 id, v] w fun e w' => ∃ A c, e = .returned (.agg #[.int .i64 id, .int .i64 t.ent, .int .i64 per, .string ⟨#[]⟩, .slice A (m + 1) c, .bool false]) ∧ w'.ownsRow base 40 3 (.slice A (m + 1) c) (m + 1) (lins (L ++ [⟨t.cre, -t.amt, 0⟩])) ∧ Below base w w' := by
  obtain ⟨W, hW⟩ : ∃ W, (w.alloc (.cells t.cells.toArray 24)).alloc (.cells #[.int .i64 0, .int .i64 0, .int .i64 0, .string ⟨#[]⟩, .slice none 0 0, .bool false] 38) = W := ⟨_, rfl⟩
  have hbW : Below w.heap.size w W := by rw [← hW]; exact ((Below.refl _ _).alloc (Nat.le_refl _) _).alloc (by simp) _
  have hzW : W.heap.size = w.heap.size + 1 + 1 := by rw [← hW]; simp
  have hx : TplAt W w.heap.size t := by rw [← hW]; exact (Below.heap_alloc _ _ _ (by simp)).trans (heap_new w _)
  have hj : JAt W (w.heap.size + 1) zeroJ none 0 0 := by
    rw [← hW]
    have := heap_new (w.alloc (.cells t.cells.toArray 24)) (.cells #[.int .i64 0, .int .i64 0, .int .i64 0, .string ⟨#[]⟩, .slice none 0 0, .bool false] 38)
    rw [show (w.alloc (.cells t.cells.toArray 24)).heap.size = w.heap.size + 1 by simp] at this
    exact this
  have hwr : wrap64 (-t.amt) = -t.amt := by unfold wrap64; omega
  obtain ⟨v', w', hrun, hown, hbut, hbel⟩ := append_lin ⟨t.cre, -t.amt, 0⟩ (own_kept h fun k hk _ => hbW.block k hk) (Nat.le_trans hb hbW.size) hm
  rw [hzW, ← hW] at hrun
  obtain ⟨A, c, rfl⟩ := own_form hown
  have HR := Lib.hid hrun
  have HOWN := Lib.hid hown
  have HBEL : Hid (Below base w w') := (hbW.mono hb).trans hbel
  obtain ⟨⟨x0, x1, x2, x3, x4, x5⟩, x6, x7, x8, x9, x10, x11⟩ := tpl_cells hx
  have hne : ∀ k, k = w.heap.size ∨ k = w.heap.size + 1 → v.ownBlock ≠ some k := fun k hk e => by
    have := own_lt h k e
    omega
  have hx' : TplAt w' w.heap.size t := (hbut.block _ (by omega) (hne _ (.inl rfl))).trans hx
  have hj' : JAt w' (w.heap.size + 1) zeroJ none 0 0 := (hbut.block _ (by omega) (hne _ (.inr rfl))).trans hj
  have HX := Lib.hid hx'; have HJ := Lib.hid hj'
  clear hW hbW hzW hx hj h hrun hown hbut hbel hne hx' hj' x0 x1 x2 x3 x4 x5 x6 x7 x8 x9 x10 x11
  obtain ⟨⟨x0, x1, x2, x3, x4, x5⟩, x6, x7, x8, x9, x10, x11⟩ := tpl_cells HX.out
  obtain ⟨y0, y1, y2, y3, y4, y5⟩ := six_cells HJ.out
  have yf := fun o => warm_of HJ.out o
  unfold Tpl.cells at *
  go_enter Try.func40, Try.ntmps40
  go_wp2_with (at_builtin; refine wpList_append_run rfl _ _ _ rfl _ _ _ _ rfl rfl (HR.out _) ?_)
  refine bodyPost_ret (v := .agg #[.int .i64 id, .int .i64 t.ent, .int .i64 per, .string ⟨#[]⟩, .slice A (m + 1) c, .bool false]) (by simp [results, Try.results40, go_sem, y0, y1, y2, y3, y4, y5]) rfl ?_
  refine ⟨A, c, rfl, own_kept HOWN.out fun k _ hk => six_far (fun e => ?_) _ _ _ _ _ _, below_six HBEL.out (by omega) _ _ _ _ _ _⟩
  rw [e] at hk
  exact own_ne HOWN.out HJ.out (by decide) hk
end Go.Proofs.Ytmgncoialppmpaa
