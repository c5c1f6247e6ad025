/-
  Contract of the reference's Copy.
-/
import Derived.Test.YtjnlfecfpeedoaaEntryCheck2
import Derived.Test.YtjnlfecfpeedoaaLinsLent
import Derived.LoopN
import Derived.Laws.EntriesVeiled
namespace Go.Proofs.Ytjnlfecfpeedoaa
open Go.RowKit

set_option maxRecDepth 100000 in
set_option maxHeartbeats 2000000 in
theorem refCopy_any (j : Jrn) (A : Option Addr) (n c B : Nat) (w : World) (h : Rd w B 3 A n (lins j.lines)) (hB : B ≤ w.heap.size) (hn : n ≤ 1000000) :
    Calls Try.prog 22 #[j.val A n c] w fun e w' => ∃ A' c', e = .returned (.agg #[.int .i64 j.id, .int .i64 j.ent, .int .i64 j.per, .string j.ref, .slice A' n c', .bool j.void]) ∧ w'.ownsRow w.heap.size 52 3 (.slice A' n c') n (lins j.lines) ∧ Below w.heap.size w w' := by
  obtain ⟨W2, hW2⟩ : ∃ W2, (w.alloc (.cells #[.int .i64 j.id, .int .i64 j.ent, .int .i64 j.per, .string j.ref, .slice A n c, .bool j.void] 33)).alloc (.cells #[.int .i64 0, .int .i64 0, .int .i64 0, .string ⟨#[]⟩, .slice none 0 0, .bool false] 33) = W2 := ⟨_, rfl⟩
  have hb2 : Below w.heap.size w W2 := by rw [← hW2]; exact ((Below.refl _ _).alloc (Nat.le_refl _) _).alloc (by simp) _
  have hz2 : W2.heap.size = w.heap.size + 2 := by rw [← hW2]; simp
  have hbox : JAt W2 w.heap.size j A n c := by
    rw [← hW2]
    exact (Below.heap_alloc _ _ _ (by simp)).trans (heap_new w _)
  have hres : JAt W2 (w.heap.size + 1) zeroJ none 0 0 := by
    rw [← hW2]
    have := heap_new (w.alloc (.cells #[.int .i64 j.id, .int .i64 j.ent, .int .i64 j.per, .string j.ref, .slice A n c, .bool j.void] 33)) (.cells #[.int .i64 0, .int .i64 0, .int .i64 0, .string ⟨#[]⟩, .slice none 0 0, .bool false] 33)
    rw [show (w.alloc (.cells #[.int .i64 j.id, .int .i64 j.ent, .int .i64 j.per, .string j.ref, .slice A n c, .bool j.void] 33)).heap.size = w.heap.size + 1 by simp] at this
    exact this
  obtain ⟨v3, w3, hrun, hown, hg, _⟩ := append_fresh (P := Try.prog) (w := W2) (ty := 31) (c := c) infoLin Try.underlying31 rfl (by omega) W2.heap.size (.slice none 0 0) 0 [] (World.ownsRow_nil _ _ _ _) (h.far hb2 hB) (linsOne _) (by unfold maxLen; omega) (by omega) (Nat.le_refl _)
  rw [Nat.zero_add, List.nil_append] at hown
  obtain ⟨A', c', rfl⟩ := own_form hown
  have hk : ∀ q, q < W2.heap.size → w3.heap[q]? = W2.heap[q]? := fun q hq => hg.block q hq (fun e => by cases e)
  have hbox3 : JAt w3 w.heap.size j A n c := (hk _ (by omega)).trans hbox
  have hres3 : JAt w3 (w.heap.size + 1) zeroJ none 0 0 := (hk _ (by omega)).trans hres
  have hb3 : Below W2.heap.size W2 w3 := ⟨hg.os, hg.tape, hg.output, hg.size, hk⟩
  obtain ⟨x0, x1, x2, x3, x4, x5⟩ := six_cells hbox3
  have xf := fun o => warm_of hbox3 o
  obtain ⟨y0, y1, y2, y3, y4, y5⟩ := six_cells hres3
  have yf := fun o => warm_of hres3 o
  have HR := Lib.hid hrun
  have HOWN := Lib.hid hown
  have HB : Hid (Below w.heap.size w w3) := hb2.trans (hb3.mono hb2.size)
  have HW2 := Lib.hid hW2
  have hlt3 : w.heap.size + 1 < w3.heap.size := lt_of_blk hres3
  have HZ2 := Lib.hid hz2
  clear hrun hown hg hW2 hb2 hbox hres hbox3 hres3 hb3 hk h hz2
  unfold Jrn.val
  go_enter Try.func22, Try.ntmps22
  go_wp2_with (at_builtin; rw [HW2.out]; refine wpList_append_run rfl _ _ _ rfl _ _ _ _ rfl rfl HR.out ?_)
  refine bodyPost_ret (v := .agg #[.int .i64 j.id, .int .i64 j.ent, .int .i64 j.per, .string j.ref, .slice A' n c', .bool j.void]) (by simp [results, Try.results22, go_sem, y0, y1, y2, y3, y4, y5]) rfl ⟨A', c', rfl, ?_, ?_⟩
  · refine own_base (own_six (own_kept HOWN.out fun q hq ho => ?_) (by have := HZ2.out; omega) _ _ _ _ _ _) (by have := HZ2.out; omega)
    have hge := own_ge HOWN.out q ho
    exact Below.heap_setCell _ _ _ _ (by have := HZ2.out; show q ≠ w.heap.size; omega)
  · exact below_six (HB.out.setCell (p := ⟨w.heap.size, 4, none⟩) (Nat.le_refl _) _) (Nat.le_succ _) _ _ _ _ _ _
end Go.Proofs.Ytjnlfecfpeedoaa
