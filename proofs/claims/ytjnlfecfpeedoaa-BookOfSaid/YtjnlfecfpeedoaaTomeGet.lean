/-
  Contract of (*Book).Get.
-/
import Derived.Test.YtjnlfecfpeedoaaTomeSteps
namespace Go.Proofs.Ytjnlfecfpeedoaa
open Go.RowKit

set_option maxRecDepth 100000 in
set_option maxHeartbeats 2000000 in
theorem get_some (B c : Nat) (v : Value) (l : List JR) (x : Int) (a : JR) (w : World) (h : TomeAt w B c v l) (hf : findK JR.id l x = some a) :
    Calls Try.prog 21 #[.pointer (some ⟨c, 0, none⟩), .int .i64 x] w fun e w' => ∃ A' c', e = .returned (.tuple #[.agg #[.int .i64 a.j.id, .int .i64 a.j.ent, .int .i64 a.j.per, .string a.j.ref, .slice A' a.j.lines.length c', .bool a.j.void], .bool true]) ∧ w'.ownsRow w.heap.size 52 3 (.slice A' a.j.lines.length c') a.j.lines.length (lins a.j.lines) ∧ Below w.heap.size w w' := by
  obtain ⟨W, hW⟩ : ∃ W, w.alloc (.cells #[.int .i64 0, .int .i64 0, .int .i64 0, .string ⟨#[]⟩, .slice none 0 0, .bool false] 33) = W := ⟨_, rfl⟩
  have hbW : Below w.heap.size w W := by rw [← hW]; exact (Below.refl _ _).alloc (Nat.le_refl _) _
  have hzW : W.heap.size = w.heap.size + 1 := by rw [← hW]; simp
  have hres : JAt W w.heap.size zeroJ none 0 0 := by rw [← hW]; exact heap_new w _
  have HRES := Lib.hid hres
  have HW := Lib.hid hW
  have HBW := Lib.hid hbW
  have HZW := Lib.hid hzW
  have HC := Lib.hid (h.below hbW)
  have kp := Lib.hid (place_any B c v l x W HC.out)
  obtain ⟨hat, _⟩ := findK_some h.rise hf
  rw [hf] at kp
  have HAT := Lib.hid hat
  clear h hf hat hres hbW hW
  generalize posK JR.id l x = p at *
  go_enter Try.func21, Try.ntmps21
  go_wp2_with fail
  rw [HW.out]
  refine kp.out.mono ?_
  rintro e w1 ⟨rfl, hb⟩
  have hC2 := HC.out.below hb
  have hcc := hC2.cell
  obtain ⟨g, cap, rfl, hpl, hgl, hBg, hcs, hfz⟩ := hC2.at HAT.out
  have p0 := hcs 0 _ rfl
  rw [Nat.add_zero] at p0
  have p1 := hcs 1 _ rfl
  have p2 := hcs 2 _ rfl
  have p3 := hcs 3 _ rfl
  have p4 := hcs 4 _ rfl
  have p5 := hcs 5 _ rfl
  have hpI : (p : Int) < (l.length : Int) := by omega
  have HB := Lib.hid hb
  have hmem := List.mem_of_getElem? HAT.out
  have h0 : a.A = none → a.c = 0 := by
    intro e
    rcases (hC2.lines a hmem).2 with ⟨h1, _⟩ | ⟨g2, c2, cur, h1, _⟩
    · unfold JR.lv at h1; injection h1
    · unfold JR.lv at h1; injection h1 with h1; rw [e] at h1; cases h1
  have ky := Lib.hid (entryCopy_any a.j a.A a.j.lines.length a.c _ w1 (hC2.rd hmem) (Nat.le_refl _) (by have := (checkE_len (hC2.ok a hmem)).1; omega) h0)
  unfold Jrn.val at ky
  clear hb hC2 hcs hfz hmem h0
  go_wp2_with fail
  refine ky.out.mono ?_
  rintro e w2 ⟨A', c', rfl, hown, hb2⟩
  have hres2 : JAt w2 w.heap.size zeroJ none 0 0 := (hb2.block _ (by have := HZW.out; have := HB.out.size; omega)).trans ((HB.out.block _ (by have := HZW.out; omega)).trans HRES.out)
  obtain ⟨y0, y1, y2, y3, y4, y5⟩ := six_cells hres2
  have yf := fun o => warm_of hres2 o
  have hlt3 : w.heap.size < w2.heap.size := lt_of_blk hres2
  have HB1 : Hid (Below w.heap.size w w1) := HBW.out.trans (HB.out.mono HBW.out.size)
  have HB2 : Hid (Below w.heap.size w w2) := HB1.out.trans (hb2.mono HB1.out.size)
  have hlt1 : w.heap.size < w1.heap.size := by have := HZW.out; have := HB.out.size; omega
  have HOWN := Lib.hid hown
  clear hown hres2 hb2 p0 p1 p2 p3 p4 p5 hcc
  go_wp2_with fail
  refine bodyPost_ret (v := .tuple #[.agg #[.int .i64 a.j.id, .int .i64 a.j.ent, .int .i64 a.j.per, .string a.j.ref, .slice A' a.j.lines.length c', .bool a.j.void], .bool true]) (by simp [results, Try.results21, go_sem, y0, y1, y2, y3, y4, y5]) rfl ⟨A', c', rfl, ?_, ?_⟩
  · exact own_base (own_six HOWN.out hlt1 _ _ _ _ _ _) (by omega)
  · exact below_six HB2.out (Nat.le_refl _) _ _ _ _ _ _

set_option maxRecDepth 100000 in
set_option maxHeartbeats 2000000 in
theorem get_none (B c : Nat) (v : Value) (l : List JR) (x : Int) (w : World) (h : TomeAt w B c v l) (hf : findK JR.id l x = none) :
    Calls Try.prog 21 #[.pointer (some ⟨c, 0, none⟩), .int .i64 x] w fun e w' => e = .returned (.tuple #[.agg #[.int .i64 0, .int .i64 0, .int .i64 0, .string ⟨#[]⟩, .slice none 0 0, .bool false], .bool false]) ∧ Below w.heap.size w w' := by
  obtain ⟨W, hW⟩ : ∃ W, w.alloc (.cells #[.int .i64 0, .int .i64 0, .int .i64 0, .string ⟨#[]⟩, .slice none 0 0, .bool false] 33) = W := ⟨_, rfl⟩
  have hbW : Below w.heap.size w W := by rw [← hW]; exact (Below.refl _ _).alloc (Nat.le_refl _) _
  have hzW : W.heap.size = w.heap.size + 1 := by rw [← hW]; simp
  have hres : JAt W w.heap.size zeroJ none 0 0 := by rw [← hW]; exact heap_new w _
  have HRES := Lib.hid hres
  have HW := Lib.hid hW
  have HBW := Lib.hid hbW
  have HZW := Lib.hid hzW
  have kp := Lib.hid (place_any B c v l x W (h.below hbW))
  rw [hf] at kp
  clear h hf hres hbW hW
  generalize posK JR.id l x = p at *
  go_enter Try.func21, Try.ntmps21
  go_wp2_with fail
  rw [HW.out]
  refine kp.out.mono ?_
  rintro e w2 ⟨rfl, hb⟩
  have hres2 : JAt w2 w.heap.size zeroJ none 0 0 := (hb.block _ (by have := HZW.out; omega)).trans HRES.out
  obtain ⟨y0, y1, y2, y3, y4, y5⟩ := six_cells hres2
  have yf := fun o => warm_of hres2 o
  have hlt3 : w.heap.size < w2.heap.size := lt_of_blk hres2
  have HB2 : Hid (Below w.heap.size w w2) := HBW.out.trans (hb.mono HBW.out.size)
  clear hres2 hb
  go_wp2_with fail
  refine bodyPost_ret (v := .tuple #[.agg #[.int .i64 0, .int .i64 0, .int .i64 0, .string ⟨#[]⟩, .slice none 0 0, .bool false], .bool false]) (by simp [results, Try.results21, go_sem, y0, y1, y2, y3, y4, y5]) rfl ⟨rfl, ?_⟩
  exact below_six HB2.out (Nat.le_refl _) _ _ _ _ _ _
set_option maxRecDepth 100000 in
set_option maxHeartbeats 2000000 in
theorem get_nil (x : Int) (w : World) : Calls Try.prog 21 #[.pointer none, .int .i64 x] w fun e w' => e = .returned (.tuple #[.agg #[.int .i64 0, .int .i64 0, .int .i64 0, .string ⟨#[]⟩, .slice none 0 0, .bool false], .bool false]) ∧ Below w.heap.size w w' := by
  obtain ⟨W, hW⟩ : ∃ W, w.alloc (.cells #[.int .i64 0, .int .i64 0, .int .i64 0, .string ⟨#[]⟩, .slice none 0 0, .bool false] 33) = W := ⟨_, rfl⟩
  have hbW : Below w.heap.size w W := by rw [← hW]; exact (Below.refl _ _).alloc (Nat.le_refl _) _
  have hres : JAt W w.heap.size zeroJ none 0 0 := by rw [← hW]; exact heap_new w _
  have HW := Lib.hid hW
  have HBW := Lib.hid hbW
  have kp := Lib.hid (place_nil x W)
  obtain ⟨y0, y1, y2, y3, y4, y5⟩ := six_cells hres
  have yf := fun o => warm_of hres o
  have hlt3 : w.heap.size < W.heap.size := lt_of_blk hres
  clear hres hbW hW
  go_enter Try.func21, Try.ntmps21
  go_wp2_with fail
  rw [HW.out]
  refine kp.out.mono ?_
  rintro e w2 ⟨rfl, rfl⟩
  go_wp2_with fail
  refine bodyPost_ret (v := .tuple #[.agg #[.int .i64 0, .int .i64 0, .int .i64 0, .string ⟨#[]⟩, .slice none 0 0, .bool false], .bool false]) (by simp [results, Try.results21, go_sem, y0, y1, y2, y3, y4, y5]) rfl ⟨rfl, ?_⟩
  exact below_six HBW.out (Nat.le_refl _) _ _ _ _ _ _
end Go.Proofs.Ytjnlfecfpeedoaa
