/-
  Several texts, one behind the other: what each holds stands ahead of it.
-/
import Derived.Test.YtpbdmohccebhhaaGreatMany2
import Derived.Test.YtpbdmohccebhhaaGreatBookKGrow

/-
  Lines as a kind of a book's lists: marks.
-/
namespace Go.Proofs.YtpbdmohccebhhaaGreat
open Go.RowKit

def linMark (i k : Nat) : Lin := ⟨-1000 * (i : Int) - (k : Int) - 1, 0, 0⟩
def kLines : Kind where
  f := 8
  t := 41
  e := 100
  size := 3
  mark := fun i k => (linMark i k).cells
  hf := by decide
  hs := by decide
  hte := by decide
  htb := by decide
  heb := by decide
  hm := fun _ _ => rfl
theorem infoLines : (Tryz.prog.info? kLines.t).map (fun i => (i.zero, i.size, i.bytes)) = some (some (.slice none 0 0), 1, 24) := by kernel_rfl
theorem lins_one (l : List Lin) : ∀ u ∈ lins l, u.oneCell' = true := by
  intro u hu
  obtain ⟨a, _, hu⟩ := List.mem_flatMap.1 hu
  simp [Lin.cells] at hu
  rcases hu with rfl | rfl | rfl <;> rfl
def markLins (i a n : Nat) : List Lin := (List.range n).map fun k => linMark i (a + k)
theorem marks_lins (i a n : Nat) : kLines.marks i a n = lins (markLins i a n) := by
  unfold Kind.marks lins markLins
  rw [List.flatMap_map]; rfl
theorem markLins_same (i n : Nat) : (markLins i 0 n == markLins i 0 n) = true := by simp
theorem marks_oneLin (i a n : Nat) : ∀ u ∈ kLines.marks i a n, u.oneCell' = true := by rw [marks_lins]; exact lins_one _

set_option maxRecDepth 100000 in
set_option maxHeartbeats 1000000 in
theorem markLines_any (i a n : Nat) (w : World) (hi : i ≤ 1000) (ha : a ≤ 2000000) (hn : n ≤ 2000000) :
    Calls Tryz.prog 173 #[.int .i64 i, .int .i64 a, .int .i64 n] w fun e w' => ∃ A c, e = .returned (.slice A n c) ∧ w'.ownsRow w.heap.size 100 3 (.slice A n c) n (kLines.marks i a n) ∧ Below w.heap.size w w' := by
  obtain ⟨i0, hi0, hz0, hz1, hz2⟩ := info_parts infoLin
  have hI := Lib.hid hi0; have hZ0 := Lib.hid hz0; have hZ1 := Lib.hid hz1; have hZ2 := Lib.hid hz2
  clear hi0 hz0 hz1 hz2
  go_enter Tryz.func173, Tryz.ntmps173
  go_wp2_with fail
  go_loopw [7, 8] (fun lv kv wr => ∃ (k : Nat) (A : Option Addr) (c : Nat), k ≤ n ∧ kv = .int .i64 ((a : Int) + (k : Int)) ∧ lv = .slice A k c ∧ wr.ownsRow w.heap.size 100 3 (.slice A k c) k (kLines.marks i a k) ∧ Below w.heap.size w wr) (fun _ kv _ => a + n - (intOf kv).toNat)
  case atStart => exact ⟨0, none, 0, Nat.zero_le _, by simp, rfl, World.ownsRow_nil _ _ _ _, Below.refl _ _⟩
  case round =>
    obtain ⟨k, A, c, hk, rfl, rfl, hown, hbel⟩ := hrel
    have hsz := hbel.size
    by_cases hlt : k < n
    · have HX : Hid ([.int .i64 (-1000 * (i : Int) - ((a : Int) + (k : Int)) - 1), .int .i64 0, .int .i64 0] = kLines.mark i (a + k)) := by
        unfold Hid
        show _ = (linMark i (a + k)).cells
        unfold linMark Lin.cells
        simp only [Int.natCast_add]
      go_wp2_with (at_builtin; refine wpList_append_lies _ rfl _ _ 41 rfl w.heap.size 100 i0 (.agg #[.int .i64 0, .int .i64 0, .int .i64 0]) 3 24 Tryz.underlying41 hI.out hZ0.out hZ1.out hZ2.out rfl (by decide) _ k _ rfl (own_kept hown fun q hq _ => Below.heap_alloc _ _ _ hq) ⟨wr.heap.size, 0, none⟩ 1 1 [.int .i64 (-1000 * (i : Int) - ((a : Int) + (k : Int)) - 1), .int .i64 0, .int .i64 0] rfl rfl (cells_new _ _ _) (by simp [Value.oneCell']) (by omega) (by unfold maxLen; omega) (by omega) (by simp; omega) _ rfl ?_)
      intro g cap w2 hown2 hg2 hat2 hlt2
      have hB2 : Hid (Below w.heap.size w w2) := (hbel.alloc hsz _).grown hg2 (by simp; omega) (own_ge hown)
      have HO2 := Lib.hid hown2
      clear hown2 hg2 hown hbel
      go_wp2
      refine ⟨⟨k + 1, some ⟨g, 0, none⟩, cap, by omega, by go_num, rfl, ?_, hB2.out⟩, by simp [intOf]; omega⟩
      have := HO2.out
      rw [HX.out] at this
      rw [Kind.marks_succ]
      exact this
    · obtain rfl : k = n := by omega
      have HO := Lib.hid hown
      clear hown
      go_wp2
      go_ret
      exact ⟨A, c, rfl, HO.out, hbel⟩
end Go.Proofs.YtpbdmohccebhhaaGreat

/-
  Copies of lists.
-/
namespace Go.Proofs.YtpbdmohccebhhaaGreat
open Go.RowKit

set_option maxRecDepth 100000 in
set_option maxHeartbeats 400000 in
theorem copyLines_any (l : List Lin) (A : Option Addr) (n c B : Nat) (w : World) (h : Rd w B 3 A n (lins l)) (hn : n ≤ 1000000) :
    Calls Tryz.prog 54 #[.slice A n c] w fun e w' => ∃ A' c', e = .returned (.slice A' n c') ∧ w'.ownsRow w.heap.size 100 3 (.slice A' n c') n (lins l) ∧ Below w.heap.size w w' := by
  obtain ⟨v', w', hrun, hown, hg, _⟩ := append_fresh (P := Tryz.prog) (w := w) (ty := 41) (c := c) infoLin Tryz.underlying41 rfl (by omega) w.heap.size (.slice none 0 0) 0 [] (World.ownsRow_nil _ _ _ _) h (lins_one _) (by unfold maxLen; omega) (by omega) (Nat.le_refl _)
  rw [Nat.zero_add, List.nil_append] at hown
  obtain ⟨A', c', rfl⟩ := own_form hown
  have HO := Lib.hid hown
  have HG := Lib.hid hg
  have HR := Lib.hid hrun
  clear hown hg h hn hrun
  go_enter Tryz.func54, Tryz.ntmps54
  go_wp2_with (at_builtin; refine wpList_append_run rfl _ _ _ rfl _ _ _ _ rfl rfl HR.out ?_)
  go_ret
  exact ⟨A', c', rfl, HO.out, (Below.refl _ _).grown HG.out (Nat.le_refl _) (fun k h => by cases h)⟩

end Go.Proofs.YtpbdmohccebhhaaGreat

/-
  One more list of lines in a book.
-/
namespace Go.Proofs.YtpbdmohccebhhaaGreat
open Go.RowKit

set_option maxRecDepth 100000 in
set_option maxHeartbeats 1000000 in
theorem bookLines_any (b B m n cl : Nat) (F V U : Nat → Value) (N : Nat → Nat) (L : Nat → List Value) (Al : Option Addr) (l : List Lin) (w : World) (h : kLines.Kept w B b F m V U N L) (hm : m < 250) (hlv : w.ownsRow B 100 3 (.slice Al n cl) n (lins l)) (hn : n ≤ 1000000)
    (hd : ∀ i, i < m → ∀ k, (Value.slice Al n cl).ownBlock = some k → (V i).ownBlock ≠ some k) :
    Calls Tryz.prog 27 #[.pointer (some ⟨b, 0, none⟩), .slice Al n cl] w fun e w' => e = .returned (.tuple #[]) ∧
      ∃ F' cv, kLines.Kept w' B b F' (m + 1) (upd V m (.slice Al n cl)) (upd U m cv) (fun k => if k = m then n else N k) (fun k => if k = m then lins l else L k) ∧ (∀ k, k ≠ 8 → k ≠ 9 → F' k = F k) ∧ Below B w w' ∧ (∀ k, cv.ownBlock = some k → w.heap.size ≤ k) ∧ Only [kLines.t, 40] w w' := by
  have HK := Lib.hid h
  obtain ⟨h1, h2, h3, h4, h5, h6, h7⟩ := h
  have hbl := h1.lt
  have hBs : B ≤ w.heap.size := by omega
  obtain ⟨A2, c2, e2⟩ := own_form h3
  obtain ⟨A3, c3, e3⟩ := own_form h4
  have hc2 : w.cell? ⟨b, 8, none⟩ = some (F 8) := h1.cell (i := 8) (by omega)
  obtain ⟨v1, w1, hrun1, ht1, hsz1, hk1, hv1, ho1, ho2, ho3⟩ := Kind.push (T := 33) h3 infoLines Tryz.underlying33 (.slice Al n cl) rfl (by omega) hBs
  obtain ⟨k1, k2, k3, k4, k5, k6, k7, k8, k9⟩ := Kind.first HK.out _ ht1 hk1 hv1
  obtain ⟨A1, c1, e1⟩ := own_form ht1
  have hc3 : (w1.setCell ⟨b, 8, none⟩ v1).cell? ⟨b, 9, none⟩ = some (F 9) := by
    have := k1.cell (i := 9) (by omega)
    rwa [upd_other _ _ (by decide)] at this
  have hne : ¬ kLines.e ∈ [kLines.t, 40] := by decide
  have hown2 := k9.own hlv hne
  have K9 := Lib.hid k9
  have hB1 : Below B w (w1.setCell ⟨b, 8, none⟩ v1) := by
    have hx : Below B w w1 := ⟨ho1, ho2, ho3, by omega, fun k hk => hk1 k (by omega) (fun e => by have := own_ge h3 k e; omega)⟩
    exact hx.setCell h2 _
  have hz1 : w.heap.size + 1 ≤ w1.heap.size := hsz1
  have k7' : w1.cell? ⟨b, 8, none⟩ = some (F 8) := k7
  have k8' : w1.frozen? ⟨b, 8, none⟩ = false := k8
  have e2' : F 8 = .slice A2 m c2 := e2
  have e3' : F 9 = .slice A3 m c3 := e3
  rw [e2'] at hc2 k7'
  rw [e2] at hrun1
  rw [e3'] at hc3
  subst e1
  have HR1 : Hid ((Builtin.append_ #[33, 33] 33 #[.slice A2 m c2, .slice (some ⟨w.heap.size, 0, none⟩) 1 1]).run Tryz.prog (w.alloc (.cells #[.slice Al n cl] 41)) = .ok (.slice A1 (m + 1) c1) w1) := hrun1
  have K1 : Hid (BookAt (w1.setCell ⟨b, 8, none⟩ (.slice A1 (m + 1) c1)) b (upd F 8 (.slice A1 (m + 1) c1))) := k1
  have K2 : Hid (kLines.Tab (w1.setCell ⟨b, 8, none⟩ (.slice A1 (m + 1) c1)) B (.slice A1 (m + 1) c1) (m + 1) (upd V m (.slice Al n cl))) := k2
  have K3 : Hid (kLines.Tab (w1.setCell ⟨b, 8, none⟩ (.slice A1 (m + 1) c1)) B (F 9) m U) := k3
  have K4 : Hid (∀ k, (Value.slice A1 (m + 1) c1).ownBlock = some k → (F 9).ownBlock ≠ some k) := k4
  have K5 : Hid (kLines.Rows (w1.setCell ⟨b, 8, none⟩ (.slice A1 (m + 1) c1)) B m V N L) := k5
  have K6 : Hid (kLines.Rows (w1.setCell ⟨b, 8, none⟩ (.slice A1 (m + 1) c1)) B m U N L) := k6
  have HE3 := Lib.hid e3'
  have HO2 : Hid ((w1.setCell ⟨b, 8, none⟩ (.slice A1 (m + 1) c1)).ownsRow B 100 3 (.slice Al n cl) n (lins l)) := hown2
  have K9' : Hid (Only [kLines.t, 40] w (w1.setCell ⟨b, 8, none⟩ (.slice A1 (m + 1) c1))) := k9
  have hB1' : Below B w (w1.setCell ⟨b, 8, none⟩ (.slice A1 (m + 1) c1)) := hB1
  clear hrun1 k1 k2 k3 k4 k5 k6 k7 k8 k9 e2 e3 e2' e3' h1 h3 h4 h5 h6 h7 ht1 hk1 hv1 ho1 ho2 ho3 hown2 hB1 K9 hne
  go_enter Tryz.func27, Tryz.ntmps27
  go_wp2_with (at_builtin; refine wpList_append_run rfl _ _ _ rfl _ _ _ _ rfl rfl HR1.out ?_)
  generalize w1.setCell ⟨b, 8, none⟩ (Value.slice A1 (m + 1) c1) = w2 at *
  have hbl2 : b < w2.heap.size := by have := hB1'.size; omega
  have HD := Lib.hid hd
  clear hd
  go_region_law (first
    | (obtain ⟨v4, w4, hrun4, ht4, hsz4, hk4, hv4, hp1, hp2, hp3⟩ := Kind.push (T := 33) (w := w3) (own_kept K3.out fun k hk _ => hb3.block k hk) infoLines Tryz.underlying33 (.slice A5 n c5) rfl (by omega) (Nat.le_trans (Nat.le_trans h2 (Nat.le_of_lt hbl2)) hb3.size)
       rw [HE3.out] at hrun4 hk4 hv4
       obtain ⟨A4, c4, rfl⟩ := own_form ht4
       refine step_append_run rfl (.tmp 24) (.tmp 27) 33 rfl (.slice A3 m c3) (.slice (some ⟨w3.heap.size, 0, none⟩) 1 1) (.slice A4 (m + 1) c4) w4 (by simp [Act.eval]) (by simp [Act.eval]) hrun4 ?_
       obtain ⟨hfin, hx1, hx2, hx3⟩ := Kind.second (K := kLines) (F := F) K1.out h2 K2.out K3.out K4.out K5.out K6.out HO2.out HD.out ⟨hb3.os, hb3.tape, hb3.output, hb3.size, hb3.block⟩ hcv ht4 (by show ∀ k, k < w3.heap.size → (F 9).ownBlock ≠ some k → _; rw [HE3.out]; exact hk4) (by show _ = (F 9).ownBlock ∨ _; rw [HE3.out]; exact hv4) (Nat.le_trans h2 (Nat.le_of_lt hbl2))
       have hy1 : w4.cell? ⟨b, 9, none⟩ = some (F 9) := hx1
       have hy2 : w4.frozen? ⟨b, 9, none⟩ = false := hx2
       rw [HE3.out] at hy1)
    | (go_simp; go_at_call 54; refine (copyLines_any l Al n cl _ w2.drew (rd_of_own HO2.out) (by omega)).mono ?_; rintro e w3 ⟨A5, c5, rfl, hcv, hb3⟩; have hc3b := (hb3.cell (p := ⟨b, 9, none⟩) hbl2).trans hc3; have hbl3 : b < w3.heap.size := Nat.lt_of_lt_of_le hbl2 hb3.size))
  all_goals
    go_end0
    refine ⟨rfl, _, _, hfin, fun k e2 e3 => ?_, ?_, fun k hk => Nat.le_trans hB1'.size (own_ge hcv k hk), K9'.out.trans hx3⟩
    · show upd (upd F 8 _) 9 _ k = F k
      rw [upd_other _ _ e3, upd_other _ _ e2]
    · have hx4 : Below B w3 w4 := ⟨hp1, hp2, hp3, by omega, fun k hk => hk4 k (Nat.lt_of_lt_of_le hk (Nat.le_trans (Nat.le_trans h2 (Nat.le_of_lt hbl2)) hb3.size)) (fun e => by have := own_ge K3.out k (by rw [HE3.out]; exact e); omega)⟩
      exact ((hB1'.drew.trans (hb3.mono (Nat.le_trans h2 (Nat.le_of_lt hbl2)))).trans hx4).setCell h2 _
end Go.Proofs.YtpbdmohccebhhaaGreat
