/-
  Several texts, one behind the other: what each holds stands ahead of it.
-/
import Derived.Test.YtaliipcgekhepaaGreatMany1
import Derived.Test.YtaliipcgekhepaaGreatBookEmpty
import Derived.Deep.RegionLaw
import Derived.Test.YtaliipcgekhepaaGreatBookKGrow
import Derived.Test.YtaliipcgekhepaaGreatMany3

/-
  The statements' book: lists of ints that are kept; contracts of markInts and Ints.
-/
namespace Go.Proofs.YtaliipcgekhepaaGreat
open Go.RowKit

/-- The marks of list i, from a place on. -/
def markL (i a n : Nat) : List Int := (List.range n).map fun k => -1000000 * (i : Int) - ((a + k : Nat) : Int) - 7
theorem markL_len (i a n : Nat) : (markL i a n).length = n := by simp [markL]
theorem markL_succ (i a n : Nat) : markL i a (n + 1) = markL i a n ++ [-1000000 * (i : Int) - ((a + n : Nat) : Int) - 7] := by simp [markL, List.range_succ]
theorem markL_add (i n : Nat) : ∀ m, markL i 0 (n + m) = markL i 0 n ++ markL i n m
  | 0 => by simp [markL]
  | m + 1 => by rw [← Nat.add_assoc, markL_succ, markL_add i n m, markL_succ, List.append_assoc, Nat.zero_add]

set_option maxRecDepth 100000 in
set_option maxHeartbeats 1000000 in
theorem markInts_any (i a n : Nat) (w : World) (hi : i ≤ 1000) (ha : a ≤ 2000000) (hn : n ≤ 2000000) :
    Calls Tryz.prog 91 #[.int .i64 i, .int .i64 a, .int .i64 n] w fun e w' => ∃ A c, e = .returned (.slice A n c) ∧ w'.ownsRow w.heap.size 3 1 (.slice A n c) n (ints .i64 (markL i a n)) ∧ Below w.heap.size w w' := by
  obtain ⟨i0, hi0, hz0, hz1, hz2⟩ := info_parts infoInt
  have hI := Lib.hid hi0; have hZ0 := Lib.hid hz0; have hZ1 := Lib.hid hz1; have hZ2 := Lib.hid hz2
  clear hi0 hz0 hz1 hz2
  go_enter Tryz.func91, Tryz.ntmps91
  go_wp2_with fail
  go_loopw [7, 8] (fun lv kv wr => ∃ (k : Nat) (A : Option Addr) (c : Nat), k ≤ n ∧ kv = .int .i64 ((a : Int) + (k : Int)) ∧ lv = .slice A k c ∧ wr.ownsRow w.heap.size 3 1 (.slice A k c) k (ints .i64 (markL i a k)) ∧ Below w.heap.size w wr) (fun _ kv _ => a + n - (intOf kv).toNat)
  case atStart => exact ⟨0, none, 0, Nat.zero_le _, by simp, rfl, World.ownsRow_nil _ _ _ _, Below.refl _ _⟩
  case round =>
    obtain ⟨k, A, c, hk, rfl, rfl, hown, hbel⟩ := hrel
    have hsz := hbel.size
    by_cases hlt : k < n
    · have HX : Hid (-1000000 * (i : Int) - ((a : Int) + (k : Int)) - 7 = -1000000 * (i : Int) - ((a + k : Nat) : Int) - 7) := by unfold Hid; omega
      obtain ⟨x, hx⟩ : ∃ x, x = -1000000 * (i : Int) - ((a : Int) + (k : Int)) - 7 := ⟨_, rfl⟩
      go_wp2_with (at_builtin; refine wpList_append_lies _ rfl _ _ 24 rfl w.heap.size 3 i0 (.int .i64 0) 1 8 Tryz.underlying24 hI.out hZ0.out hZ1.out hZ2.out rfl (by decide) _ k _ rfl (own_kept hown fun q hq _ => Below.heap_alloc _ _ _ hq) ⟨wr.heap.size, 0, none⟩ 1 1 [.int .i64 (-1000000 * (i : Int) - ((a : Int) + (k : Int)) - 7)] rfl rfl (cell_one_new _ _ _) (by simp [Value.oneCell']) (by omega) (by unfold maxLen; omega) (by omega) (by simp; omega) _ rfl ?_)
      intro g cap w2 hown2 hg2 hat2 hlt2
      have hB2 : Hid (Below w.heap.size w w2) := (hbel.alloc hsz _).grown hg2 (by simp; omega) (own_ge hown)
      have HO2 := Lib.hid hown2
      clear hown2 hg2 hown hbel
      go_wp2
      refine ⟨⟨k + 1, some ⟨g, 0, none⟩, cap, by omega, by go_num, rfl, ?_, hB2.out⟩, by simp [intOf]; omega⟩
      have := HO2.out
      rw [HX.out] at this
      rw [markL_succ]
      simpa [ints] using this
    · obtain rfl : k = n := by omega
      have HO := Lib.hid hown
      clear hown
      go_wp2
      go_ret
      exact ⟨A, c, rfl, HO.out, hbel⟩
end Go.Proofs.YtaliipcgekhepaaGreat

/-
  Ints as a kind of a book's lists: marks.
-/
namespace Go.Proofs.YtaliipcgekhepaaGreat
open Go.RowKit

def intMark (i k : Nat) : Int := -1000000 * (i : Int) - (k : Int) - 7
def kInts : Kind where
  f := 2
  t := 24
  e := 3
  size := 1
  mark := fun i k => [.int .i64 (intMark i k)]
  hf := by decide
  hs := by decide
  hte := by decide
  htb := by decide
  heb := by decide
  hm := fun _ _ => rfl
theorem infoKInts : (Tryz.prog.info? kInts.t).map (fun i => (i.zero, i.size, i.bytes)) = some (some (.slice none 0 0), 1, 24) := by kernel_rfl
theorem marks_ints (i a : Nat) : ∀ n, kInts.marks i a n = ints .i64 (markL i a n)
  | 0 => rfl
  | n + 1 => by rw [Kind.marks_succ, marks_ints i a n, markL_succ]; simp [ints, kInts, intMark]
theorem markL_same (i n : Nat) : (markL i 0 n == markL i 0 n) = true := by simp
theorem marks_oneInt (i a n : Nat) : ∀ u ∈ kInts.marks i a n, u.oneCell' = true := by rw [marks_ints]; exact ints_one _ _
theorem markKInts_any (i a n : Nat) (w : World) (hi : i ≤ 1000) (ha : a ≤ 2000000) (hn : n ≤ 2000000) :
    Calls Tryz.prog 91 #[.int .i64 i, .int .i64 a, .int .i64 n] w fun e w' => ∃ A c, e = .returned (.slice A n c) ∧ w'.ownsRow w.heap.size 3 1 (.slice A n c) n (kInts.marks i a n) ∧ Below w.heap.size w w' := by
  rw [marks_ints]; exact markInts_any i a n w hi ha hn
end Go.Proofs.YtaliipcgekhepaaGreat

/-
  One more list of ints in a book.
-/
namespace Go.Proofs.YtaliipcgekhepaaGreat
open Go.RowKit

set_option maxRecDepth 100000 in
set_option maxHeartbeats 1000000 in
theorem bookKInts_any (b B m n cl : Nat) (F V U : Nat → Value) (N : Nat → Nat) (L : Nat → List Value) (Al : Option Addr) (l : List Int) (w : World) (h : kInts.Kept w B b F m V U N L) (hm : m < 250) (hlv : w.ownsRow B 3 1 (.slice Al n cl) n (ints .i64 l)) (hn : n ≤ 1000000)
    (hd : ∀ i, i < m → ∀ k, (Value.slice Al n cl).ownBlock = some k → (V i).ownBlock ≠ some k) :
    Calls Tryz.prog 16 #[.pointer (some ⟨b, 0, none⟩), .slice Al n cl] w fun e w' => e = .returned (.tuple #[]) ∧
      ∃ F' cv, kInts.Kept w' B b F' (m + 1) (upd V m (.slice Al n cl)) (upd U m cv) (fun k => if k = m then n else N k) (fun k => if k = m then ints .i64 l else L k) ∧ (∀ k, k ≠ 2 → k ≠ 3 → F' k = F k) ∧ Below B w w' ∧ (∀ k, cv.ownBlock = some k → w.heap.size ≤ k) ∧ Only [kInts.t, 48] w w' := by
  have HK := Lib.hid h
  obtain ⟨h1, h2, h3, h4, h5, h6, h7⟩ := h
  have hbl := h1.lt
  have hBs : B ≤ w.heap.size := by omega
  obtain ⟨A2, c2, e2⟩ := own_form h3
  obtain ⟨A3, c3, e3⟩ := own_form h4
  have hc2 : w.cell? ⟨b, 2, none⟩ = some (F 2) := h1.cell (i := 2) (by omega)
  obtain ⟨v1, w1, hrun1, ht1, hsz1, hk1, hv1, ho1, ho2, ho3⟩ := Kind.push (T := 38) h3 infoKInts Tryz.underlying38 (.slice Al n cl) rfl (by omega) hBs
  obtain ⟨k1, k2, k3, k4, k5, k6, k7, k8, k9⟩ := Kind.first HK.out _ ht1 hk1 hv1
  obtain ⟨A1, c1, e1⟩ := own_form ht1
  have hc3 : (w1.setCell ⟨b, 2, none⟩ v1).cell? ⟨b, 3, none⟩ = some (F 3) := by
    have := k1.cell (i := 3) (by omega)
    rwa [upd_other _ _ (by decide)] at this
  have hne : ¬ kInts.e ∈ [kInts.t, 48] := by decide
  have hown2 := k9.own hlv hne
  have K9 := Lib.hid k9
  have hB1 : Below B w (w1.setCell ⟨b, 2, none⟩ v1) := by
    have hx : Below B w w1 := ⟨ho1, ho2, ho3, by omega, fun k hk => hk1 k (by omega) (fun e => by have := own_ge h3 k e; omega)⟩
    exact hx.setCell h2 _
  have hz1 : w.heap.size + 1 ≤ w1.heap.size := hsz1
  have k7' : w1.cell? ⟨b, 2, none⟩ = some (F 2) := k7
  have k8' : w1.frozen? ⟨b, 2, none⟩ = false := k8
  have e2' : F 2 = .slice A2 m c2 := e2
  have e3' : F 3 = .slice A3 m c3 := e3
  rw [e2'] at hc2 k7'
  rw [e2] at hrun1
  rw [e3'] at hc3
  subst e1
  have HR1 : Hid ((Builtin.append_ #[38, 38] 38 #[.slice A2 m c2, .slice (some ⟨w.heap.size, 0, none⟩) 1 1]).run Tryz.prog (w.alloc (.cells #[.slice Al n cl] 24)) = .ok (.slice A1 (m + 1) c1) w1) := hrun1
  have K1 : Hid (BookAt (w1.setCell ⟨b, 2, none⟩ (.slice A1 (m + 1) c1)) b (upd F 2 (.slice A1 (m + 1) c1))) := k1
  have K2 : Hid (kInts.Tab (w1.setCell ⟨b, 2, none⟩ (.slice A1 (m + 1) c1)) B (.slice A1 (m + 1) c1) (m + 1) (upd V m (.slice Al n cl))) := k2
  have K3 : Hid (kInts.Tab (w1.setCell ⟨b, 2, none⟩ (.slice A1 (m + 1) c1)) B (F 3) m U) := k3
  have K4 : Hid (∀ k, (Value.slice A1 (m + 1) c1).ownBlock = some k → (F 3).ownBlock ≠ some k) := k4
  have K5 : Hid (kInts.Rows (w1.setCell ⟨b, 2, none⟩ (.slice A1 (m + 1) c1)) B m V N L) := k5
  have K6 : Hid (kInts.Rows (w1.setCell ⟨b, 2, none⟩ (.slice A1 (m + 1) c1)) B m U N L) := k6
  have HE3 := Lib.hid e3'
  have HO2 : Hid ((w1.setCell ⟨b, 2, none⟩ (.slice A1 (m + 1) c1)).ownsRow B 3 1 (.slice Al n cl) n (ints .i64 l)) := hown2
  have K9' : Hid (Only [kInts.t, 48] w (w1.setCell ⟨b, 2, none⟩ (.slice A1 (m + 1) c1))) := k9
  have hB1' : Below B w (w1.setCell ⟨b, 2, none⟩ (.slice A1 (m + 1) c1)) := hB1
  clear hrun1 k1 k2 k3 k4 k5 k6 k7 k8 k9 e2 e3 e2' e3' h1 h3 h4 h5 h6 h7 ht1 hk1 hv1 ho1 ho2 ho3 hown2 hB1 K9 hne
  go_enter Tryz.func16, Tryz.ntmps16
  go_wp2_with (at_builtin; refine wpList_append_run rfl _ _ _ rfl _ _ _ _ rfl rfl HR1.out ?_)
  generalize w1.setCell ⟨b, 2, none⟩ (Value.slice A1 (m + 1) c1) = w2 at *
  have hbl2 : b < w2.heap.size := by have := hB1'.size; omega
  have HD := Lib.hid hd
  clear hd
  go_region_law (first
    | (obtain ⟨v4, w4, hrun4, ht4, hsz4, hk4, hv4, hp1, hp2, hp3⟩ := Kind.push (T := 38) (w := w3) (own_kept K3.out fun k hk _ => hb3.block k hk) infoKInts Tryz.underlying38 (.slice A5 n c5) rfl (by omega) (Nat.le_trans (Nat.le_trans h2 (Nat.le_of_lt hbl2)) hb3.size)
       rw [HE3.out] at hrun4 hk4 hv4
       obtain ⟨A4, c4, rfl⟩ := own_form ht4
       refine step_append_run rfl (.tmp 24) (.tmp 27) 38 rfl (.slice A3 m c3) (.slice (some ⟨w3.heap.size, 0, none⟩) 1 1) (.slice A4 (m + 1) c4) w4 (by simp [Act.eval]) (by simp [Act.eval]) hrun4 ?_
       obtain ⟨hfin, hx1, hx2, hx3⟩ := Kind.second (K := kInts) (F := F) K1.out h2 K2.out K3.out K4.out K5.out K6.out HO2.out HD.out ⟨hb3.os, hb3.tape, hb3.output, hb3.size, hb3.block⟩ hcv ht4 (by show ∀ k, k < w3.heap.size → (F 3).ownBlock ≠ some k → _; rw [HE3.out]; exact hk4) (by show _ = (F 3).ownBlock ∨ _; rw [HE3.out]; exact hv4) (Nat.le_trans h2 (Nat.le_of_lt hbl2))
       have hy1 : w4.cell? ⟨b, 3, none⟩ = some (F 3) := hx1
       have hy2 : w4.frozen? ⟨b, 3, none⟩ = false := hx2
       rw [HE3.out] at hy1)
    | (go_simp; go_at_call 31; refine (copyInts_any l Al n cl _ w2.drew (rd_of_own HO2.out) (by omega)).mono ?_; rintro e w3 ⟨A5, c5, rfl, hcv, hb3⟩; have hc3b := (hb3.cell (p := ⟨b, 3, none⟩) hbl2).trans hc3; have hbl3 : b < w3.heap.size := Nat.lt_of_lt_of_le hbl2 hb3.size))
  all_goals
    go_end0
    refine ⟨rfl, _, _, hfin, fun k e2 e3 => ?_, ?_, fun k hk => Nat.le_trans hB1'.size (own_ge hcv k hk), K9'.out.trans hx3⟩
    · show upd (upd F 2 _) 3 _ k = F k
      rw [upd_other _ _ e3, upd_other _ _ e2]
    · have hx4 : Below B w3 w4 := ⟨hp1, hp2, hp3, by omega, fun k hk => hk4 k (Nat.lt_of_lt_of_le hk (Nat.le_trans (Nat.le_trans h2 (Nat.le_of_lt hbl2)) hb3.size)) (fun e => by have := own_ge K3.out k (by rw [HE3.out]; exact e); omega)⟩
      exact ((hB1'.drew.trans (hb3.mono (Nat.le_trans h2 (Nat.le_of_lt hbl2)))).trans hx4).setCell h2 _
end Go.Proofs.YtaliipcgekhepaaGreat
