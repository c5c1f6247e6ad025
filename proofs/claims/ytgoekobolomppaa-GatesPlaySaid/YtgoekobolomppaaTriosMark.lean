/-
  Trios as a kind of a book's lists: marks.
-/
import Derived.Test.YtgoekobolomppaaTrios
import Derived.Test.YtgoekobolomppaaBookKGrow
namespace Go.Proofs.Ytgoekobolomppaa
open Go.RowKit

def trioMark (i k : Nat) : Trio := ⟨-1000 * (i : Int) - (k : Int) - 1, 0, 0⟩
def kTrios : Kind where
  f := 16
  t := 25
  e := 53
  size := 3
  mark := fun i k => (trioMark i k).cells
  hf := by decide
  hs := by decide
  hte := by decide
  htb := by decide
  heb := by decide
  hm := fun _ _ => rfl
theorem infoTrios : (Try.prog.info? kTrios.t).map (fun i => (i.zero, i.size, i.bytes)) = some (some (.slice none 0 0), 1, 24) := by kernel_rfl
theorem trios_one (l : List Trio) : ∀ u ∈ trios l, u.oneCell' = true := by
  intro u hu
  obtain ⟨a, _, hu⟩ := List.mem_flatMap.1 hu
  simp [Trio.cells] at hu
  rcases hu with rfl | rfl | rfl <;> rfl
def markTrios (i a n : Nat) : List Trio := (List.range n).map fun k => trioMark i (a + k)
theorem marks_trios (i a n : Nat) : kTrios.marks i a n = trios (markTrios i a n) := by
  unfold Kind.marks trios markTrios
  rw [List.flatMap_map]; rfl
theorem markTrios_same (i n : Nat) : (markTrios i 0 n == markTrios i 0 n) = true := by simp
theorem marks_oneTrio (i a n : Nat) : ∀ u ∈ kTrios.marks i a n, u.oneCell' = true := by rw [marks_trios]; exact trios_one _

set_option maxRecDepth 100000 in
set_option maxHeartbeats 1000000 in
theorem markTrios_any (i a n : Nat) (w : World) (hi : i ≤ 1000) (ha : a ≤ 2000000) (hn : n ≤ 2000000) :
    Calls Try.prog 89 #[.int .i64 i, .int .i64 a, .int .i64 n] w fun e w' => ∃ A c, e = .returned (.slice A n c) ∧ w'.ownsRow w.heap.size 53 3 (.slice A n c) n (kTrios.marks i a n) ∧ Below w.heap.size w w' := by
  obtain ⟨i0, hi0, hz0, hz1, hz2⟩ := info_parts infoTrio
  have hI := Lib.hid hi0; have hZ0 := Lib.hid hz0; have hZ1 := Lib.hid hz1; have hZ2 := Lib.hid hz2
  clear hi0 hz0 hz1 hz2
  go_enter Try.func89, Try.ntmps89
  go_wp2_with fail
  go_loopw [7, 8] (fun lv kv wr => ∃ (k : Nat) (A : Option Addr) (c : Nat), k ≤ n ∧ kv = .int .i64 ((a : Int) + (k : Int)) ∧ lv = .slice A k c ∧ wr.ownsRow w.heap.size 53 3 (.slice A k c) k (kTrios.marks i a k) ∧ Below w.heap.size w wr) (fun _ kv _ => a + n - (intOf kv).toNat)
  case atStart => exact ⟨0, none, 0, Nat.zero_le _, by simp, rfl, World.ownsRow_nil _ _ _ _, Below.refl _ _⟩
  case round =>
    obtain ⟨k, A, c, hk, rfl, rfl, hown, hbel⟩ := hrel
    have hsz := hbel.size
    by_cases hlt : k < n
    · have HX : Hid ([.int .i64 (-1000 * (i : Int) - ((a : Int) + (k : Int)) - 1), .int .i64 0, .int .i64 0] = kTrios.mark i (a + k)) := by
        unfold Hid
        show _ = (trioMark i (a + k)).cells
        unfold trioMark Trio.cells
        simp only [Int.natCast_add]
      go_wp2_with (at_builtin; refine wpList_append_lies _ rfl _ _ 25 rfl w.heap.size 53 i0 (.agg #[.int .i64 0, .int .i64 0, .int .i64 0]) 3 24 Try.underlying25 hI.out hZ0.out hZ1.out hZ2.out rfl (by decide) _ k _ rfl (own_kept hown fun q hq _ => Below.heap_alloc _ _ _ hq) ⟨wr.heap.size, 0, none⟩ 1 1 [.int .i64 (-1000 * (i : Int) - ((a : Int) + (k : Int)) - 1), .int .i64 0, .int .i64 0] rfl rfl (cells_new _ _ _) (by simp [Value.oneCell']) (by omega) (by unfold maxLen; omega) (by omega) (by simp; omega) _ rfl ?_)
      intro g cap w2 hown2 hg2 hat2 hlt2
      have hB2 : Hid (Below w.heap.size w w2) := (hbel.alloc hsz _).grown hg2 (by simp; omega) (own_ge hown)
      have HO2 := Lib.hid hown2
      clear hown2 hg2 hown hbel
      go_wp2
      refine ⟨⟨k + 1, some ⟨g, 0, none⟩, cap, by omega, by go_num, rfl, ?_, hB2.out⟩, by simp [intOf]; omega⟩
      have := HO2.out
      rw [HX.out] at this
      rw [Kind.marks_succ]
      exact this
    · obtain rfl : k = n := by omega
      have HO := Lib.hid hown
      clear hown
      go_wp2
      go_ret
      exact ⟨A, c, rfl, HO.out, hbel⟩
end Go.Proofs.Ytgoekobolomppaa
