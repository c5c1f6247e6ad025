/-
  The statements' book: lists of ints that are kept; contracts of markInts and Ints.
-/
import Derived.Test.YtehpecjnldbaiaaAppend
import Derived.Test.YtehpecjnldbaiaaBookEmpty
import Derived.Deep.RegionLaw
namespace Go.Proofs.Ytehpecjnldbaiaa
open Go.RowKit

/-- The marks of list i, from a place on. -/
def markL (i a n : Nat) : List Int := (List.range n).map fun k => -1000000 * (i : Int) - ((a + k : Nat) : Int) - 7
theorem markL_len (i a n : Nat) : (markL i a n).length = n := by simp [markL]
theorem markL_succ (i a n : Nat) : markL i a (n + 1) = markL i a n ++ [-1000000 * (i : Int) - ((a + n : Nat) : Int) - 7] := by simp [markL, List.range_succ]
theorem markL_add (i n : Nat) : ∀ m, markL i 0 (n + m) = markL i 0 n ++ markL i n m
  | 0 => by simp [markL]
  | m + 1 => by rw [← Nat.add_assoc, markL_succ, markL_add i n m, markL_succ, List.append_assoc, Nat.zero_add]

set_option maxRecDepth 100000 in
set_option maxHeartbeats 1000000 in
theorem markInts_any (i a n : Nat) (w : World) (hi : i ≤ 1000) (ha : a ≤ 2000000) (hn : n ≤ 2000000) :
    Calls Try.prog 82 #[.int .i64 i, .int .i64 a, .int .i64 n] w fun e w' => ∃ A c, e = .returned (.slice A n c) ∧ w'.ownsRow w.heap.size 3 1 (.slice A n c) n (ints .i64 (markL i a n)) ∧ Below w.heap.size w w' := by
  obtain ⟨i0, hi0, hz0, hz1, hz2⟩ := info_parts infoInt
  have hI := Lib.hid hi0; have hZ0 := Lib.hid hz0; have hZ1 := Lib.hid hz1; have hZ2 := Lib.hid hz2
  clear hi0 hz0 hz1 hz2
  go_enter Try.func82, Try.ntmps82
  go_wp2_with fail
  go_loopw [7, 8] (fun lv kv wr => ∃ (k : Nat) (A : Option Addr) (c : Nat), k ≤ n ∧ kv = .int .i64 ((a : Int) + (k : Int)) ∧ lv = .slice A k c ∧ wr.ownsRow w.heap.size 3 1 (.slice A k c) k (ints .i64 (markL i a k)) ∧ Below w.heap.size w wr) (fun _ kv _ => a + n - (intOf kv).toNat)
  case atStart => exact ⟨0, none, 0, Nat.zero_le _, by simp, rfl, World.ownsRow_nil _ _ _ _, Below.refl _ _⟩
  case round =>
    obtain ⟨k, A, c, hk, rfl, rfl, hown, hbel⟩ := hrel
    have hsz := hbel.size
    by_cases hlt : k < n
    · have HX : Hid (-1000000 * (i : Int) - ((a : Int) + (k : Int)) - 7 = -1000000 * (i : Int) - ((a + k : Nat) : Int) - 7) := by unfold Hid; omega
      obtain ⟨x, hx⟩ : ∃ x, x = -1000000 * (i : Int) - ((a : Int) + (k : Int)) - 7 := ⟨_, rfl⟩
      go_wp2_with (at_builtin; refine wpList_append_lies _ rfl _ _ 47 rfl w.heap.size 3 i0 (.int .i64 0) 1 8 Try.underlying47 hI.out hZ0.out hZ1.out hZ2.out rfl (by decide) _ k _ rfl (own_kept hown fun q hq _ => Below.heap_alloc _ _ _ hq) ⟨wr.heap.size, 0, none⟩ 1 1 [.int .i64 (-1000000 * (i : Int) - ((a : Int) + (k : Int)) - 7)] rfl rfl (cell_one_new _ _ _) (by simp [Value.oneCell']) (by omega) (by unfold maxLen; omega) (by omega) (by simp; omega) _ rfl ?_)
      intro g cap w2 hown2 hg2 hat2 hlt2
      have hB2 : Hid (Below w.heap.size w w2) := (hbel.alloc hsz _).grown hg2 (by simp; omega) (own_ge hown)
      have HO2 := Lib.hid hown2
      clear hown2 hg2 hown hbel
      go_wp2
      refine ⟨⟨k + 1, some ⟨g, 0, none⟩, cap, by omega, by go_num, rfl, ?_, hB2.out⟩, by simp [intOf]; omega⟩
      have := HO2.out
      rw [HX.out] at this
      rw [markL_succ]
      simpa [ints] using this
    · obtain rfl : k = n := by omega
      have HO := Lib.hid hown
      clear hown
      go_wp2
      go_ret
      exact ⟨A, c, rfl, HO.out, hbel⟩
end Go.Proofs.Ytehpecjnldbaiaa
