/-
  Contract of entry.Text.
-/
import Derived.Test.YtbdhhfaelnnocaaGreatDoorMany4
import Derived.Test.YtbdhhfaelnnocaaGreatDoorTermText
import Derived.Lib.Join
namespace Go.Proofs.YtbdhhfaelnnocaaGreatDoor
open Go.RowKit Go.Sort

def partsJ (j : Jrn) : List (List UInt8) := [Lib.itoa j.id, Lib.itoa j.ent, textB j.per, refT j.ref.data.toList, stateT j.void] ++ j.lines.map lineT
def textJ (j : Jrn) : List UInt8 := Lib.join (partsJ j) [32]
def strs (l : List (List UInt8)) : List Value := l.map fun x => .string (bs x)
theorem strs_append (l m : List (List UInt8)) : strs (l ++ m) = strs l ++ strs m := by simp [strs]
theorem strs_one (l : List (List UInt8)) : ∀ u ∈ strs l, u.oneCell' = true := by
  intro u hu
  obtain ⟨x, _, rfl⟩ := List.mem_map.1 hu
  rfl
theorem infoStr : (Tryz.prog.info? 9).map (fun i => (i.zero, i.size, i.bytes)) = some (some (.string ⟨#[]⟩), 1, 16) := by kernel_rfl
theorem textB_le (p : Int) : (textB p).length ≤ 7 := by
  unfold textB
  split
  · simp [textL]
  · simp
theorem itoa_le {n : Int} (h0 : -9223372036854775808 ≤ n) (h1 : n ≤ 9223372036854775807) : (Lib.itoa n).length ≤ 21 := Lib.itoa_length_le n h0 h1
theorem lineT_le {l : Lin} (h : l.ok64) : (lineT l).length ≤ 65 := by
  obtain ⟨⟨p1, p2⟩, ⟨p3, p4⟩, ⟨p5, p6⟩⟩ := h
  have := itoa_le p1 p2; have := itoa_le p3 p4; have := itoa_le p5 p6
  unfold lineT
  simp only [List.length_append, List.length_cons, List.length_nil]
  omega
theorem join_le {m : Nat} (sep : List UInt8) : ∀ (l : List (List UInt8)), (∀ x ∈ l, x.length ≤ m) → (Lib.join l sep).length ≤ l.length * (m + sep.length)
  | [], _ => by simp [Lib.join_nil]
  | [x], h => by
    rw [Lib.join_one]
    have := h x (by simp)
    simp; omega
  | x :: y :: r, h => by
    have ih := join_le sep (y :: r) (fun z hz => h z (by simp at hz; simp [hz]))
    have h1 := h x (by simp)
    have e : Lib.join (x :: y :: r) sep = x ++ sep ++ Lib.join (y :: r) sep := by
      rw [Lib.join_cons, Lib.join_cons]
      simp [Lib.joinTail, List.append_assoc]
    rw [e, List.length_append, List.length_append, List.length_cons]
    rw [Nat.add_mul, Nat.one_mul]
    omega
theorem partsJ_len (j : Jrn) : (partsJ j).length = j.lines.length + 5 := by simp [partsJ]
theorem parts_take (j : Jrn) {k : Nat} {x : Lin} (hx : j.lines[k]? = some x) : (partsJ j).take (k + 1 + 5) = (partsJ j).take (k + 5) ++ [lineT x] := by
  have h : (partsJ j)[k + 5]? = some (lineT x) := by simp [partsJ, hx]
  obtain ⟨hk, he⟩ := List.getElem?_eq_some_iff.1 h
  rw [show k + 1 + 5 = (k + 5) + 1 by omega, List.take_succ_eq_append_getElem hk, he]
theorem parts_five (j : Jrn) : (partsJ j).take 5 = [Lib.itoa j.id, Lib.itoa j.ent, textB j.per, refT j.ref.data.toList, stateT j.void] := rfl
theorem checkE_ok {j : Jrn} (h : checkE j = 0) : frontOk j = true ∧ linesOk j = true ∧ fitsL j.lines = true ∧ sumA j.lines = 0 := by
  unfold checkE at h
  split at h
  · rename_i h1
    rw [Bool.and_eq_true] at h1
    split at h
    · rename_i h2
      split at h
      · exact ⟨h1.1, h1.2, h2, by assumption⟩
      · cases h
    · cases h
  · cases h
theorem checkE_ref {j : Jrn} (h : frontOk j = true) : j.ref.size ≤ 8 := by
  unfold frontOk refOk at h
  simp only [Bool.and_eq_true, decide_eq_true_eq] at h
  have := h.2.1
  rwa [Array.length_toList] at this
theorem parts_le {j : Jrn} (h : j.ok64) (hr : j.ref.size ≤ 8) : ∀ x ∈ partsJ j, x.length ≤ 65 := by
  intro x hx
  unfold partsJ at hx
  simp only [List.mem_append, List.mem_cons, List.not_mem_nil, or_false, List.mem_map] at hx
  rcases hx with (rfl | rfl | rfl | rfl | rfl) | ⟨l, hl, rfl⟩
  · have := itoa_le h.1.1 h.1.2; omega
  · have := itoa_le h.2.1.1 h.2.1.2; omega
  · have := textB_le j.per; omega
  · unfold refT
    split
    · simp
    · rw [Array.length_toList]; exact Nat.le_trans hr (by omega)
  · unfold stateT; split <;> simp
  · exact lineT_le (h.2.2.2 l hl)
end Go.Proofs.YtbdhhfaelnnocaaGreatDoor
