/-
  Contract of entry.Total.
-/
import Derived.Test.YtbdhhfaelnnocaaGreatDoorEntryCheck2
namespace Go.Proofs.YtbdhhfaelnnocaaGreatDoor
open Go.RowKit

def debits (l : List Lin) : Int := l.foldl (fun n x => n + max x.amt 0) 0
def totalJ (j : Jrn) : Int := if checkE j = 0 then debits j.lines else 0
theorem debits_step {l : List Lin} {k : Nat} {x : Lin} (hx : l[k]? = some x) : debits (l.take (k + 1)) = debits (l.take k) + max x.amt 0 := by
  obtain ⟨hk, rfl⟩ := List.getElem?_eq_some_iff.1 hx
  unfold debits
  rw [List.take_succ_eq_append_getElem hk, List.foldl_append]; rfl
theorem debits_bound {l : List Lin} (h : fitsL l = true) : ∀ (k : Nat), k ≤ l.length → 0 ≤ debits (l.take k) ∧ debits (l.take k) ≤ 1000000000000000 * (k : Int)
  | 0, _ => by simp [debits]
  | k + 1, hk => by
    have ih := debits_bound h k (by omega)
    have hx : l[k]? = some l[k] := List.getElem?_eq_getElem (by omega)
    have h2 := fits1_iff.1 (List.all_eq_true.1 h l[k] (List.getElem_mem _))
    rw [debits_step hx]
    omega

set_option maxRecDepth 100000 in
set_option maxHeartbeats 2000000 in
theorem total_any (j : Jrn) (A : Option Addr) (n c B : Nat) (w : World) (h : Rd w B 3 A n (lins j.lines)) (hB : B ≤ w.heap.size) (hn : n ≤ maxLen) (hs : j.ref.size ≤ maxLen) :
    Calls Tryz.prog 13 #[j.val A n c] w fun e w' => e = .returned (.int .i64 (totalJ j)) ∧ Below w.heap.size w w' := by
  have HL := Lib.hid h.lins_len
  obtain ⟨W1, hW⟩ : ∃ W1, w.alloc (.cells #[.int .i64 j.id, .int .i64 j.ent, .int .i64 j.per, .string j.ref, .slice A n c, .bool j.void] 24) = W1 := ⟨_, rfl⟩
  have hb1 : Below w.heap.size w W1 := by rw [← hW]; exact (Below.refl _ _).alloc (Nat.le_refl _) _
  have HW := Lib.hid hW
  have HB1 := Lib.hid hb1
  have kc := Lib.hid (check_any j A n c B W1 (h.far hb1 hB) (Nat.le_trans hB hb1.size) hn hs)
  have HR : Hid (∀ w1, Below W1.heap.size W1 w1 → Rd w1 B 3 A n (lins j.lines)) := fun w1 hb => h.far (hb1.trans (hb.mono hb1.size)) hB
  have HOK : Hid (checkE j = 0 → fitsL j.lines = true ∧ j.lines.length ≤ 8) := by
    intro hE
    unfold checkE at hE
    split at hE
    · rename_i h1
      rw [Bool.and_eq_true] at h1
      split at hE
      · rename_i h2
        exact ⟨h2, (linesOk_len h1.2).2⟩
      · cases hE
    · cases hE
  unfold totalJ
  clear h hb1 hW
  unfold Jrn.val at *
  obtain ⟨id, ent, per, ref, L, void⟩ := j
  dsimp only at *
  generalize checkE ⟨id, ent, per, ref, L, void⟩ = E at *
  by_cases hE : E = 0
  rotate_left
  · rw [if_neg hE]
    have t1 : (E != 0) = true := by simpa using hE
    clear hE
    go_enter Tryz.func13, Tryz.ntmps13
    go_wp2_with fail
    rw [HW.out]
    refine kc.out.mono ?_
    rintro e w1 ⟨rfl, hb⟩
    have HB2 := Lib.hid hb
    clear hb
    go_wp2_with fail
    go_ret
    exact ⟨rfl, HB1.out.trans (HB2.out.mono HB1.out.size)⟩
  · subst hE
    rw [if_pos rfl]
    obtain ⟨hfit, hn8⟩ := HOK.out rfl
    rw [HL.out] at hn8
    have HF := Lib.hid hfit
    have z0 : ((0 : Int) != 0) = false := rfl
    clear hfit hn
    go_enter Tryz.func13, Tryz.ntmps13
    go_wp2_with fail
    rw [HW.out]
    refine kc.out.mono ?_
    rintro e w1 ⟨rfl, hb⟩
    obtain ⟨_, _, _, _, b4, _⟩ := box6 HW.out hb
    have HB2 := Lib.hid hb
    clear hb
    go_wp2_with fail
    clear b4
    go_loopw [12, 3, 5] (fun iv sv _ wr => ∃ k : Nat, k ≤ n ∧ iv = .int .i64 k ∧ sv = .int .i64 (debits (L.take k)) ∧ Below w1.heap.size w1 wr) (fun iv _ _ _ => n - (intOf iv).toNat)
    case atStart => exact ⟨0, Nat.zero_le _, rfl, rfl, Below.refl _ _⟩
    case round =>
      obtain ⟨k, hk, rfl, rfl, hbel⟩ := hrel
      have hzr := hbel.size
      have HBr : Hid (Below w.heap.size w wr) := HB1.out.trans ((HB2.out.trans (hbel.mono HB2.out.size)).mono HB1.out.size)
      by_cases hlt : k < n
      · obtain ⟨ad, x, rfl, hbk, hx, p1, p2, p3⟩ := (HR.out wr (HB2.out.trans (hbel.mono HB2.out.size))).lin hlt
        have hkn : (k : Int) < (n : Int) := by omega
        have p2' := cell_behind p2 (by omega)
        have p3' := cell_behind p3 (by omega)
        have hbd := debits_bound HF.out k (by have := HL.out; omega)
        have h2 := fits1_iff.1 (List.all_eq_true.1 HF.out x (List.mem_of_getElem? hx))
        have HST := Lib.hid (debits_step hx)
        have HBL : Hid (∀ o, Below w1.heap.size w1 (wr.alloc o)) := fun o => hbel.alloc hzr o
        clear hx p2 p3 hbel
        obtain ⟨x1, x2, x3⟩ := x
        dsimp only at HST p2' h2
        generalize debits (L.take k) = S at *
        go_wp2_with fail
        refine ⟨⟨k + 1, by omega, by go_num, ?_, HBL.out _⟩, by simp [intOf]; omega⟩
        rw [HST.out]
        congr 2
        split <;> omega
      · obtain rfl : k = n := by omega
        rw [List.take_of_length_le (Nat.le_of_eq HL.out)]
        go_wp2_with fail
        go_ret
        exact ⟨rfl, HBr.out⟩
end Go.Proofs.YtbdhhfaelnnocaaGreatDoor
