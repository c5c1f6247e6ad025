/-
  The walk of the statement BookFull.
-/
-- HOLE: exact bookFull_walk a0 w
import Derived.Test.YtjnlfecfpeedoaaTomeAlive
namespace Go.Proofs.Ytjnlfecfpeedoaa
open Go.RowKit

def fullJ (i x : Int) : Jrn := ⟨i, 1, 0, ⟨#[]⟩, [⟨1, x, 0⟩, ⟨2, -x, 0⟩], false⟩
def fullM (k : Nat) : List Jrn := (List.range k).map fun i => fullJ (i + 1 : Nat) (i + 1 : Nat)
theorem full_all : (List.range 220).all (fun i => checkE (fullJ (i + 1 : Nat) (i + 1 : Nat)) == 0) = true := by kernel_rfl
theorem full_ok {i : Nat} (h : i < 220) : checkE (fullJ (i + 1 : Nat) (i + 1 : Nat)) = 0 := by
  have := List.all_eq_true.1 full_all i (List.mem_range.2 h)
  simpa using this
theorem full_last : checkE (fullJ 201 1) = 0 := by kernel_rfl
theorem taken_no {M : List Jrn} {j : Jrn} (h : j.ref.toList = []) : takenJ M j = false := by
  unfold takenJ
  rw [Bool.not_eq_false', List.all_eq_true]
  intro b _
  unfold leavesRef holdsRef
  rw [h]
  simp
theorem empty_list : (⟨#[]⟩ : ByteArray).toList = [] := by rw [ByteArray.toList_eq]
theorem fullM_len (k : Nat) : (fullM k).length = k := by simp [fullM]
theorem fullM_ids {k : Nat} : ∀ b ∈ fullM k, 1 ≤ b.id ∧ b.id ≤ (k : Int) := by
  intro b hb
  obtain ⟨i, hi, rfl⟩ := List.mem_map.1 hb
  have := List.mem_range.1 hi
  show 1 ≤ ((i + 1 : Nat) : Int) ∧ ((i + 1 : Nat) : Int) ≤ k
  omega
theorem posK_end {α : Type} {key : α → Int} {l : List α} {x : Int} (h : ∀ a ∈ l, key a < x) : posK key l x = l.length :=
  posK_eq (Nat.le_refl _) (fun k a _ ha => h a (List.mem_of_getElem? ha)) fun a ha => by rw [List.getElem?_eq_none (Nat.le_refl _)] at ha; cases ha
theorem has_no {M : List Jrn} {x : Int} (h : ∀ b ∈ M, b.id ≠ x) : hasId M x = false := by unfold hasId; rw [findK_out h]; rfl
theorem full_post {k : Nat} (h : k < 200) : postE (fullM k) (fullJ (k + 1 : Nat) (k + 1 : Nat)) = 0 ∧ postL (fullM k) (fullJ (k + 1 : Nat) (k + 1 : Nat)) = fullM (k + 1) := by
  have hn : hasId (fullM k) (fullJ (k + 1 : Nat) (k + 1 : Nat)).id = false := has_no fun b hb => by
    have := fullM_ids b hb
    show b.id ≠ ((k + 1 : Nat) : Int)
    omega
  have h0 := postE_ok (M := fullM k) (full_ok (i := k) (by omega)) hn (taken_no empty_list) (by rw [fullM_len]; omega)
  refine ⟨h0, ?_⟩
  unfold postL
  rw [if_pos h0, putK_fresh hn]
  have hp : posK Jrn.id (fullM k) (fullJ (k + 1 : Nat) (k + 1 : Nat)).id = (fullM k).length := posK_end fun b hb => by
    have := fullM_ids b hb
    show b.id < ((k + 1 : Nat) : Int)
    omega
  rw [hp, List.take_length, List.drop_length]
  unfold fullM
  rw [List.range_succ, List.map_append]
  rfl
theorem full_full {k : Nat} (h0 : 200 ≤ k) (h : k < 220) : postE (fullM 200) (fullJ (k + 1 : Nat) (k + 1 : Nat)) = 13 ∧ postL (fullM 200) (fullJ (k + 1 : Nat) (k + 1 : Nat)) = fullM 200 := by
  have hn : hasId (fullM 200) (fullJ (k + 1 : Nat) (k + 1 : Nat)).id = false := has_no fun b hb => by
    have := fullM_ids b hb
    show b.id ≠ ((k + 1 : Nat) : Int)
    omega
  have h1 := postE_full (M := fullM 200) (full_ok h) hn (taken_no empty_list) (by rw [fullM_len]; omega)
  exact ⟨h1, postL_no (by rw [h1]; decide)⟩
theorem full_rise (k : Nat) : Rise Jrn.id (fullM k) := by
  unfold Rise fullM
  rw [List.pairwise_map]
  exact List.pairwise_lt_range.imp fun {a b} h => by show ((a + 1 : Nat) : Int) < ((b + 1 : Nat) : Int); omega
theorem full_has {m : Nat} (h1 : 1 ≤ m) (h2 : m ≤ 200) : hasId (fullM 200) m = true := by
  have hg : (fullM 200)[m - 1]? = some (fullJ m m) := by
    unfold fullM
    rw [List.getElem?_map, List.getElem?_range (by omega)]
    simp only [Option.map_some]
    rw [show m - 1 + 1 = m by omega]
  have := findK_of (full_rise 200) hg
  unfold hasId
  rw [show ((m : Nat) : Int) = Jrn.id (fullJ m m) from rfl, this]
  rfl
theorem full_drop {m : Nat} (h1 : 1 ≤ m) (h2 : m ≤ 200) : (dropK Jrn.id (fullM 200) m).length = 199 := by
  have hh := full_has h1 h2
  unfold hasId at hh
  have hl := findK_lt (full_rise 200) hh
  rw [fullM_len] at hl
  rw [dropK_found hh, List.length_append, List.length_take, List.length_drop, fullM_len]
  omega
theorem full_again {m : Nat} : hasId (dropK Jrn.id (fullM 200) m) m = false := by
  unfold hasId
  rw [find_drop_same (full_rise 200)]; rfl
theorem full_more {m : Nat} (h1 : 1 ≤ m) (h2 : m ≤ 200) : postE (dropK Jrn.id (fullM 200) m) (fullJ 201 1) = 0 ∧ (postL (dropK Jrn.id (fullM 200) m) (fullJ 201 1)).length = 200 := by
  have hn : hasId (dropK Jrn.id (fullM 200) m) (fullJ 201 1).id = false := has_no fun b hb => by
    have := fullM_ids b (mem_drop hb)
    show b.id ≠ 201
    omega
  have h0 := postE_ok (M := dropK Jrn.id (fullM 200) m) full_last hn (taken_no empty_list) (by rw [full_drop h1 h2]; omega)
  refine ⟨h0, ?_⟩
  unfold postL
  rw [if_pos h0, putK_len ((full_rise 200).drop m)]
  unfold hasId at hn
  rw [hn, full_drop h1 h2]
  rfl
theorem full_first {m : Nat} : postL (dropK Jrn.id (fullM 200) m) (fullJ 201 1) = postL (dropK Jrn.id (fullM 200) m) (fullJ 201 1) := rfl

set_option maxRecDepth 100000 in
set_option maxHeartbeats 4000000 in
theorem bookFull_walk (more : Int) (w : World) : Calls Try.prog 5 #[.int .i64 more] w fun e w' => e = .returned (.bool true) ∧ Below w.heap.size w w' := by
  by_cases h1 : more < 1
  · go_enter Try.func5, Try.ntmps5
    go_wp2_with fail
    refine (alive_any _).mono ?_
    rintro e w1 ⟨rfl, hb⟩
    have HB := Lib.hid hb
    clear hb
    go_wp2_with fail
    go_ret
    exact ⟨rfl, HB.out⟩
  by_cases h2 : 20 < more
  · go_enter Try.func5, Try.ntmps5
    go_wp2_with fail
    refine (alive_any _).mono ?_
    rintro e w1 ⟨rfl, hb⟩
    have HB := Lib.hid hb
    clear hb
    go_wp2_with fail
    go_ret
    exact ⟨rfl, HB.out⟩
  obtain ⟨m, rfl⟩ : ∃ m : Nat, more = m := ⟨more.toNat, by omega⟩
  have hm1 : 1 ≤ m := by omega
  have hm2 : m ≤ 20 := by omega
  go_enter Try.func5, Try.ntmps5
  go_wp2_with fail
  refine (alive_any _).mono ?_
  rintro e w1 ⟨rfl, hb⟩
  have HB := Lib.hid hb
  clear hb
  obtain ⟨W, hW⟩ : ∃ W, w1.alloc (.cells #[.slice none 0 0] 50) = W := ⟨_, rfl⟩
  have HW := Lib.hid hW
  obtain ⟨X, hX⟩ : ∃ X : Nat → Prop, X = fun k => k < W.heap.size ∧ k ≠ w1.heap.size := ⟨_, rfl⟩
  have h0 : TomeIn X W w1.heap.size w1.heap.size [] W := by rw [hX, ← hW]; exact TomeIn.start (tome_new w1) rfl
  have HXL : Hid (∀ k, k < w1.heap.size → X k) := fun k hk => by rw [hX, ← hW]; exact ⟨by simp; omega, by omega⟩
  have hbW : Below w1.heap.size w1 W := by rw [← hW]; exact (Below.refl _ _).alloc (Nat.le_refl _) _
  have hzW : W.heap.size = w1.heap.size + 1 := by rw [← hW]; simp
  have HFIN : Hid (∀ M w', TomeIn X W w1.heap.size w1.heap.size M w' → Below w.heap.size w w') := fun M w' h => HB.out.trans ((h.below w1 hbW HXL.out).mono HB.out.size)
  have H0 := Lib.hid h0
  have HP : Hid (∀ M i x wr, TomeIn X W w1.heap.size w1.heap.size M wr → Calls Try.prog 26 #[.pointer (some ⟨w1.heap.size, 0, none⟩), .agg #[.int .i64 i, .int .i64 1, .int .i64 0, .string ⟨#[]⟩, .slice (some ⟨wr.heap.size, 0, none⟩) 2 2, .bool false]] ((wr.alloc (.cells #[.int .i64 1, .int .i64 x, .int .i64 0, .int .i64 2, .int .i64 (-x), .int .i64 0] 52)).alloc (.cells #[.int .i64 i, .int .i64 1, .int .i64 0, .string ⟨#[]⟩, .slice (some ⟨wr.heap.size, 0, none⟩) 2 2, .bool false] 33)) fun e w' => e = .returned (.int .i64 (postE M (fullJ i x))) ∧ TomeIn X W w1.heap.size w1.heap.size (postL M (fullJ i x)) w') := fun M i x wr h =>
    post_in (fullJ i x) (some ⟨wr.heap.size, 0, none⟩) 2 (wr.heap.size + 1) (h.quiet (((Below.refl _ _).alloc (Nat.le_refl _) _).alloc (by simp) _)) (((rd_twoL wr 1 x 0 2 (-x) 0 (T := 52))).below ((Below.refl _ _).alloc (by simp) _)) (by simp) (fun e => by cases e) (by show (2 : Nat) ≤ _; unfold maxLen; omega) (by show (0 : Nat) ≤ _; omega)
  have HBW := Lib.hid hbW
  clear hW h0 hbW hX
  go_wp2_with fail
  rw [HW.out]
  go_loopw [4, 5, 6] (fun iv _ _ wr => ∃ k : Nat, k ≤ 200 + m ∧ iv = .int .i64 (k + 1 : Nat) ∧ TomeIn X W w1.heap.size w1.heap.size (fullM (min k 200)) wr) (fun iv _ _ _ => 221 - (intOf iv).toNat)
  case atStart => exact ⟨0, by omega, rfl, H0.out⟩
  case round =>
    obtain ⟨k, hk, rfl, hin⟩ := hrel
    have HIN := Lib.hid hin
    clear hin
    have e1 : ((k + 1 : Nat) : Int) = (k : Int) + 1 := by omega
    rcases Nat.lt_or_ge k 200 with h3 | h3
    · have hle : ((k + 1 : Nat) : Int) ≤ 200 + (m : Int) := by omega
      have h200 : ((k + 1 : Nat) : Int) ≤ 200 := by omega
      have hmin : min k 200 = k := by omega
      rw [hmin] at HIN
      have kp := Lib.hid (HP.out _ (k + 1 : Nat) (k + 1 : Nat) wr HIN.out)
      rw [(full_post h3).1, (full_post h3).2] at kp
      clear hmin
      have hng : IntKind.i64.wrap (-((k + 1 : Nat) : Int)) = -((k + 1 : Nat) : Int) := by rw [IntKind.wrap_i64]; omega
      have hng2 : ¬ (200 : Int) < ((k + 1 : Nat) : Int) := by omega
      have hk2 : k + 1 ≤ 200 := by omega
      generalize hi : ((k + 1 : Nat) : Int) = i at *
      have HI := Lib.hid hi
      clear hi e1
      go_wp2_with fail
      refine kp.out.mono ?_
      rintro e w2 ⟨rfl, h4⟩
      have H4 := Lib.hid h4
      clear h4
      have hi1 : IntKind.i64.wrap (i + 1) = i + 1 := by have := HI.out; rw [IntKind.wrap_i64]; omega
      go_wp2_with fail
      refine ⟨⟨k + 1, by omega, by rw [← HI.out]; rfl, by rw [show min (k + 1) 200 = k + 1 by omega]; exact H4.out⟩, by simp [intOf, ← HI.out]; omega⟩
    · have hmin : min k 200 = 200 := by omega
      rw [hmin] at HIN
      by_cases hle : ((k + 1 : Nat) : Int) ≤ 200 + (m : Int)
      · have kp := Lib.hid (HP.out _ (k + 1 : Nat) (k + 1 : Nat) wr HIN.out)
        rw [(full_full h3 (by omega)).1, (full_full h3 (by omega)).2] at kp
        have hng : IntKind.i64.wrap (-((k + 1 : Nat) : Int)) = -((k + 1 : Nat) : Int) := by rw [IntKind.wrap_i64]; omega
        have h200 : ¬ ((k + 1 : Nat) : Int) ≤ 200 := by omega
        have hng2 : (200 : Int) < ((k + 1 : Nat) : Int) := by omega
        clear hmin
        generalize hi : ((k + 1 : Nat) : Int) = i at *
        have HI := Lib.hid hi
        clear hi e1
        go_wp2_with fail
        refine kp.out.mono ?_
        rintro e w2 ⟨rfl, h4⟩
        have H4 := Lib.hid h4
        clear h4
        go_wp2_with fail
        refine ⟨⟨k + 1, by have := HI.out; omega, by rw [← HI.out]; rfl, by rw [show min (k + 1) 200 = 200 by omega]; exact H4.out⟩, by have := HI.out; simp [intOf, ← HI.out]; omega⟩
      · clear hmin
        obtain ⟨V, hV⟩ : ∃ V, (wr.alloc (.cells #[.int .i64 1, .int .i64 1, .int .i64 0, .int .i64 2, .int .i64 (-1), .int .i64 0] 52)).alloc (.cells #[.int .i64 201, .int .i64 1, .int .i64 0, .string ⟨#[]⟩, .slice (some ⟨wr.heap.size, 0, none⟩) 2 2, .bool false] 33) = V := ⟨_, rfl⟩
        have hbV : Below wr.heap.size wr V := by rw [← hV]; exact ((Below.refl _ _).alloc (Nat.le_refl _) _).alloc (by simp) _
        have hzV : V.heap.size = wr.heap.size + 2 := by rw [← hV]; simp
        have hkV : V.heap[wr.heap.size + 1]? = some (.cells #[.int .i64 201, .int .i64 1, .int .i64 0, .string ⟨#[]⟩, .slice (some ⟨wr.heap.size, 0, none⟩) 2 2, .bool false] 33 (0, 0)) := by
          have := heap_new (wr.alloc (.cells #[.int .i64 1, .int .i64 1, .int .i64 0, .int .i64 2, .int .i64 (-1), .int .i64 0] 52)) (.cells #[.int .i64 201, .int .i64 1, .int .i64 0, .string ⟨#[]⟩, .slice (some ⟨wr.heap.size, 0, none⟩) 2 2, .bool false] 33)
          rw [hV, show (wr.alloc (.cells #[.int .i64 1, .int .i64 1, .int .i64 0, .int .i64 2, .int .i64 (-1), .int .i64 0] 52)).heap.size = wr.heap.size + 1 by simp] at this
          exact this
        have hRV : Rd V (wr.heap.size + 1) 3 (some ⟨wr.heap.size, 0, none⟩) 2 (lins [⟨1, 1, 0⟩, ⟨2, -1, 0⟩]) := by
          rw [← hV]
          exact (rd_twoL wr 1 1 0 2 (-1) 0 (T := 52)).below ((Below.refl _ _).alloc (by simp) _)
        have HT := Lib.hid (HIN.out.more hbV)
        have HFV : Hid (∀ M w', TomeIn (fun k => X k ∨ (wr.heap.size ≤ k ∧ k < V.heap.size)) V w1.heap.size w1.heap.size M w' → Below w.heap.size w w') := fun M w' h => by
          have hq := HIN.out.below w1 HBW.out HXL.out
          exact HB.out.trans ((h.below w1 (hq.trans (hbV.mono hq.size)) fun k hk => .inl (HXL.out k hk)).mono HB.out.size)
        have HRV := Lib.hid hRV
        have HKV := Lib.hid hkV
        have HV := Lib.hid hV
        have HZV := Lib.hid hzV
        have t200 : ((200 : Nat) : Int) = 200 := rfl
        have kl := Lib.hid (len_in HT.out)
        rw [fullM_len] at kl
        have kd := Lib.hid (drop_in m HT.out)
        rw [full_has (by omega) (by omega)] at kd
        clear HIN hV hbV hzV hkV hRV
        generalize hi : ((k + 1 : Nat) : Int) = i at *
        clear hi e1
        go_wp2_with fail
        rw [HV.out]
        refine kl.out.mono ?_
        rintro e w5 ⟨rfl, rfl⟩
        go_wp2_with fail
        refine kd.out.mono ?_
        rintro e w6 ⟨rfl, h6⟩
        have H6 := Lib.hid h6
        have kd2 := Lib.hid (drop_in m h6)
        rw [full_again] at kd2
        clear h6
        go_wp2_with fail
        refine kd2.out.mono ?_
        rintro e w7 ⟨rfl, h7⟩
        rw [dropK_none full_again] at h7
        have H7 := Lib.hid h7
        obtain ⟨x0, x1, x2, x3, x4, x5⟩ := six_cells (h7.heap HKV.out (.inr ⟨by omega, by have := HZV.out; omega⟩))
        have kp := Lib.hid (post_in (fullJ 201 1) (some ⟨wr.heap.size, 0, none⟩) 2 (wr.heap.size + 1) h7 (h7.rd HRV.out (by have := HZV.out; omega) fun ad e => by injection e with e; subst e; exact .inr ⟨Nat.le_refl _, by have := HZV.out; show wr.heap.size < _; omega⟩) (by have := h7.but.size; have := HZV.out; omega) (fun e => by cases e) (by show (2 : Nat) ≤ _; unfold maxLen; omega) (by show (0 : Nat) ≤ _; omega))
        rw [(full_more (by omega) (by omega)).1] at kp
        clear h7
        go_wp2_with fail
        refine kp.out.mono ?_
        rintro e w8 ⟨rfl, h8⟩
        have H8 := Lib.hid h8
        have kl2 := Lib.hid (len_in h8)
        rw [(full_more (by omega) (by omega)).2] at kl2
        clear h8 x0 x1 x2 x3 x4 x5
        go_wp2_with fail
        refine kl2.out.mono ?_
        rintro e w9 ⟨rfl, rfl⟩
        go_wp2_with fail
        go_ret
        exact ⟨rfl, HFV.out _ _ H8.out⟩
end Go.Proofs.Ytjnlfecfpeedoaa
