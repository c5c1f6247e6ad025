/-
  The walk of the statement BookVoids.
-/
-- HOLE2: obtain ⟨fuel0, hf0⟩ := h0
-- obtain ⟨l0, q0, n0, _, _⟩ := argJrns hf0
-- exact bookVoids_walk l0 a0 len0 cap0 a1 W q0 n0
import Derived.Test.YtjnlfecfpeedoaaTomeAlive
import Derived.Test.YtjnlfecfpeedoaaTomeFit
import Derived.Test.YtjnlfecfpeedoaaRefFew
import Derived.Test.YtjnlfecfpeedoaaArgJrns
import Derived.Test.YtjnlfecfpeedoaaQuietTail
import Derived.Deep.RegionLaw
import Derived.BigQuiet
namespace Go.Proofs.Ytjnlfecfpeedoaa
open Go.RowKit

section
variable {M : List Jrn} {j : Jrn}
theorem bv_find (h : GoodM M) (hj : j ∈ M) : findK Jrn.id M j.id = some j := by
  obtain ⟨i, hi⟩ := List.mem_iff_getElem?.1 hj
  exact findK_of h.rise hi
theorem bv_live1 (h : GoodM M) (hj : j ∈ M) (hv : j.void = true) : liveE M j.id = 11 := by unfold liveE; rw [bv_find h hj]; simp [hv]
theorem bv_live0 (h : GoodM M) (hj : j ∈ M) (hv : j.void = false) : liveE M j.id = 0 := by unfold liveE; rw [bv_find h hj]; simp [hv]
theorem bv_void1 (h : GoodM M) (hj : j ∈ M) (hv : j.void = true) : voidL M j.id = M := by unfold voidL; rw [bv_live1 h hj hv]; rfl
theorem bv_void0 (h : GoodM M) (hj : j ∈ M) (hv : j.void = false) : voidL M j.id = putK Jrn.id M (voidJ j) := by unfold voidL; rw [bv_live0 h hj hv, bv_find h hj]; rfl
theorem bv_amend1 (h : GoodM M) (hj : j ∈ M) (hv : j.void = true) : amendE M j = 11 := by unfold amendE; rw [if_pos (h.ok j hj), bv_live1 h hj hv]; rfl
theorem bv_find2 : findK Jrn.id (putK Jrn.id M (voidJ j)) j.id = some (voidJ j) := find_put_same (key := Jrn.id) (voidJ j)
theorem bv_live2 : liveE (putK Jrn.id M (voidJ j)) j.id = 11 := by unfold liveE; rw [bv_find2]; rfl
theorem bv_void2 : voidL (putK Jrn.id M (voidJ j)) j.id = putK Jrn.id M (voidJ j) := by unfold voidL; rw [bv_live2]; rfl
theorem bv_amend2 (h : GoodM M) (hj : j ∈ M) : amendE (putK Jrn.id M (voidJ j)) j = 11 := by unfold amendE; rw [if_pos (h.ok j hj), bv_live2]; rfl
theorem bv_amendL {M : List Jrn} {j : Jrn} (h : amendE M j = 11) : amendL M j = M := by unfold amendL; rw [h]; rfl
theorem bv_len (h : GoodM M) (hj : j ∈ M) : (putK Jrn.id M (voidJ j)).length = M.length := by
  rw [putK_len h.rise, if_pos]
  show (findK Jrn.id M j.id).isSome = true
  rw [bv_find h hj]; rfl
def topJ (j : Jrn) : Jrn := { j with id := 999999 }
theorem bv_check (hE : checkE j = 0) : checkE (topJ j) = 0 := by
  unfold checkE at hE ⊢
  split at hE
  · rename_i h1
    have h2 : (frontOk (topJ j) && linesOk (topJ j)) = true := by
      rw [Bool.and_eq_true] at h1 ⊢
      refine ⟨?_, h1.2⟩
      have h3 := h1.1
      unfold frontOk at h3 ⊢
      simp only [Bool.and_eq_true] at h3 ⊢
      exact ⟨⟨⟨rfl, h3.1.1.2⟩, h3.1.2⟩, h3.2⟩
    rw [if_pos h2]
    exact hE
  · omega
theorem bv_post (h : GoodM M) (hj : j ∈ M) (hn : hasId M 999999 = false) (hl : M.length ≤ 20) : postE (putK Jrn.id M (voidJ j)) (topJ j) = 0 := by
  have hout : ∀ b ∈ M, b.id ≠ 999999 := by
    unfold hasId at hn
    cases hf : findK Jrn.id M 999999 with
    | none => exact findK_no hf
    | some b => rw [hf] at hn; cases hn
  have hmem : ∀ b ∈ putK Jrn.id M (voidJ j), b = voidJ j ∨ b ∈ M := fun b hb => mem_put hb
  have h1 : hasId (putK Jrn.id M (voidJ j)) (topJ j).id = false := hasId_out fun b hb => by
    rcases hmem b hb with rfl | hb
    · exact hout j hj
    · exact hout b hb
  have h2 : takenJ (putK Jrn.id M (voidJ j)) (topJ j) = false := taken_of_leaves fun b hb => by
    have hsame : b.id = j.id → b = voidJ j := fun e => by
      have h3 := bv_find2 (M := M) (j := j)
      obtain ⟨i, hi⟩ := List.mem_iff_getElem?.1 hb
      have h4 := findK_of (h.rise.put (voidJ j)) hi
      rw [e, h3] at h4
      injection h4 with h4
      exact h4.symm
    by_cases e : b.id = j.id
    · rw [hsame e]
      unfold leavesRef holdsRef voidJ
      simp
    · rcases hmem b hb with rfl | hb
      · exact absurd rfl e
      · have h5 := leaves_of_taken (h.free j hj) b hb
        unfold leavesRef at h5 ⊢
        have e1 : (b.id == j.id) = false := by simpa using e
        rw [e1] at h5
        show (j.void || b.id == 999999 || !(b.ent == j.ent) || !holdsRef j.ref b) = true
        revert h5
        cases j.void <;> cases (b.ent == j.ent) <;> cases holdsRef j.ref b <;> simp
  exact postE_ok (bv_check (h.ok j hj)) h1 h2 (by rw [bv_len h hj]; omega)
end
theorem idx_any (k : Int) {n : Nat} (hn : 0 < n) (h30 : n ≤ 1000) : ∃ i : Nat, i < n ∧ (wrap64 (k.tmod (n : Int) + n)).tmod (n : Int) = (i : Int) := by
  have h1 := Int.tmod_lt_of_pos k (b := (n : Int)) (by omega)
  have h2 : -(n : Int) < k.tmod n := by
    have := Int.lt_tmod_of_pos k (b := (n : Int)) (by omega)
    omega
  rw [show wrap64 (k.tmod (n : Int) + n) = k.tmod (n : Int) + n from by unfold wrap64; omega]
  refine ⟨((k.tmod (n : Int) + n).tmod (n : Int)).toNat, ?_, ?_⟩
  · have h3 := Int.tmod_lt_of_pos (k.tmod (n : Int) + n) (b := (n : Int)) (by omega)
    have h4 := Int.tmod_nonneg (a := k.tmod (n : Int) + n) (n : Int) (by omega)
    omega
  · have h4 := Int.tmod_nonneg (a := k.tmod (n : Int) + n) (n : Int) (by omega)
    omega

set_option maxRecDepth 100000 in
set_option maxHeartbeats 4000000 in
theorem bookVoids_walk (l : List JR) (A : Option Addr) (n c : Nat) (k : Int) (w : World) (h : JlRd w w.heap.size A n l) (hn : n ≤ maxLen) :
    Calls Try.prog 4 #[.slice A n c, .int .i64 k] w fun e w' => e = .returned (.bool true) ∧ Below w.heap.size w w' := by
  have kf := Lib.hid (few_any l A n c _ w h.rd (Nat.le_refl _) hn h.size)
  have HJ := Lib.hid h
  clear h
  go_enter Try.func4, Try.ntmps4
  go_wp2_with fail
  refine kf.out.mono ?_
  rintro e w1 ⟨z, rfl, hz, hb1⟩
  have HB1 := Lib.hid hb1
  clear hb1
  cases z
  · clear hz
    go_wp2_with fail
    refine (alive_any _).mono ?_
    rintro e w2 ⟨rfl, hb2⟩
    have HB2 := Lib.hid (HB1.out.trans (hb2.mono HB1.out.size))
    clear hb2
    go_wp2_with fail
    go_ret
    exact ⟨rfl, HB2.out⟩
  obtain ⟨hn30, hsh⟩ := hz rfl
  clear hz
  go_wp2_with fail
  refine (alive_any _).mono ?_
  rintro e w2 ⟨rfl, hb2⟩
  have HB2 := Lib.hid (HB1.out.trans (hb2.mono HB1.out.size))
  clear hb2 HB1 hsh
  have KFIT := Lib.hid (fit_any l A n c w.heap.size w2 (HJ.out.far HB2.out (Nat.le_refl _)) HB2.out.size hn)
  go_wp2_with fail
  refine KFIT.out.mono ?_
  rintro e w3 ⟨A', c', X, rfl, hX, hG, hX20, hb3⟩
  have HB3 := Lib.hid (HB2.out.trans (hb3.mono HB2.out.size))
  have hof := GoodM.of (X.map JR.j) [] hG
  have KO := Lib.hid (lawOf_any X A' X.length c' w3.heap.size w3 hX (Nat.le_refl _) (by unfold maxLen; omega) hof.1)
  rw [hof.2, List.nil_append] at KO
  have HX := Lib.hid hX
  have HG := Lib.hid hG
  clear hX hG hb3 hof KFIT HB2 HJ
  go_wp2_with fail
  refine KO.out.mono ?_
  rintro e w4 ⟨rfl, ht⟩
  obtain ⟨W, hW⟩ : ∃ W, w3.alloc (.cells #[.slice none 0 0] 50) = W := ⟨_, rfl⟩
  rw [hW] at ht
  obtain ⟨S, hS⟩ : ∃ S : Nat → Prop, S = fun k => k < w3.heap.size + 1 ∧ k ≠ w3.heap.size := ⟨_, rfl⟩
  rw [← hS] at ht
  have HSL : Hid (∀ k, k < w3.heap.size → S k) := fun k hk => by rw [hS]; exact ⟨by omega, by omega⟩
  have hbW : Below w3.heap.size w3 W := by rw [← hW]; exact (Below.refl _ _).alloc (Nat.le_refl _) _
  have hzW : W.heap.size = w3.heap.size + 1 := by rw [← hW]; simp
  have HX4 := Lib.hid ((HX.out.far hbW (Nat.le_refl _)).tome ht (by omega) HSL.out)
  have hb4 : Below w3.heap.size w3 w4 := ht.below w3 hbW HSL.out
  have HB4 := Lib.hid hb4
  have HBF : Hid (Below w.heap.size w w4) := HB3.out.trans (hb4.mono HB3.out.size)
  have HT4 := Lib.hid ht
  clear ht hW hS hbW hzW hb4 KO HX
  by_cases hx0 : X.length = 0
  · have hml : (X.map JR.j).length = 0 := by rw [List.length_map]; exact hx0
    have kl := Lib.hid (len_in HT4.out)
    rw [hml] at kl
    rw [hx0]
    clear hml
    go_wp2_with fail
    refine kl.out.mono ?_
    rintro e w5 ⟨rfl, rfl⟩
    go_wp2_with fail
    go_ret
    exact ⟨rfl, HBF.out⟩
  obtain ⟨i, hi, hidx⟩ := idx_any k (n := X.length) (by omega) (by omega)
  obtain ⟨ad, b, rfl, hb1, hx, p1, p2, p3, p4, p5, p6⟩ := HX4.out.rd.jr hi
  have hmemX := List.mem_of_getElem? hx
  have HM : Hid (b.j ∈ X.map JR.j) := List.mem_map.2 ⟨b, hmemX, rfl⟩
  have hne0 : ((X.length : Int) == 0) = false := by rw [beq_eq_false_iff_ne]; omega
  have hiI : (i : Int) < (X.length : Int) := by omega
  obtain ⟨W5, hW5⟩ : ∃ W5, w4.alloc (.cells #[.int .i64 b.j.id, .int .i64 b.j.ent, .int .i64 b.j.per, .string b.j.ref, .slice b.A b.j.lines.length b.c, .bool b.j.void] 33) = W5 := ⟨_, rfl⟩
  have hb5 : Below w4.heap.size w4 W5 := by rw [← hW5]; exact (Below.refl _ _).alloc (Nat.le_refl _) _
  have hz5 : W5.heap.size = w4.heap.size + 1 := by rw [← hW5]; simp
  have hk5 : W5.heap[w4.heap.size]? = some (.cells #[.int .i64 b.j.id, .int .i64 b.j.ent, .int .i64 b.j.per, .string b.j.ref, .slice b.A b.j.lines.length b.c, .bool b.j.void] 33 (0, 0)) := by rw [← hW5]; exact heap_new w4 _
  have hT5 := HT4.out.more hb5
  obtain ⟨S5, hS5⟩ : ∃ S5 : Nat → Prop, S5 = fun k => S k ∨ (w4.heap.size ≤ k ∧ k < W5.heap.size) := ⟨_, rfl⟩
  rw [← hS5] at hT5
  have HS3 : Hid (∀ k, k < w3.heap.size → S5 k) := fun k hk => by rw [hS5]; exact .inl (HSL.out k hk)
  have HS4 : Hid (S5 w4.heap.size) := by rw [hS5]; exact .inr ⟨Nat.le_refl _, by omega⟩
  have HJ5 : Hid (JlRd W5 w3.heap.size (some ad) X.length X) := HX4.out.far hb5 HB4.out.size
  have HB5 : Hid (Below w.heap.size w W5) := HBF.out.trans (hb5.mono HBF.out.size)
  have HBW5 : Hid (Below w3.heap.size w3 W5) := HB4.out.trans (hb5.mono HB4.out.size)
  have hok := HG.out.ok b.j HM.out
  have hmx := checkE_max hok
  have h0 := HX4.out.nil b hmemX
  have HT5 := Lib.hid hT5
  have HK5 := Lib.hid hk5
  have HW5 := Lib.hid hW5
  have hz35 := HBW5.out.size
  -- what each call of the book is, in a world that came of W5
  have kA : Hid (∀ M w', TomeIn S5 W5 w3.heap.size w3.heap.size M w' → Calls Try.prog 20 #[.pointer (some ⟨w3.heap.size, 0, none⟩), .agg #[.int .i64 b.j.id, .int .i64 b.j.ent, .int .i64 b.j.per, .string b.j.ref, .slice b.A b.j.lines.length b.c, .bool b.j.void]] w' fun e w'' => e = .returned (.int .i64 (amendE M b.j)) ∧ TomeIn S5 W5 w3.heap.size w3.heap.size (amendL M b.j) w'') := fun M w' ht =>
    amend_in b.j b.A b.c w3.heap.size ht (((HJ5.out.tome ht (by omega) HS3.out).lines b hmemX)) (by have := ht.but.size; omega) h0 hmx.2 hmx.1
  have HFIN : Hid (∀ M w', TomeIn S5 W5 w3.heap.size w3.heap.size M w' → Below w.heap.size w w') := fun M w' ht => HB3.out.trans ((ht.below w3 HBW5.out HS3.out).mono HB3.out.size)
  have HOK := Lib.hid hok
  have HN0 := Lib.hid h0
  have HMX := Lib.hid hmemX
  have HHX := Lib.hid hx
  have hlt4 : w4.heap.size < W5.heap.size := by omega
  clear hW5 hb5 hk5 hT5 hS5 hok hx hmemX HT4 HSL hz5
  cases hv : b.j.void
  · have e1 := bv_live0 HG.out HM.out hv
    have e2 := bv_void0 HG.out HM.out hv
    have kV := Lib.hid (void_in b.j.id HT5.out)
    rw [e1, e2] at kV
    have hlM := bv_len HG.out HM.out
    rw [List.length_map] at hlM
    have ea := bv_amend2 HG.out HM.out
    obtain ⟨x0, x1, x2, x3, x4, x5⟩ := six_cells HK5.out
    rw [hv] at x5 p6 HK5 HW5 kA
    clear e1 e2
    go_wp2_with fail
    rw [HW5.out]
    refine kV.out.mono ?_
    rintro e w6 ⟨rfl, h6⟩
    have kV2 := Lib.hid (void_in b.j.id h6)
    rw [bv_live2, bv_void2] at kV2
    obtain ⟨y0, y1, y2, y3, y4, y5⟩ := six_cells (h6.heap HK5.out HS4.out)
    clear h6
    go_wp2_with fail
    refine kV2.out.mono ?_
    rintro e w7 ⟨rfl, h7⟩
    have kA7 := Lib.hid (kA.out _ _ h7)
    rw [ea, bv_amendL ea] at kA7
    clear y0 y1 y2 y3 y4 y5
    obtain ⟨y0, y1, y2, y3, y4, y5⟩ := six_cells (h7.heap HK5.out HS4.out)
    clear h7 ea
    go_wp2_with fail
    refine kA7.out.mono ?_
    rintro e w8 ⟨rfl, h8⟩
    have H8 := Lib.hid h8
    have kl := Lib.hid (len_in h8)
    rw [hlM] at kl
    have kg := Lib.hid (get_in b.j.id (voidJ b.j) h8 bv_find2)
    have hlt8 : w4.heap.size < w8.heap.size := by have := h8.but.size; omega
    clear y0 y1 y2 y3 y4 y5
    obtain ⟨y0, y1, y2, y3, y4, y5⟩ := six_cells (h8.heap HK5.out HS4.out)
    have HK8 := Lib.hid (h8.heap HK5.out HS4.out)
    have HJ8 := Lib.hid (HJ5.out.tome h8 (by omega) HS3.out)
    have hz38 : w3.heap.size ≤ w8.heap.size := by have := h8.but.size; omega
    clear h8 hlM kV kV2 kA7
    unfold voidJ at kg
    dsimp only at kg
    go_wp2_with fail
    refine kl.out.mono ?_
    rintro e w9 ⟨rfl, rfl⟩
    go_wp2_with fail
    refine kg.out.mono ?_
    rintro e w9 ⟨Ay, cy, rfl, hoy, hb9⟩
    obtain ⟨V1, hV1⟩ : ∃ V1, w9.alloc (.cells #[.int .i64 b.j.id, .int .i64 b.j.ent, .int .i64 b.j.per, .string b.j.ref, .slice Ay b.j.lines.length cy, .bool true] 33) = V1 := ⟨_, rfl⟩
    have hbV1 : Below w9.heap.size w9 V1 := by rw [← hV1]; exact (Below.refl _ _).alloc (Nat.le_refl _) _
    have hzV1 : V1.heap.size = w9.heap.size + 1 := by rw [← hV1]; simp
    have hyV1 : V1.heap[w9.heap.size]? = some (.cells #[.int .i64 b.j.id, .int .i64 b.j.ent, .int .i64 b.j.per, .string b.j.ref, .slice Ay b.j.lines.length cy, .bool true] 33 (0, 0)) := by rw [← hV1]; exact heap_new w9 _
    have hb8V1 : Below w8.heap.size w8 V1 := hb9.trans (hbV1.mono hb9.size)
    have HV1 := Lib.hid hV1
    have kc := Lib.hid (refCopy_any b.j b.A b.j.lines.length b.c w3.heap.size V1 ((HJ8.out.lines b HMX.out).far hb8V1 hz38) (by have := hb8V1.size; omega) (by have := (checkE_len HOK.out).1; omega))
    obtain ⟨z0, z1, z2, z3, z4, z5⟩ := six_cells ((hb9.block _ hlt8).trans HK8.out)
    have hlt9 : w4.heap.size < w9.heap.size := by have := hb9.size; omega
    have HOY := Lib.hid (own_kept hoy fun q hq _ => hbV1.block q hq)
    have HYV := Lib.hid hyV1
    have HB81 := Lib.hid hb8V1
    have hz9 := hb9.size
    unfold Jrn.val at kc
    rw [hv] at kc
    clear hV1 hbV1 hyV1 hb8V1 hoy hb9 y0 y1 y2 y3 y4 y5
    go_wp2_with fail
    rw [HV1.out]
    refine kc.out.mono ?_
    rintro e w10 ⟨Az, cz, rfl, hoz, hb10⟩
    obtain ⟨V2, hV2⟩ : ∃ V2, w10.alloc (.cells #[.int .i64 999999, .int .i64 b.j.ent, .int .i64 b.j.per, .string b.j.ref, .slice Az b.j.lines.length cz, .bool false] 33) = V2 := ⟨_, rfl⟩
    have hbV2 : Below w10.heap.size w10 V2 := by rw [← hV2]; exact (Below.refl _ _).alloc (Nat.le_refl _) _
    have hzV2 : V2.heap.size = w10.heap.size + 1 := by rw [← hV2]; simp
    have hzV : V2.heap[w10.heap.size]? = some (.cells #[.int .i64 999999, .int .i64 b.j.ent, .int .i64 b.j.per, .string b.j.ref, .slice Az b.j.lines.length cz, .bool false] 33 (0, 0)) := by rw [← hV2]; exact heap_new w10 _
    have hb12 : Below V1.heap.size V1 V2 := hb10.trans (hbV2.mono hb10.size)
    have HB82 : Hid (Below w8.heap.size w8 V2) := HB81.out.trans (hb12.mono HB81.out.size)
    have kx := Lib.hid (refGet_has X 999999 (some ad) X.length c' w3.heap.size V2 (HJ8.out.rd.far HB82.out hz38) (by have := HB82.out.size; omega) (by omega))
    have HOY2 := Lib.hid (own_kept HOY.out fun q hq _ => hb12.block q hq)
    have HOZ2 := Lib.hid (own_kept hoz fun q hq _ => hbV2.block q hq)
    have HYV2 := Lib.hid ((hb12.block _ (by omega)).trans HYV.out)
    have HZV2 := Lib.hid hzV
    have HKV2 := Lib.hid ((HB82.out.block _ hlt8).trans HK8.out)
    have HV2 := Lib.hid hV2
    have hz10 := hb10.size
    clear hV2 hbV2 hzV hb12 hoz hb10 z0 z1 z2 z3 z4 z5 HOY HYV
    go_wp2_with fail
    rw [HV2.out]
    refine kx.out.mono ?_
    rintro e w11 ⟨⟨a0, a1, a2, a3, ⟨a4, a5, a6⟩, a7, rfl⟩, hb11⟩
    dsimp only
    obtain ⟨V3, hV3⟩ : ∃ V3, w11.alloc (.cells #[.int .i64 a0, .int .i64 a1, .int .i64 a2, .string a3, .slice a4 a5 a6, .bool a7] 33) = V3 := ⟨_, rfl⟩
    have hb2V3 : Below V2.heap.size V2 V3 := by
      rw [← hV3]
      exact hb11.trans (((Below.refl _ _).alloc (Nat.le_refl _) _).mono hb11.size)
    have hb8V3 : Below w8.heap.size w8 V3 := HB82.out.trans (hb2V3.mono HB82.out.size)
    have hT9 := H8.out.more hb8V3
    obtain ⟨S9, hS9⟩ : ∃ S9 : Nat → Prop, S9 = fun k => S5 k ∨ (w8.heap.size ≤ k ∧ k < V3.heap.size) := ⟨_, rfl⟩
    rw [← hS9] at hT9
    have HS9 : Hid (∀ k, w8.heap.size ≤ k → k < V3.heap.size → S9 k) := fun k h1 h2 => by rw [hS9]; exact .inr ⟨h1, h2⟩
    have HS93 : Hid (∀ k, k < w3.heap.size → S9 k) := fun k hk => by rw [hS9]; exact .inl (HS3.out k hk)
    have kx1 := (hb2V3.block _ (lt_of_blk HKV2.out)).trans HKV2.out
    have kx2 := (hb2V3.block _ (lt_of_blk HYV2.out)).trans HYV2.out
    have kx3 := (hb2V3.block _ (lt_of_blk HZV2.out)).trans HZV2.out
    obtain ⟨j0, j1, j2, j3, j4, j5⟩ := six_cells kx1
    obtain ⟨y0, y1, y2, y3, y4, y5⟩ := six_cells kx2
    obtain ⟨z0, z1, z2, z3, z4, z5⟩ := six_cells kx3
    have HKJ := Lib.hid kx1
    have HKY := Lib.hid kx2
    have HKZ := Lib.hid kx3
    have hoy3 := own_kept HOY2.out fun q hq _ => hb2V3.block q hq
    have hoz3 := own_kept HOZ2.out fun q hq _ => hb2V3.block q hq
    have hjl3 := (HJ8.out.lines b HMX.out).far hb8V3 hz38
    have hz3V := hb8V3.size
    have KV : Hid (Calls Try.prog 25 #[.agg #[.int .i64 b.j.id, .int .i64 b.j.ent, .int .i64 b.j.per, .string b.j.ref, .slice b.A b.j.lines.length b.c, .bool false]] V3.drew fun e w' => e = .returned (.agg #[.int .i64 b.j.id, .int .i64 b.j.ent, .int .i64 b.j.per, .string b.j.ref, .slice b.A b.j.lines.length b.c, .bool true]) ∧ Below V3.heap.size V3 w') := by
      have := refVoided_any b.j b.A b.j.lines.length b.c V3.drew
      unfold Jrn.val at this
      rw [hv] at this
      exact this.mono fun e w' hh => ⟨hh.1, (Below.refl _ V3).drew.trans hh.2⟩
    have KVV : Hid (∀ w1, Calls Try.prog 25 #[.agg #[.int .i64 b.j.id, .int .i64 b.j.ent, .int .i64 b.j.per, .string b.j.ref, .slice b.A b.j.lines.length b.c, .bool false]] w1 fun e w' => e = .returned (.agg #[.int .i64 b.j.id, .int .i64 b.j.ent, .int .i64 b.j.per, .string b.j.ref, .slice b.A b.j.lines.length b.c, .bool true]) ∧ Below w1.heap.size w1 w') := fun w1 => by
      have := refVoided_any b.j b.A b.j.lines.length b.c w1
      unfold Jrn.val at this
      rw [hv] at this
      exact this
    have KS : Hid (∀ w', Below V3.heap.size V3 w' → Calls Try.prog 24 #[.agg #[.int .i64 b.j.id, .int .i64 b.j.ent, .int .i64 b.j.per, .string b.j.ref, .slice Ay b.j.lines.length cy, .bool true], .agg #[.int .i64 b.j.id, .int .i64 b.j.ent, .int .i64 b.j.per, .string b.j.ref, .slice b.A b.j.lines.length b.c, .bool true]] w' fun e w'' => e = .returned (.bool true) ∧ Below w'.heap.size w' w'') := fun w' hb => by
      have := refSame_any (voidJ b.j) (voidJ b.j) Ay b.A b.j.lines.length b.j.lines.length cy b.c _ w3.heap.size w' ((rd_of_own hoy3).below hb) (hjl3.far hb (by omega)) hb.size (by have := hb.size; omega) hmx.2 hmx.2
      rw [sameJ_self] at this
      exact this
    have KP : Hid (hasId (X.map JR.j) 999999 = false → ∀ w', Below V3.heap.size V3 w' → Calls Try.prog 26 #[.pointer (some ⟨w3.heap.size, 0, none⟩), .agg #[.int .i64 999999, .int .i64 b.j.ent, .int .i64 b.j.per, .string b.j.ref, .slice Az b.j.lines.length cz, .bool false]] w' fun e w'' => e = .returned (.int .i64 0) ∧ Below w.heap.size w w'') := fun hno w' hb => by
      have hTn := hT9.quiet hb
      have := post_in (topJ b.j) Az cz _ hTn ((rd_of_own hoz3).below hb) hb.size (own_nil hoz3) hmx.2 hmx.1
      rw [bv_post HG.out HM.out hno (by rw [List.length_map]; exact hX20)] at this
      unfold Jrn.val topJ at this
      rw [hv] at this
      refine this.mono ?_
      rintro e w'' ⟨h1, h2⟩
      refine ⟨h1, ?_⟩
      have hb38 : Below w3.heap.size w3 w8 := H8.out.below w3 HBW5.out HS3.out
      have hb3V : Below w3.heap.size w3 V3 := hb38.trans (hb8V3.mono hz38)
      exact HB3.out.trans ((h2.below w3 hb3V HS93.out).mono HB3.out.size)
    have HFB : Hid (∀ w', Below V3.heap.size V3 w' → Below w.heap.size w w') := fun w' hb => by
      have hb38 : Below w3.heap.size w3 w8 := H8.out.below w3 HBW5.out HS3.out
      have hb3V : Below w3.heap.size w3 V3 := hb38.trans (hb8V3.mono hz38)
      exact HB3.out.trans ((hb3V.trans (hb.mono hb3V.size)).mono HB3.out.size)
    have HV3 := Lib.hid hV3
    clear hV3 hb2V3 hb8V3 hT9 hS9 kx1 kx2 kx3 hoy3 hoz3 hjl3 hb11
    cases hno : hasId (X.map JR.j) 999999
    · have KP2 := Lib.hid (KP.out hno)
      clear KP
      go_wp2_with fail
      rw [HV3.out]
      go_region_law (first
        | (go_simp; go_at_call 25; refine KV.out.mono ?_; rintro e w12 ⟨rfl, hb12⟩; obtain ⟨u0, u1, u2, u3, u4, u5⟩ := six_cells ((hb12.block _ (lt_of_blk HKY.out)).trans HKY.out); have HB12 := Lib.hid hb12; clear hb12)
        | (go_simp; go_at_call 24; refine (KS.out w12 HB12.out).mono ?_; rintro e w13 ⟨rfl, hb13⟩; have hb3 : Below V3.heap.size V3 w13 := HB12.out.trans (hb13.mono HB12.out.size); obtain ⟨t0, t1, t2, t3, t4, t5⟩ := six_cells ((hb3.block _ (lt_of_blk HKZ.out)).trans HKZ.out); have HB13 := Lib.hid hb3; clear hb13 hb3)
        | (go_simp; go_at_call 26; refine (KP2.out w13 HB13.out).mono ?_; rintro e w14 ⟨rfl, hb14⟩; have HB14 := Lib.hid hb14; clear hb14))
      all_goals
        go_wp2_with fail
        go_ret
        exact ⟨rfl, HB14.out⟩
    · clear KP
      have Q1 := Lib.hid (regrown_calls (w := V3) fun w1 _ => KVV.out w1)
      have Q2 := Lib.hid (regrown_calls (w := V3) fun w1 hb => KS.out w1 hb)
      replace j0 := cell_regrown j0; replace j1 := cell_regrown j1; replace j2 := cell_regrown j2; replace j3 := cell_regrown j3; replace j4 := cell_regrown j4; replace j5 := cell_regrown j5
      replace y0 := cell_regrown y0; replace y1 := cell_regrown y1; replace y2 := cell_regrown y2; replace y3 := cell_regrown y3; replace y4 := cell_regrown y4; replace y5 := cell_regrown y5
      clear z0 z1 z2 z3 z4 z5
      go_wp2_with fail
      rw [HV3.out]
      refine wp_region_quiet_below (by kernel_rfl) (by kernel_rfl) ?_
      repeat (go_big_quiet_step (fail))
      go_big_quiet_want
      go_big_quiet_op
      go_big_quiet_call (exact Q1.out _ _)
      repeat (go_big_quiet_step (fail))
      go_big_quiet_want
      go_big_quiet_op
      go_big_quiet_call (exact Q2.out _ _)
      repeat (go_big_quiet_step (fail))
      refine wpQuiet_nil ?_
      intro _ hw'
      obtain ⟨⟨dq, osq⟩, hw''⟩ := hw'
      subst hw''
      have HB13 := Lib.hid (HFB.out _ (below_regrown V3 dq osq))
      go_wp2_with fail
      go_ret
      exact ⟨rfl, HB13.out⟩
  · have e1 := bv_live1 HG.out HM.out hv
    have e2 := bv_void1 HG.out HM.out hv
    have e3 := bv_amend1 HG.out HM.out hv
    have kV := Lib.hid (void_in b.j.id HT5.out)
    rw [e1, e2] at kV
    obtain ⟨x0, x1, x2, x3, x4, x5⟩ := six_cells HK5.out
    rw [hv] at x5 p6 HK5 HW5 kA
    clear e1 e2
    go_wp2_with fail
    rw [HW5.out]
    refine kV.out.mono ?_
    rintro e w6 ⟨rfl, h6⟩
    have kA6 := Lib.hid (kA.out _ _ h6)
    rw [e3] at kA6
    obtain ⟨y0, y1, y2, y3, y4, y5⟩ := six_cells (h6.heap HK5.out HS4.out)
    clear h6 e3
    go_wp2_with fail
    refine kA6.out.mono ?_
    rintro e w7 ⟨rfl, h7⟩
    have HF := Lib.hid (HFIN.out _ _ h7)
    clear h7
    go_wp2_with fail
    go_ret
    exact ⟨rfl, HF.out⟩
end Go.Proofs.Ytjnlfecfpeedoaa
