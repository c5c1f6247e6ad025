/-
  Several texts, one behind the other: what each holds stands ahead of it.
-/
import Derived.Test.YtjlokkjbdgcooaaGreatMany30
import Derived.Test.YtjlokkjbdgcooaaGreatMany33
import Derived.Test.YtjlokkjbdgcooaaGreatMany26
import Derived.Test.YtjlokkjbdgcooaaGreatMany18
import Derived.Test.YtjlokkjbdgcooaaGreatMany28

/-
  The first call of chapter 11's statements.
-/
namespace Go.Proofs.YtjlokkjbdgcooaaGreat
open Go.RowKit
open Mo

def j11 : Jrn := ⟨1, 1, 3, ⟨#[]⟩, [⟨100, 5, 0⟩, ⟨400, -9, 0⟩, ⟨500, 4, 0⟩], false⟩
def a11 : List Acc := [⟨100, 1, false⟩, ⟨400, 4, false⟩, ⟨500, 5, false⟩]
def r11 : List Bal := [⟨100, 5⟩, ⟨400, -9⟩, ⟨500, 4⟩]
theorem set11 : setC a11 = a11 := by kernel_rfl
theorem fit11 : fitF 40 [j11] = [j11] := by kernel_rfl
theorem bal11 : balsOf (gathL (pkL ⟨1, 0, 5⟩) [j11]) = r11 := by kernel_rfl
theorem balE11 : balE ⟨1, 0, 5⟩ [j11] = 0 := by kernel_rfl
theorem plusOf11 : PlusOf r11 r11 := ⟨by unfold r11; simp, by unfold r11; simp, fun _ => rfl⟩
theorem balR11 : balR ⟨1, 0, 5⟩ [j11] = r11 := by
  symm
  apply balIs_R
  rw [bal11, balE11]
  exact ⟨fun _ => plusOf11, fun h => absurd rfl h⟩
theorem inL11 : inL a11 r11 = [⟨400, 9⟩] := by kernel_rfl
theorem earn11 : earnB a11 r11 = 9 := by kernel_rfl
theorem spent11 : spentB a11 r11 = 4 := by kernel_rfl
theorem net11 : netB a11 r11 = 5 := by kernel_rfl
theorem fits11 : incFits a11 r11 = true := by kernel_rfl
theorem incE11 : incE a11 ⟨1, 0, 5⟩ [j11] = 0 := by
  unfold incE
  rw [balE11, balR11, fits11]
  rfl
set_option maxRecDepth 100000 in
set_option maxHeartbeats 2000000 in
theorem alive11_any (w : World) : Calls Tryz.prog 42 #[] w fun e w' => e = .returned (.bool true) ∧ Below w.heap.size w w' := by
  obtain ⟨W1, hW1⟩ : ∃ W1, w.alloc (.cells #[.int .i64 100, .int .i64 1, .bool false, .int .i64 400, .int .i64 4, .bool false, .int .i64 500, .int .i64 5, .bool false] 165) = W1 := ⟨_, rfl⟩
  obtain ⟨W2, hW2⟩ : ∃ W2, W1.alloc (.cells #[.int .i64 100, .int .i64 5, .int .i64 0, .int .i64 400, .int .i64 (-9), .int .i64 0, .int .i64 500, .int .i64 4, .int .i64 0] 113) = W2 := ⟨_, rfl⟩
  obtain ⟨W3, hW3⟩ : ∃ W3, W2.alloc (.cells #[.int .i64 1, .int .i64 1, .int .i64 3, .string ⟨#[]⟩, .slice (some ⟨w.heap.size + 1, 0, none⟩) 3 3, .bool false] 111) = W3 := ⟨_, rfl⟩
  have z1 : W1.heap.size = w.heap.size + 1 := by rw [← hW1]; simp
  have z2 : W2.heap.size = w.heap.size + 2 := by rw [← hW2]; simp [z1]
  have z3 : W3.heap.size = w.heap.size + 3 := by rw [← hW3]; simp [z2]
  have b1 : Below w.heap.size w W1 := by rw [← hW1]; exact (Below.refl _ _).alloc (Nat.le_refl _) _
  have b2 : Below W1.heap.size W1 W2 := by rw [← hW2]; exact (Below.refl _ _).alloc (Nat.le_refl _) _
  have b3 : Below W2.heap.size W2 W3 := by rw [← hW3]; exact (Below.refl _ _).alloc (Nat.le_refl _) _
  have b13 : Below W1.heap.size W1 W3 := b2.trans (b3.mono b2.size)
  have hA : Rd W3 W3.heap.size 3 (some ⟨w.heap.size, 0, none⟩) 3 (accs a11) := by
    have h1 : Rd W1 (w.heap.size + 1) 3 (some ⟨w.heap.size, 0, none⟩) 3 (accs a11) := by
      rw [← hW1]
      exact ⟨rfl, fun _ => ⟨_, rfl, by simp, cells_new w (accs a11) 165⟩⟩
    exact (h1.far b13 (by omega)).wide (by omega)
  have hR : Rd W3 W3.heap.size 3 (some ⟨w.heap.size + 1, 0, none⟩) 3 (lins j11.lines) := by
    have h1 : Rd W2 (W1.heap.size + 1) 3 (some ⟨W1.heap.size, 0, none⟩) 3 (lins j11.lines) := by
      rw [← hW2]
      exact ⟨rfl, fun _ => ⟨_, rfl, by simp, cells_new W1 (lins j11.lines) 113⟩⟩
    rw [z1] at h1
    exact (h1.far b3 (by omega)).wide (by omega)
  have hJ : Rd W3 W3.heap.size 6 (some ⟨w.heap.size + 2, 0, none⟩) 1 (jrs [⟨j11, some ⟨w.heap.size + 1, 0, none⟩, 3⟩]) := by
    refine ⟨rfl, fun _ => ⟨_, rfl, by show w.heap.size + 2 < _; omega, fun j u hu => ?_⟩⟩
    have := cells_new W2 (jrs [⟨j11, some ⟨w.heap.size + 1, 0, none⟩, 3⟩]) 111 j u hu
    rw [z2] at this
    rw [← hW3]
    exact this
  have hJl : JlRd W3 W3.heap.size (some ⟨w.heap.size + 2, 0, none⟩) 1 [⟨j11, some ⟨w.heap.size + 1, 0, none⟩, 3⟩] := by
    refine ⟨hJ, fun a ha => ?_, fun a ha e => ?_, fun a ha => ?_⟩
    · rw [List.mem_singleton] at ha; subst ha; exact hR
    · rw [List.mem_singleton] at ha; subst ha; cases e
    · rw [List.mem_singleton] at ha; subst ha; exact ⟨by show (0 : Nat) ≤ _; omega, by show (3 : Nat) ≤ _; unfold maxLen; omega⟩
  have ks := trialSetF_any a11 [⟨j11, some ⟨w.heap.size + 1, 0, none⟩, 3⟩] (some ⟨w.heap.size, 0, none⟩) (some ⟨w.heap.size + 2, 0, none⟩) 3 1 3 1 W3.heap.size W3 hA hJl (Nat.le_refl _) (by unfold maxLen; omega) (by unfold maxLen; omega)
  rw [show ([⟨j11, some ⟨w.heap.size + 1, 0, none⟩, 3⟩] : List JR).map JR.j = [j11] from rfl] at ks
  have KS := Lib.hid ks
  have HB3 : Hid (Below w.heap.size w W3) := b1.trans (b13.mono b1.size)
  have HW : Hid (((w.alloc (.cells #[.int .i64 100, .int .i64 1, .bool false, .int .i64 400, .int .i64 4, .bool false, .int .i64 500, .int .i64 5, .bool false] 165)).alloc (.cells #[.int .i64 100, .int .i64 5, .int .i64 0, .int .i64 400, .int .i64 (-9), .int .i64 0, .int .i64 500, .int .i64 4, .int .i64 0] 113)).alloc (.cells #[.int .i64 1, .int .i64 1, .int .i64 3, .string ⟨#[]⟩, .slice (some ⟨w.heap.size + 1, 0, none⟩) 3 3, .bool false] 111) = W3) := by unfold Hid; rw [hW1, hW2, hW3]
  clear hW1 hW2 hW3 hA hR hJ hJl ks b1 b2 b3 b13 z1 z2 z3
  go_enter Tryz.func42, Tryz.ntmps42
  go_wp2_with fail
  rw [HW.out]
  refine KS.out.mono ?_
  rintro e w4 ⟨cb, bb, Bc, Bb, vc, vb, C, lb, Ar, cr, Aj, cj, X, rfl, hC, hT, hl, _, hX40, _, _, hG, hC30, hCC, hXF, hb4⟩
  rw [set11] at hCC
  rw [fit11] at hXF
  subst hCC
  have hlb : lb.length ≤ 100 := by
    have := congrArg List.length hl
    rw [List.length_map, List.length_map] at this
    omega
  have km := make_any Bc cb Bb bb vc vb a11 lb [j11] ⟨1, 0, 5⟩ w4 hC hT hlb (hl.trans hXF) (by rw [bal11]; unfold r11; simp) hG (by omega)
  have KM := Lib.hid km
  have HB4 := Lib.hid (HB3.out.trans (hb4.mono HB3.out.size))
  clear hC hT hl hG hXF hb4 km KS
  unfold OfT.val at KM
  dsimp only at KM
  rw [show (List.length a11) = 3 from rfl]
  go_wp2_with fail
  refine KM.out.mono ?_
  rintro e w5 ⟨hb5, ⟨hbad, _⟩ | ⟨_, hst⟩⟩
  · exact absurd incE11 hbad
  rw [balR11] at hst
  unfold StmOk at hst
  rw [inL11, earn11, spent11, net11] at hst
  obtain ⟨A1, c1, A2, c2, rfl, hown1, _, _⟩ := hst
  have HB5 := Lib.hid (HB4.out.trans (hb5.mono HB4.out.size))
  obtain ⟨g, rfl, _, hgl⟩ := own_addr hown1 (by decide)
  have hc : w5.cell? ⟨g, 1, none⟩ = some (.int .i64 9) := own_cell hown1 rfl
  clear hown1 hb5 KM
  generalize (outL a11 r11).length = n2
  rw [show (List.length [(⟨400, 9⟩ : Bal)]) = 1 from rfl]
  go_wp2_with fail
  go_ret
  exact ⟨rfl, HB5.out.alloc HB5.out.size _⟩
end Go.Proofs.YtjlokkjbdgcooaaGreat

/-
  Contract of the reference's Kind.
-/
namespace Go.Proofs.YtjlokkjbdgcooaaGreat
open Go.RowKit

set_option maxRecDepth 100000 in
set_option maxHeartbeats 1000000 in
theorem refKind_any (l : List Acc) (x : Int) (A : Option Addr) (n c B : Nat) (w : World) (h : Rd w B 3 A n (accs l)) (hB : B ≤ w.heap.size) (hn : n ≤ 1000000) :
    Calls Tryz.prog 125 #[.slice A n c, .int .i64 x] w fun e w' => e = .returned (.int .i64 (kindA l x)) ∧ Below w.heap.size w w' := by
  have kg := refAccount_any l x A n c B w h hB hn
  unfold getV at kg
  unfold kindA
  clear h
  generalize (findA l x).getD acc0 = a at *
  generalize (findA l x).isSome = t at *
  obtain ⟨x1, x2, x3⟩ := a
  unfold Acc.val at kg
  go_enter Tryz.func125, Tryz.ntmps125
  go_wp2_with fail
  refine kg.mono ?_
  rintro e w2 ⟨rfl, hb⟩
  have hz := hb.size
  have HB := Lib.hid hb
  clear hb
  go_wp2
  go_ret
  refine ⟨rfl, ?_⟩
  first | exact HB.out.alloc (by omega) _ | exact (((HB.out.alloc (by omega) _).setCell (by simp; omega) _).setCell (by simp; omega) _).setCell (by simp; omega) _
end Go.Proofs.YtjlokkjbdgcooaaGreat

/-
  Contracts of the document's own Fits and Add.
-/
namespace Go.Proofs.YtjlokkjbdgcooaaGreat.Mo
open Go.RowKit

set_option maxHeartbeats 400000 in
theorem refFits_any (a : Int) (w : World) : Calls Tryz.prog 50 #[.int .i64 a] w fun e w' => e = .returned (.bool (fits1 a)) ∧ w = w' := by
  by_cases h1 : -1000000000000000 ≤ a
  · go_enter Tryz.func50, Tryz.ntmps50
    go_wp2
    go_ret
    exact ⟨ret_bool (by unfold fits1; rw [Bool.eq_iff_iff]; simp; omega), rfl⟩
  · go_enter Tryz.func50, Tryz.ntmps50
    go_wp2
    go_ret
    exact ⟨ret_bool (by unfold fits1; rw [Bool.eq_iff_iff]; simp; omega), rfl⟩

theorem fitsTo_bd {l : List Int} {k : Nat} (h : fitsAll (l.take k) = true) (hk : k ≤ l.length) : -(1000000000000000 * (k : Int)) ≤ sumTo l k ∧ sumTo l k ≤ 1000000000000000 * (k : Int) := by
  have := fitsAll_bd h k (by simp; omega)
  simpa [sumTo, List.take_take] using this

end Go.Proofs.YtjlokkjbdgcooaaGreat.Mo

/-
  Contracts of the reference's Pick and Net.
-/
namespace Go.Proofs.YtjlokkjbdgcooaaGreat
open Go.RowKit
open Mo

def turnB (z : Bool) (l : List Bal) : List Bal := if z = true then negB l else l
def pkR (C : List Acc) (kd : Int) (l : List Bal) : List Bal := l.filter fun x => decide (kindA C x.acct = kd)
def turnX (z : Bool) (x : Int) : Int := if z = true then -x else x
theorem turnB_append (z : Bool) (l m : List Bal) : turnB z (l ++ m) = turnB z l ++ turnB z m := by
  cases z
  · rfl
  · simp [turnB, negB]
theorem turnB_len (z : Bool) (l : List Bal) : (turnB z l).length = l.length := by
  cases z
  · rfl
  · exact negB_len l
theorem pkR_len (C : List Acc) (kd : Int) (l : List Bal) : (pkR C kd l).length ≤ l.length := List.length_filter_le _ _
theorem amts_bound : ∀ L : List Bal, fitsAll (amts L) = true → -(1000000000000000 * (L.length : Int)) ≤ (amts L).sum ∧ (amts L).sum ≤ 1000000000000000 * (L.length : Int)
  | [], _ => by simp [amts]
  | x :: r, h => by
    rw [fitsAll_iff] at h
    have hx := fits1_iff.1 (h x.amt (by simp [amts]))
    have ih := amts_bound r (by
      rw [fitsAll_iff]
      intro y hy
      exact h y (by unfold amts at hy ⊢; rw [List.map_cons]; exact List.mem_cons_of_mem _ hy))
    unfold amts at ih ⊢
    rw [List.map_cons, List.sum_cons, List.length_cons]
    omega
theorem turnB_fits {z : Bool} {l : List Bal} (h : fitsAll (amts l) = true) : fitsAll (amts (turnB z l)) = true := by
  cases z
  · exact h
  · show fitsAll (amts (negB l)) = true
    rw [fitsAll_negB]; exact h
theorem filter_fits {p : Bal → Bool} {l : List Bal} (h : fitsAll (amts l) = true) : fitsAll (amts (l.filter p)) = true := by
  rw [fitsAll_iff] at h ⊢
  intro x hx
  obtain ⟨y, hy, rfl⟩ := List.mem_map.1 hx
  exact h _ (List.mem_map.2 ⟨y, (List.mem_filter.1 hy).1, rfl⟩)
theorem take_fits {l : List Bal} (k : Nat) (h : fitsAll (amts l) = true) : fitsAll (amts (l.take k)) = true := by
  rw [fitsAll_iff] at h ⊢
  intro x hx
  obtain ⟨y, hy, rfl⟩ := List.mem_map.1 hx
  exact h _ (List.mem_map.2 ⟨y, List.mem_of_mem_take hy, rfl⟩)
theorem amts_snoc (L : List Bal) (x : Bal) : (amts (L ++ [x])).sum = (amts L).sum + x.amt := by simp [amts]

set_option maxRecDepth 100000 in
set_option maxHeartbeats 4000000 in
theorem refPick_any (z : Bool) (kd : Int) (C : List Acc) (l : List Bal) (Ar A : Option Addr) (m cr n c B : Nat) (w : World) (hr : Rd w B 3 Ar m (accs C)) (h : Rd w B 2 A n (bals l)) (hB : B ≤ w.heap.size) (hm : m ≤ 1000) (hn : n ≤ 1000) (hf : fitsAll (amts l) = true) :
    Calls Tryz.prog 44 #[.slice Ar m cr, .slice A n c, .int .i64 kd, .bool z] w fun e w' => ∃ A' c', e = .returned (.tuple #[.slice A' (turnB z (pkR C kd l)).length c', .int .i64 (amts (turnB z (pkR C kd l))).sum]) ∧ w'.ownsRow w.heap.size 161 2 (.slice A' (turnB z (pkR C kd l)).length c') (turnB z (pkR C kd l)).length (bals (turnB z (pkR C kd l))) ∧ Below w.heap.size w w' := by
  have hll : l.length = n := h.bals_len
  have HR := Lib.hid hr; have HL := Lib.hid h; have HF := Lib.hid hf; have HLL := Lib.hid hll
  clear hr h hf hll
  go_enter Tryz.func44, Tryz.ntmps44
  go_wp2_with fail
  go_loopw [10, 11, 12] (fun lv sv iv wr => ∃ k : Nat, k ≤ n ∧ iv = .int .i64 k ∧ (∃ L A' c', lv = .slice A' (List.length L) c' ∧ sv = .int .i64 (amts L).sum ∧ List.length L ≤ k ∧ Hid (turnB z (pkR C kd (l.take k)) = L) ∧ wr.ownsRow w.heap.size 161 2 (.slice A' (List.length L) c') (List.length L) (bals L)) ∧ Below w.heap.size w wr) (fun _ _ iv _ => n - (intOf iv).toNat)
  case atStart => exact ⟨0, Nat.zero_le _, rfl, ⟨[], none, 0, rfl, rfl, by simp, by cases z <;> rfl, World.ownsRow_nil _ _ _ _⟩, Below.refl _ _⟩
  case round =>
    obtain ⟨k, hk, rfl, ⟨L, A', c', rfl, rfl, hLl, HI, hown⟩, hbel⟩ := hrel
    have hzr := hbel.size
    by_cases hlt : k < n
    · obtain ⟨ad, x, rfl, hb0, hx, p0, p1⟩ := (HL.out.far hbel hB).bal hlt
      have p1' := cell_behind (j := 1) p1 (by omega)
      have hkI : (k : Int) < (n : Int) := by omega
      have HY := Lib.hid (filter_yes (p := fun x => decide (kindA C x.acct = kd)) hx)
      have HN := Lib.hid (filter_no (p := fun x => decide (kindA C x.acct = kd)) hx)
      have hfx := fits1_iff.1 ((fitsAll_iff.1 HF.out) x.amt (List.mem_map.2 ⟨x, List.mem_of_getElem? hx, rfl⟩))
      have hsb : -(1000000000000000 * (L.length : Int)) ≤ (amts L).sum ∧ (amts L).sum ≤ 1000000000000000 * (L.length : Int) := amts_bound L (by rw [← HI.out]; exact turnB_fits (filter_fits (take_fits k HF.out)))
      have KK := Lib.hid (refKind_any C x.acct Ar m cr B wr (HR.out.far hbel hB) (by omega) (by omega))
      have HO := Lib.hid hown; have HBE := Lib.hid hbel
      have HX : Hid (∀ u, u = kindA C x.acct → (decide (kindA C x.acct = kd)) = decide (u = kd)) := fun u h => by rw [h]
      clear hx hown hbel p1
      obtain ⟨kk, hkk⟩ : ∃ kk, kindA C x.acct = kk := ⟨_, rfl⟩
      rw [hkk] at KK
      have HKK := Lib.hid hkk
      obtain ⟨S, hS⟩ : ∃ S, (amts L).sum = S := ⟨_, rfl⟩
      have HS := Lib.hid hS
      rw [hS] at hsb ⊢
      clear hkk hS HX
      obtain ⟨x1, x2⟩ := x
      dsimp only at *
      have hw1 : IntKind.i64.wrap (-x2) = -x2 := by rw [IntKind.wrap_i64]; omega
      have hw2 : IntKind.i64.wrap (S + x2) = S + x2 := by rw [IntKind.wrap_i64]; omega
      have hw3 : IntKind.i64.wrap (S + -x2) = S + -x2 := by rw [IntKind.wrap_i64]; omega
      go_wp2_with fail
      refine KK.out.mono ?_
      rintro e w4 ⟨rfl, hb4⟩
      have hz4 := hb4.size
      have HB4 := Lib.hid (HBE.out.trans (hb4.mono hzr))
      have q0 : w4.cell? (ad.add (k * 2)) = some (.int .i64 x1) := by rw [hb4.cell (by rw [add_block]; omega)]; exact p0
      have q1 : w4.cell? ⟨(ad.add (k * 2)).block, (ad.add (k * 2)).off + 1, none⟩ = some (.int .i64 x2) := by rw [hb4.cell (by show (ad.add (k * 2)).block < _; rw [add_block]; omega)]; exact p1'
      have hown4 := own_kept HO.out fun q hq _ => hb4.block q hq
      have HO4 := Lib.hid hown4
      clear hb4 p0 p1' KK
      by_cases hkd : kk = kd
      · have t1 : (kk != kd) = false := by simpa using hkd
        have HY2 : Hid (turnB z (pkR C kd (l.take (k + 1))) = L ++ turnB z [⟨x1, x2⟩]) := by
          unfold Hid pkR
          rw [HY.out (by rw [HKK.out]; exact decide_eq_true hkd), turnB_append]
          have := HI.out
          unfold pkR at this
          rw [this]
        clear hkd
        cases z
        · have HY3 : Hid (turnB false (pkR C kd (l.take (k + 1))) = L ++ [⟨x1, x2⟩]) := HY2.out
          obtain ⟨W5, hW5⟩ : ∃ W5, w4.alloc (.cells #[.int .i64 x1, .int .i64 (x2)] 161) = W5 := ⟨_, rfl⟩
          have hb5 : Below w4.heap.size w4 W5 := by rw [← hW5]; exact (Below.refl _ _).alloc (Nat.le_refl _) _
          have hz5 : W5.heap.size = w4.heap.size + 1 := by rw [← hW5]; simp
          have hh5 : W5.heap[w4.heap.size]? = some (.cells #[.int .i64 x1, .int .i64 (x2)] 161 (0, 0)) := by rw [← hW5]; exact heap_new w4 _
          obtain ⟨v7, w7, hrun, hown7, hbut7, hb7, _⟩ := append_bal1 (w := W5) ⟨x1, x2⟩ (own_kept hown4 fun q hq _ => hb5.block q hq) (by omega) (by omega)
          obtain ⟨A7, c7, rfl⟩ := own_form hown7
          have HO7 := Lib.hid hown7
          have HB7 := Lib.hid ((HB4.out.trans (hb5.mono HB4.out.size)).trans hb7)
          have hh7 := (hbut7.block _ (lt_of_blk hh5) (fun e => by have := own_lt hown4 _ e; omega)).trans hh5
          have y1 := cell_of hh7 1
          dsimp at y1
          have HSS : Hid ((amts (L ++ [(⟨x1, x2⟩ : Bal)])).sum = S + (x2)) := by unfold Hid; rw [amts_snoc, HS.out]
          have HLE : Hid ((L ++ [(⟨x1, x2⟩ : Bal)]).length = L.length + 1) := by simp [Hid]
          rw [hz5, ← hW5] at hrun
          dsimp only at hrun
          clear hown7 hb7 hb5 hz5 hW5 hown4 hh5 hbut7 hh7
          go_wp2_with (at_builtin; refine Lib.wpList_append_run _ rfl _ _ _ _ rfl _ _ rfl rfl _ _ (hrun _) ?_)
          exact ⟨⟨k + 1, by omega, by go_num, ⟨L ++ [⟨x1, x2⟩], A7, c7, by rw [HLE.out], by rw [HSS.out], by rw [HLE.out]; omega, HY3, by rw [HLE.out]; exact HO7.out⟩, HB7.out⟩, by simp [intOf]; omega⟩
        · have HY3 : Hid (turnB true (pkR C kd (l.take (k + 1))) = L ++ [⟨x1, -x2⟩]) := HY2.out
          obtain ⟨W5, hW5⟩ : ∃ W5, w4.alloc (.cells #[.int .i64 x1, .int .i64 (-x2)] 161) = W5 := ⟨_, rfl⟩
          have hb5 : Below w4.heap.size w4 W5 := by rw [← hW5]; exact (Below.refl _ _).alloc (Nat.le_refl _) _
          have hz5 : W5.heap.size = w4.heap.size + 1 := by rw [← hW5]; simp
          have hh5 : W5.heap[w4.heap.size]? = some (.cells #[.int .i64 x1, .int .i64 (-x2)] 161 (0, 0)) := by rw [← hW5]; exact heap_new w4 _
          obtain ⟨v7, w7, hrun, hown7, hbut7, hb7, _⟩ := append_bal1 (w := W5) ⟨x1, -x2⟩ (own_kept hown4 fun q hq _ => hb5.block q hq) (by omega) (by omega)
          obtain ⟨A7, c7, rfl⟩ := own_form hown7
          have HO7 := Lib.hid hown7
          have HB7 := Lib.hid ((HB4.out.trans (hb5.mono HB4.out.size)).trans hb7)
          have hh7 := (hbut7.block _ (lt_of_blk hh5) (fun e => by have := own_lt hown4 _ e; omega)).trans hh5
          have y1 := cell_of hh7 1
          dsimp at y1
          have HSS : Hid ((amts (L ++ [(⟨x1, -x2⟩ : Bal)])).sum = S + (-x2)) := by unfold Hid; rw [amts_snoc, HS.out]
          have HLE : Hid ((L ++ [(⟨x1, -x2⟩ : Bal)]).length = L.length + 1) := by simp [Hid]
          rw [hz5, ← hW5] at hrun
          dsimp only at hrun
          clear hown7 hb7 hb5 hz5 hW5 hown4 hh5 hbut7 hh7
          go_wp2_with (at_builtin; refine Lib.wpList_append_run _ rfl _ _ _ _ rfl _ _ rfl rfl _ _ (hrun _) ?_)
          exact ⟨⟨k + 1, by omega, by go_num, ⟨L ++ [⟨x1, -x2⟩], A7, c7, by rw [HLE.out], by rw [HSS.out], by rw [HLE.out]; omega, HY3, by rw [HLE.out]; exact HO7.out⟩, HB7.out⟩, by simp [intOf]; omega⟩
      · have t1 : (kk != kd) = true := by simpa using hkd
        have HN2 : Hid (turnB z (pkR C kd (l.take (k + 1))) = L) := by
          unfold Hid pkR
          rw [HN.out (by rw [HKK.out]; exact decide_eq_false hkd)]
          exact HI.out
        clear hkd hown4
        go_wp2_with fail
        exact ⟨⟨k + 1, by omega, by go_num, ⟨L, A', c', rfl, by rw [HS.out], by omega, HN2, HO4.out⟩, HB4.out⟩, by simp [intOf]; omega⟩
    · have hkn : k = n := by omega
      have hi := HI.out
      rw [List.take_of_length_le (by rw [HLL.out]; omega)] at hi
      subst hi
      have HO := Lib.hid hown; have HBE := Lib.hid hbel
      clear hown hbel
      go_wp2_with fail
      go_ret2
      exact ⟨_, _, rfl, HO.out, HBE.out⟩
theorem pkR_in {C : List Acc} (hg : GoodA C) (l : List Bal) : turnB true (pkR C 4 l) = inL C l := by
  unfold turnB inL pkR pickB
  rw [if_pos rfl]
  congr 1
  apply List.filter_congr
  intro x _
  rw [kindL_contains hg, Bool.eq_iff_iff]
  simp
  omega
theorem pkR_out {C : List Acc} (hg : GoodA C) (l : List Bal) : turnB false (pkR C 5 l) = outL C l := by
  unfold turnB outL pkR pickB
  rw [if_neg (by decide)]
  apply List.filter_congr
  intro x _
  rw [kindL_contains hg, Bool.eq_iff_iff]
  simp
  omega
end Go.Proofs.YtjlokkjbdgcooaaGreat
