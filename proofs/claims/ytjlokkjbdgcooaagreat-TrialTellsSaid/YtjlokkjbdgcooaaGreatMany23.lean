/-
  Several texts, one behind the other: what each holds stands ahead of it.
-/
import Derived.Test.YtjlokkjbdgcooaaGreatMany21
import Derived.Test.YtjlokkjbdgcooaaGreatMany22
import Derived.Test.YtjlokkjbdgcooaaGreatOwn

/-
  The first call of chapter 10's statements.
-/
namespace Go.Proofs.YtjlokkjbdgcooaaGreat
open Go.RowKit
open Mo

def j10 : Jrn := ⟨1, 1, 3, ⟨#[]⟩, [⟨100, 5, 0⟩, ⟨200, -5, 0⟩], false⟩
def r10 : List Bal := [⟨100, 5⟩, ⟨200, -5⟩]
theorem of10 : ofE [] [j10] = 0 ∧ ofM [] [j10] = [j10] := ⟨by kernel_rfl, by kernel_rfl⟩
theorem bal10 : balsOf (gathL (pkL ⟨1, 0, 5⟩) [j10]) = r10 := by kernel_rfl
theorem plus10 : plusB r10 = true := by kernel_rfl
theorem may10 : mayO ⟨1, 0, 5⟩ = true := by kernel_rfl
theorem plusOf10 : PlusOf r10 r10 := ⟨by unfold r10; simp, by unfold r10; simp, fun _ => rfl⟩
theorem sum10 : Mo.addV (amts r10) = 0 ∧ Mo.addE (amts r10) = 0 := ⟨by kernel_rfl, by kernel_rfl⟩
theorem rd_twoLn (w : World) (a b c d e f : Int) {T : TypeId} : Rd (w.alloc (.cells #[.int .i64 a, .int .i64 b, .int .i64 c, .int .i64 d, .int .i64 e, .int .i64 f] T)) (w.heap.size + 1) 3 (some ⟨w.heap.size, 0, none⟩) 2 (lins [⟨a, b, c⟩, ⟨d, e, f⟩]) :=
  ⟨rfl, fun _ => ⟨_, rfl, by simp, cells_new w [.int .i64 a, .int .i64 b, .int .i64 c, .int .i64 d, .int .i64 e, .int .i64 f] T⟩⟩
/-- A book that Of laid, as it lies. -/
theorem tome_of {X : Nat → Prop} {W w : World} {B c : Nat} {M : List Jrn} (h : TomeIn X W B c M w) : ∃ v l, TomeAt w B c v l ∧ l.map JR.j = M := by
  obtain ⟨v, l, h1, h2, _⟩ := h
  exact ⟨v, l, h1, h2⟩
set_option maxRecDepth 100000 in
set_option maxHeartbeats 2000000 in
theorem alive10_any (w : World) : Calls Tryz.prog 31 #[] w fun e w' => e = .returned (.bool true) ∧ Below w.heap.size w w' := by
  obtain ⟨W1, hW1⟩ : ∃ W1, w.alloc (.cells #[.int .i64 100, .int .i64 5, .int .i64 0, .int .i64 200, .int .i64 (-5), .int .i64 0] 113) = W1 := ⟨_, rfl⟩
  obtain ⟨W2, hW2⟩ : ∃ W2, W1.alloc (.cells #[.int .i64 1, .int .i64 1, .int .i64 3, .string ⟨#[]⟩, .slice (some ⟨w.heap.size, 0, none⟩) 2 2, .bool false] 111) = W2 := ⟨_, rfl⟩
  have z1 : W1.heap.size = w.heap.size + 1 := by rw [← hW1]; simp
  have z2 : W2.heap.size = w.heap.size + 2 := by rw [← hW2]; simp [z1]
  have b1 : Below w.heap.size w W1 := by rw [← hW1]; exact (Below.refl _ _).alloc (Nat.le_refl _) _
  have b2 : Below W1.heap.size W1 W2 := by rw [← hW2]; exact (Below.refl _ _).alloc (Nat.le_refl _) _
  have hR : Rd W2 W2.heap.size 3 (some ⟨w.heap.size, 0, none⟩) 2 (lins j10.lines) := by
    have := rd_twoLn w 100 5 0 200 (-5) 0 (T := 113)
    rw [hW1] at this
    exact (this.far b2 (by omega)).wide (by omega)
  have hJ : Rd W2 W2.heap.size 6 (some ⟨w.heap.size + 1, 0, none⟩) 1 (jrs [⟨j10, some ⟨w.heap.size, 0, none⟩, 2⟩]) := by
    refine ⟨rfl, fun _ => ⟨_, rfl, by show w.heap.size + 1 < _; omega, fun j u hu => ?_⟩⟩
    have := cells_new W1 (jrs [⟨j10, some ⟨w.heap.size, 0, none⟩, 2⟩]) 111 j u hu
    rw [z1] at this
    rw [← hW2]
    exact this
  have hJl : JlRd W2 W2.heap.size (some ⟨w.heap.size + 1, 0, none⟩) 1 [⟨j10, some ⟨w.heap.size, 0, none⟩, 2⟩] := by
    refine ⟨hJ, fun a ha => ?_, fun a ha e => ?_, fun a ha => ?_⟩
    · rw [List.mem_singleton] at ha; subst ha; exact hR
    · rw [List.mem_singleton] at ha; subst ha; cases e
    · rw [List.mem_singleton] at ha; subst ha; exact ⟨by show (0 : Nat) ≤ _; omega, by show (2 : Nat) ≤ _; unfold maxLen; omega⟩
  have ko := lawOf_any [⟨j10, some ⟨w.heap.size, 0, none⟩, 2⟩] (some ⟨w.heap.size + 1, 0, none⟩) 1 1 W2.heap.size W2 hJl (Nat.le_refl _) (by unfold maxLen; omega) of10.1
  rw [show ([⟨j10, some ⟨w.heap.size, 0, none⟩, 2⟩] : List JR).map JR.j = [j10] from rfl, of10.2] at ko
  have KO := Lib.hid ko
  have HB2 : Hid (Below w.heap.size w W2) := b1.trans (b2.mono b1.size)
  have HW1 := Lib.hid hW1; have HW2 := Lib.hid hW2
  clear hW1 hW2 hR hJ hJl ko b1 b2
  go_enter Tryz.func31, Tryz.ntmps31
  go_wp2_with fail
  rw [HW1.out, HW2.out]
  refine KO.out.mono ?_
  rintro e w3 ⟨rfl, hT⟩
  have HB3 : Hid (Below w.heap.size w w3) := HB2.out.trans ((hT.below W2 ((Below.refl _ _).alloc (Nat.le_refl _) _) fun k hk => ⟨by omega, by omega⟩).mono HB2.out.size)
  obtain ⟨v, l, hat, hl⟩ := tome_of hT
  have kb := balances_any ⟨1, 0, 5⟩ _ _ v l w3 hat (by have := congrArg List.length hl; simp at this; omega)
  rw [hl, z2] at kb
  have KB := Lib.hid kb
  have HL := Lib.hid hl
  clear hT hat kb KO hl
  unfold OfT.val at KB
  dsimp only at KB
  go_wp2_with fail
  refine KB.out.mono ?_
  rintro e w4 hbe
  have hbe2 : PlusEnd w3 r10 e w4 := by
    rcases hbe with ⟨h1, _⟩ | ⟨_, h⟩
    · rw [may10] at h1; cases h1
    · rw [bal10] at h; exact h
  obtain ⟨hb4, ⟨hbad, _⟩ | ⟨_, A, c, R, hR, rfl, hown⟩⟩ := hbe2
  · rw [plus10] at hbad; cases hbad
  have hRR : R = r10 := hR.unique plusOf10 fun _ => rfl
  subst hRR
  have HB4 := Lib.hid (HB3.out.trans (hb4.mono HB3.out.size))
  have hrd : Rd w4 w4.heap.size 2 A 2 (bals r10) := rd_of_own hown
  have ks := sumBals_any r10 A 2 c w4.heap.size w4 hrd (Nat.le_refl _) (by omega)
  rw [sum10.1, sum10.2] at ks
  have KS := Lib.hid ks
  obtain ⟨ad, hA, hbl, hcl⟩ := hrd.2 (by omega)
  subst hA
  have p0 : w4.cell? ad = some (.int .i64 100) := by
    have := hcl 0 _ rfl
    rwa [addr_zero] at this
  have p1 : w4.cell? ⟨ad.block, ad.off + 1, none⟩ = some (.int .i64 5) := by
    have := hcl 1 _ rfl
    rwa [add_pos _ (by omega)] at this
  have P0 := Lib.hid p0; have P1 := Lib.hid p1
  clear hbe hb4 hR hown hrd ks hcl KB p0 p1
  rw [show r10.length = 2 from rfl]
  go_wp2_with fail
  refine KS.out.mono ?_
  rintro e w5 ⟨rfl, hb5⟩
  have HB5 := Lib.hid (HB4.out.trans (hb5.mono HB4.out.size))
  have p0 := (hb5.cell (p := ad) hbl).trans P0.out
  have p1 := (hb5.cell (p := ⟨ad.block, ad.off + 1, none⟩) hbl).trans P1.out
  clear hb5 KS
  go_wp2_with fail
  go_ret
  exact ⟨rfl, HB5.out⟩
end Go.Proofs.YtjlokkjbdgcooaaGreat

/-
  Lists of accounts, and the statements' helper over them: SameAccounts.
-/
namespace Go.Proofs.YtjlokkjbdgcooaaGreat
open Go.RowKit

/-- An element. -/
structure Acc where
  code : Int
  kind : Int
  ret : Bool
deriving DecidableEq
def Acc.cells (a : Acc) : List Value := [.int .i64 a.code, .int .i64 a.kind, .bool a.ret]
def Acc.val (a : Acc) : Value := .agg #[.int .i64 a.code, .int .i64 a.kind, .bool a.ret]
def accs (l : List Acc) : List Value := l.flatMap Acc.cells
theorem accs_len : ∀ l : List Acc, (accs l).length = l.length * 3
  | [] => rfl
  | a :: l => by have := accs_len l; unfold accs at this ⊢; simp [Acc.cells, this]; omega
theorem accs_append (l m : List Acc) : accs (l ++ m) = accs l ++ accs m := by simp [accs]
theorem accs_at : ∀ (l : List Acc) (k : Nat) (a : Acc), l[k]? = some a → (accs l)[k * 3]? = some (.int .i64 a.code) ∧ (accs l)[k * 3 + 1]? = some (.int .i64 a.kind) ∧ (accs l)[k * 3 + 2]? = some (.bool a.ret)
  | [], k, a, h => by simp at h
  | b :: l, 0, a, h => by
    simp at h; subst h
    exact ⟨rfl, rfl, rfl⟩
  | b :: l, k + 1, a, h => by
    have := accs_at l k a (by simpa using h)
    unfold accs at this ⊢
    simp only [List.flatMap_cons, Acc.cells]
    rw [show (k + 1) * 3 = k * 3 + 3 by omega]
    simpa [List.getElem?_append_right] using this
theorem Rd.accs_len {w : World} {B n : Nat} {A : Option Addr} {l : List Acc} (h : Rd w B 3 A n (accs l)) : l.length = n := by
  have := h.1; rw [Go.Proofs.YtjlokkjbdgcooaaGreat.accs_len] at this; omega
theorem Rd.acc {w : World} {B n i : Nat} {A : Option Addr} {l : List Acc} (h : Rd w B 3 A n (accs l)) (hi : i < n) :
    ∃ ad a, A = some ad ∧ ad.block < B ∧ l[i]? = some a ∧ w.cell? (ad.add (i * 3)) = some (.int .i64 a.code) ∧ w.cell? (ad.add (i * 3 + 1)) = some (.int .i64 a.kind) ∧ w.cell? (ad.add (i * 3 + 2)) = some (.bool a.ret) := by
  obtain ⟨ad, e, hb, hc⟩ := h.2 (by omega)
  have hl := h.accs_len
  have hg : l[i]? = some l[i] := List.getElem?_eq_getElem (by omega)
  obtain ⟨h1, h2, h3⟩ := accs_at l i _ hg
  exact ⟨ad, _, e, hb, hg, hc _ _ h1, hc _ _ h2, hc _ _ h3⟩

theorem infoAcc : (Tryz.prog.info? 165).map (fun i => (i.zero, i.size, i.bytes)) = some (some (.agg #[.int .i64 0, .int .i64 0, .bool false]), 3, 24) := by kernel_rfl
theorem acc_step {l m : List Acc} {k : Nat} (hk : k < l.length ∧ k < m.length) (h1 : l.take k = m.take k) (h2 : l[k]? = m[k]?) : l.take (k + 1) = m.take (k + 1) := by
  rw [List.take_succ_eq_append_getElem hk.1, List.take_succ_eq_append_getElem hk.2, h1]
  rw [List.getElem?_eq_getElem hk.1, List.getElem?_eq_getElem hk.2] at h2
  injection h2 with h2
  rw [h2]

set_option maxRecDepth 100000 in
set_option maxHeartbeats 400000 in
theorem sameAccounts_any (l m : List Acc) (A1 A2 : Option Addr) (n1 n2 c1 c2 B1 B2 : Nat) (w : World) (h1 : Rd w B1 3 A1 n1 (accs l)) (h2 : Rd w B2 3 A2 n2 (accs m)) (hn1 : n1 ≤ 1000000) (hn2 : n2 ≤ 1000000) :
    Calls Tryz.prog 142 #[.slice A1 n1 c1, .slice A2 n2 c2] w fun e w' => e = .returned (.bool (l == m)) ∧ Drew w w' := by
  have L1 := Lib.hid h1.accs_len
  have L2 := Lib.hid h2.accs_len
  by_cases hne : n1 = n2
  · subst hne
    have t1 : ((n1 : Int) != (n1 : Int)) = false := by simp
    go_enter Tryz.func142, Tryz.ntmps142
    go_wp2_with fail
    go_loopw [5] (fun i wr => ∃ k : Nat, k ≤ n1 ∧ i = .int .i64 k ∧ Hid (l.take k = m.take k) ∧ Drew w wr) (fun i _ => n1 - (intOf i).toNat)
    case atStart => exact ⟨0, Nat.zero_le _, rfl, by simp [Hid], Drew.refl _⟩
    case round =>
      obtain ⟨k, hk, rfl, hs, q, rfl⟩ := hrel
      by_cases hlt : k < n1
      · obtain ⟨a1, x, rfl, hb1, hx, p1, p2, p3⟩ := h1.acc hlt
        obtain ⟨a2, y, rfl, hb2, hy, r1, r2, r3⟩ := h2.acc hlt
        have hkn : (k : Int) < (n1 : Int) := by omega
        have p2' := cell_behind p2 (by omega)
        have p3' := cell_behind p3 (by omega)
        have r2' := cell_behind r2 (by omega)
        have r3' := cell_behind r3 (by omega)
        have HX : Hid (x = y → l.take (k + 1) = m.take (k + 1)) := fun h => acc_step (by have := L1.out; have := L2.out; omega) hs.out (by rw [hx, hy, h])
        have HY : Hid (x ≠ y → (l == m) = false) := by
          intro h
          rw [beq_eq_false_iff_ne]
          intro e
          rw [e, hy] at hx
          exact h (by injection hx with hx; exact hx.symm)
        clear hx hy p2 p3 r2 r3
        obtain ⟨x1, x2, x3⟩ := x
        obtain ⟨y1, y2, y3⟩ := y
        by_cases e1 : x1 = y1
        · subst e1
          by_cases e2 : x2 = y2
          · subst e2
            by_cases e3 : x3 = y3
            · subst e3
              go_wp2_with fail
              go_big_quiet (fail)
              go_wp2
              exact ⟨⟨k + 1, by omega, by go_num, HX.out (by first | rfl | trivial), Drew.add _ _⟩, by simp [intOf]; omega⟩
            · skip
              go_wp2_with fail
              go_big_quiet (fail)
              go_wp2
              go_ret
              exact ⟨ret_bool (HY.out (by simp [e3])).symm, ⟨_, World.drewN_drewN _ _ _⟩⟩
          · skip
            go_wp2_with fail
            go_big_quiet (fail)
            go_wp2
            go_ret
            exact ⟨ret_bool (HY.out (by simp [e2])).symm, ⟨_, World.drewN_drewN _ _ _⟩⟩
        · skip
          go_wp2_with fail
          go_big_quiet (fail)
          go_wp2
          go_ret
          exact ⟨ret_bool (HY.out (by simp [e1])).symm, ⟨_, World.drewN_drewN _ _ _⟩⟩
      · go_wp2
        go_ret
        refine ⟨ret_bool ?_, _, rfl⟩
        have := hs.out
        rw [List.take_of_length_le (by have := L1.out; omega), List.take_of_length_le (by have := L2.out; omega)] at this
        rw [this]; simp
  · have t1 : ((n1 : Int) != (n2 : Int)) = true := by rw [bne_iff_ne]; omega
    have HN := Lib.hid hne
    clear hne
    go_enter Tryz.func142, Tryz.ntmps142
    go_wp2
    go_ret
    refine ⟨ret_bool ?_, Drew.refl _⟩
    symm
    rw [beq_eq_false_iff_ne]
    intro e
    have := L1.out; have := L2.out
    rw [e] at *
    have := HN.out; omega
end Go.Proofs.YtjlokkjbdgcooaaGreat
