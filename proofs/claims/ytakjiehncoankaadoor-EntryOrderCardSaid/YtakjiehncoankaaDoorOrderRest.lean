/-
  EntryOrder: what stands behind the copies.
-/
import Derived.Test.YtakjiehncoankaaDoorOrderCopies
namespace Go.Proofs.YtakjiehncoankaaDoor
open Go.RowKit Go.Sort

theorem low_bits (x : Int) : 0 ≤ bits .and .i64 x 1023 ∧ bits .and .i64 x 1023 ≤ 1023 := by
  have h : (BitVec.ofInt 64 x &&& BitVec.ofInt 64 1023).toNat ≤ 1023 := by
    rw [BitVec.toNat_and]
    exact Nat.le_trans Nat.and_le_right (by decide)
  have e : bits .and .i64 x 1023 = IntKind.i64.wrap ((BitVec.ofInt 64 x &&& BitVec.ofInt 64 1023).toNat : Int) := rfl
  rw [e, IntKind.wrap_i64]
  omega
theorem lins_setA (v : Int) : ∀ (l : List Lin) (k : Nat) (x : Lin), l[k]? = some x → (lins l).set (k * 3 + 1) (.int .i64 v) = lins (l.set k ⟨x.acct, v, x.part⟩)
  | [], p, a, h => by simp at h
  | b :: l, 0, a, h => by
    simp at h; subst h
    simp [lins, Lin.cells]
  | b :: l, p + 1, a, h => by
    have := lins_setA v l p a (by simpa using h)
    unfold lins at this ⊢
    rw [List.set_cons_succ, List.flatMap_cons, List.flatMap_cons, ← this, show (p + 1) * 3 + 1 = (Lin.cells b).length + (p * 3 + 1) by simp [Lin.cells]; omega, List.set_append_right _ _ (by omega)]
    simp
theorem jat_set {w : World} {q g o n c : Nat} {j : Jrn} {A : Option Addr} {v : Value} (h : JAt w q j A n c) (hq : q ≠ g) : JAt (w.setCell ⟨g, o, none⟩ v) q j A n c := (Below.heap_setCell _ _ _ _ hq).trans h
theorem row_set {W w : World} {j : Jrn} {n g c q o : Nat} {v : Value} (h : Row W w j n g c) (hq : q ≠ g) : Row W (w.setCell ⟨q, o, none⟩ v) j n g c := by
  refine own_kept h fun k _ hk => Below.heap_setCell _ _ _ _ ?_
  have e : g = k := by simpa [Value.ownBlock] using hk
  show k ≠ q
  omega
theorem row_put {W w : World} {j : Jrn} {n g c k : Nat} {x : Lin} (v : Int) (h : Row W w j n g c) (hx : j.lines[k]? = some x) : Row W (w.setCell ⟨g, k * 3 + 1, none⟩ (.int .i64 v)) (amtJ j k x v) n g c := by
  have := own_set1 (k := k * 3 + 1) h (.int .i64 v)
  rw [lins_setA v _ _ _ hx] at this
  exact this

noncomputable def eoR5 : Code := subCode [1, 1, 1, 1, 0] (Tryd.f4.body.getD .skip)
noncomputable def eoR6 : Code := subCode [1, 1, 1, 1, 1, 0] (Tryd.f4.body.getD .skip)
noncomputable def eoR7 : Code := subCode [1, 1, 1, 1, 1, 1, 0] (Tryd.f4.body.getD .skip)
noncomputable def eoR8 : Code := subCode [1, 1, 1, 1, 1, 1, 1, 0] (Tryd.f4.body.getD .skip)
noncomputable def eoR9 : Code := subCode [1, 1, 1, 1, 1, 1, 1, 1] (Tryd.f4.body.getD .skip)
noncomputable def eoRest : Code := subCode [1, 1, 1, 1] (Tryd.f4.body.getD .skip)

set_option maxRecDepth 100000 in
set_option maxHeartbeats 4000000 in
theorem eoRest_any (s0 s1 s4 s5 s6 s11 s12 s13 s14 s15 s16 s17 s18 s19 s20 s21 s22 s23 s24 s25 s26 s27 s28 s29 s30 s31 s32 s33 s34 s35 s36 s37 s38 s39 s40 s41 s42 s43 s44 s45 s46 s47 s48 s49 s50 s51 s52 s53 s54 s55 s56 s57 s58 s59 s60 s61 s62 s63 s64 s65 s66 s67 s68 s69 s70 s71 s72 s73 s74 s75 s76 s77 s78 s79 s80 s81 s82 s83 s84 s85 s86 s87 s88 s89 s90 s91 s92 s93 s94 s95 s96 s97 s98 s99 s100 : Value) (Q0 : Exit → Act → World → Prop) (j : Jrn) (x : Lin) (A : Option Addr) (n c jb B k b1 b2 b3 g1 g2 g3 c1 c2 c3 : Nat) (how : Int) (W w : World) (hx : j.lines[k]? = some x) (hk : k < n) (hn : n ≤ 1000) (ha : -1000000000000000 ≤ x.amt ∧ x.amt ≤ 1000000000000000)
    (J1 : JAt w b1 j (some ⟨g1, 0, none⟩) n c1) (J2 : JAt w b2 j (some ⟨g2, 0, none⟩) n c2) (J3 : JAt w b3 j (some ⟨g3, 0, none⟩) n c3) (R1 : Row W w j n g1 c1) (R2 : Row W w j n g2 c2) (R3 : Row W w j n g3 c3) (hne : g1 < g2 ∧ g2 < g3 ∧ b1 ≠ b2 ∧ b1 ≠ b3 ∧ b2 ≠ b3 ∧ W.heap.size ≤ b1 ∧ W.heap.size ≤ b2 ∧ W.heap.size ≤ b3)
    (hQ : ∀ (u45 u46 u47 u48 u49 u50 u51 u52 u53 u54 u55 u56 u57 u58 u59 u60 u61 u62 u63 u64 u65 u66 u67 : Value) (v : Int) (w' : World), 1000000000000000 < v → JAt w' b1 (amtJ j k x (x.amt + 1)) (some ⟨g1, 0, none⟩) n c1 → JAt w' b2 (amtJ j k x v) (some ⟨g2, 0, none⟩) n c2 → JAt w' b3 ⟨j.id, 0, j.per, j.ref, (amtJ j k x (-9223372036854775808)).lines, j.void⟩ (some ⟨g3, 0, none⟩) n c3 →
      Rd w' w'.heap.size 3 (some ⟨g1, 0, none⟩) n (lins (amtJ j k x (x.amt + 1)).lines) → Rd w' w'.heap.size 3 (some ⟨g2, 0, none⟩) n (lins (amtJ j k x v).lines) → Rd w' w'.heap.size 3 (some ⟨g3, 0, none⟩) n (lins (amtJ j k x (-9223372036854775808)).lines) → Below W.heap.size w w' →
      Code.wp Tryd.prog eoR9 Q0 ⟨#[s0, s1, .int .i64 how, .pointer (some ⟨jb, 0, none⟩), s4, s5, s6, .int .i64 (k : Int), .pointer (some ⟨b1, 0, none⟩), .pointer (some ⟨b2, 0, none⟩), .pointer (some ⟨b3, 0, none⟩), s11, s12, s13, s14, s15, s16, s17, s18, s19, s20, s21, s22, s23, s24, s25, s26, s27, s28, s29, s30, s31, s32, s33, s34, s35, s36, s37, s38, s39, s40, s41, s42, s43, s44, u45, u46, u47, u48, u49, u50, u51, u52, u53, u54, u55, u56, u57, u58, u59, u60, u61, u62, u63, u64, u65, u66, u67, s68, s69, s70, s71, s72, s73, s74, s75, s76, s77, s78, s79, s80, s81, s82, s83, s84, s85, s86, s87, s88, s89, s90, s91, s92, s93, s94, s95, s96, s97, s98, s99, s100], []⟩ w') :
    Code.wp Tryd.prog eoRest Q0 ⟨#[s0, s1, .int .i64 how, .pointer (some ⟨jb, 0, none⟩), s4, s5, s6, .int .i64 (k : Int), .pointer (some ⟨b1, 0, none⟩), .pointer (some ⟨b2, 0, none⟩), .pointer (some ⟨b3, 0, none⟩), s11, s12, s13, s14, s15, s16, s17, s18, s19, s20, s21, s22, s23, s24, s25, s26, s27, s28, s29, s30, s31, s32, s33, s34, s35, s36, s37, s38, s39, s40, s41, s42, s43, s44, s45, s46, s47, s48, s49, s50, s51, s52, s53, s54, s55, s56, s57, s58, s59, s60, s61, s62, s63, s64, s65, s66, s67, s68, s69, s70, s71, s72, s73, s74, s75, s76, s77, s78, s79, s80, s81, s82, s83, s84, s85, s86, s87, s88, s89, s90, s91, s92, s93, s94, s95, s96, s97, s98, s99, s100], []⟩ w := by
  have HQ := Lib.hid hQ
  clear hQ
  obtain ⟨l12, l23, n12, n13, n23, q1, q2, q3⟩ := hne
  have hkI : (k : Int) < (n : Int) := by omega
  show Code.wp Tryd.prog (Code.seq eoR5 (Code.seq eoR6 (Code.seq eoR7 (Code.seq eoR8 eoR9)))) _ _ _
  -- x
  have v4 := (six_cells J1).2.2.2.2.1
  have p1 := own_cell R1 (lins_at _ _ _ hx).2.1
  have f1 := own_warm R1 (k * 3 + 1)
  have hw1 : IntKind.i64.wrap (x.amt + 1) = x.amt + 1 := by rw [IntKind.wrap_i64]; omega
  have R1n := row_put (x.amt + 1) R1 hx
  have J1n : JAt (w.setCell ⟨g1, k * 3 + 1, none⟩ (.int .i64 (x.amt + 1))) b1 j (some ⟨g1, 0, none⟩) n c1 := jat_set J1 (R1.ne J1)
  have J2n : JAt (w.setCell ⟨g1, k * 3 + 1, none⟩ (.int .i64 (x.amt + 1))) b2 j (some ⟨g2, 0, none⟩) n c2 := jat_set J2 (R1.ne J2)
  have J3n : JAt (w.setCell ⟨g1, k * 3 + 1, none⟩ (.int .i64 (x.amt + 1))) b3 j (some ⟨g3, 0, none⟩) n c3 := jat_set J3 (R1.ne J3)
  have R2n : Row W (w.setCell ⟨g1, k * 3 + 1, none⟩ (.int .i64 (x.amt + 1))) j n g2 c2 := row_set R2 (by omega)
  have R3n : Row W (w.setCell ⟨g1, k * 3 + 1, none⟩ (.int .i64 (x.amt + 1))) j n g3 c3 := row_set R3 (by omega)
  have hb1 : Below W.heap.size w (w.setCell ⟨g1, k * 3 + 1, none⟩ (.int .i64 (x.amt + 1))) := (Below.refl _ _).setCell (p := ⟨g1, k * 3 + 1, none⟩) (own_ge R1 g1 rfl) _
  refine wp_seq ?_
  conv => arg 2; whnf
  conv => arg 4; dsimp only
  go_wp2_with fail
  clear v4 p1 f1 hw1 R1 R2 R3 J1 J2 J3
  generalize (w.setCell ⟨g1, k * 3 + 1, none⟩ (.int .i64 (x.amt + 1))) = w6 at *
  -- y
  obtain ⟨m1, m2⟩ := low_bits how
  have v4 := (six_cells J2n).2.2.2.2.1
  have p1 := own_cell R2n (lins_at _ _ _ hx).2.1
  have f1 := own_warm R2n (k * 3 + 1)
  have hw1 : IntKind.i64.wrap (1000000000000001 + bits .and .i64 how 1023) = 1000000000000001 + bits .and .i64 how 1023 := by rw [IntKind.wrap_i64]; omega
  obtain ⟨v, hv⟩ : ∃ v, 1000000000000001 + bits .and .i64 how 1023 = v := ⟨_, rfl⟩
  have hvb : 1000000000000000 < v := by omega
  rw [hv] at hw1
  have R2 := row_put v R2n hx
  have R1 : Row W (w6.setCell ⟨g2, k * 3 + 1, none⟩ (.int .i64 v)) (amtJ j k x (x.amt + 1)) n g1 c1 := row_set R1n (by omega)
  have R3 : Row W (w6.setCell ⟨g2, k * 3 + 1, none⟩ (.int .i64 v)) j n g3 c3 := row_set R3n (by omega)
  have J1 : JAt (w6.setCell ⟨g2, k * 3 + 1, none⟩ (.int .i64 v)) b1 j (some ⟨g1, 0, none⟩) n c1 := jat_set J1n (R2n.ne J1n)
  have J2 : JAt (w6.setCell ⟨g2, k * 3 + 1, none⟩ (.int .i64 v)) b2 j (some ⟨g2, 0, none⟩) n c2 := jat_set J2n (R2n.ne J2n)
  have J3 : JAt (w6.setCell ⟨g2, k * 3 + 1, none⟩ (.int .i64 v)) b3 j (some ⟨g3, 0, none⟩) n c3 := jat_set J3n (R2n.ne J3n)
  have hb2 : Below W.heap.size w (w6.setCell ⟨g2, k * 3 + 1, none⟩ (.int .i64 v)) := hb1.setCell (p := ⟨g2, k * 3 + 1, none⟩) (own_ge R2n g2 rfl) _
  conv => arg 2; whnf
  conv => arg 4; dsimp only
  go_wp2_with fail
  clear v4 p1 f1 hw1 R1n R2n R3n J1n J2n J3n hb1 m1 m2 hv
  generalize (w6.setCell ⟨g2, k * 3 + 1, none⟩ (.int .i64 v)) = w7 at *
  -- z
  have v4 := (six_cells J3).2.2.2.2.1
  have p1 := own_cell R3 (lins_at _ _ _ hx).2.1
  have f1 := own_warm R3 (k * 3 + 1)
  have R3n := row_put (-9223372036854775808) R3 hx
  have R1n : Row W (w7.setCell ⟨g3, k * 3 + 1, none⟩ (.int .i64 (-9223372036854775808))) (amtJ j k x (x.amt + 1)) n g1 c1 := row_set R1 (by omega)
  have R2n : Row W (w7.setCell ⟨g3, k * 3 + 1, none⟩ (.int .i64 (-9223372036854775808))) (amtJ j k x v) n g2 c2 := row_set R2 (by omega)
  have J1n : JAt (w7.setCell ⟨g3, k * 3 + 1, none⟩ (.int .i64 (-9223372036854775808))) b1 j (some ⟨g1, 0, none⟩) n c1 := jat_set J1 (R3.ne J1)
  have J2n : JAt (w7.setCell ⟨g3, k * 3 + 1, none⟩ (.int .i64 (-9223372036854775808))) b2 j (some ⟨g2, 0, none⟩) n c2 := jat_set J2 (R3.ne J2)
  have J3n : JAt (w7.setCell ⟨g3, k * 3 + 1, none⟩ (.int .i64 (-9223372036854775808))) b3 j (some ⟨g3, 0, none⟩) n c3 := jat_set J3 (R3.ne J3)
  have hb1 : Below W.heap.size w (w7.setCell ⟨g3, k * 3 + 1, none⟩ (.int .i64 (-9223372036854775808))) := hb2.setCell (p := ⟨g3, k * 3 + 1, none⟩) (own_ge R3 g3 rfl) _
  conv => arg 2; whnf
  conv => arg 4; dsimp only
  go_wp2_with fail
  clear v4 p1 f1 R1 R2 R3 J1 J2 J3 hb2
  generalize (w7.setCell ⟨g3, k * 3 + 1, none⟩ (.int .i64 (-9223372036854775808))) = w8 at *
  -- its entity
  have v1 := (six_cells J3n).2.1
  have f1 := warm_of J3n 1
  have J3 : JAt (w8.setCell ⟨b3, 1, none⟩ (.int .i64 0)) b3 ⟨j.id, 0, j.per, j.ref, (amtJ j k x (-9223372036854775808)).lines, j.void⟩ (some ⟨g3, 0, none⟩) n c3 := set_here J3n
  have J1 : JAt (w8.setCell ⟨b3, 1, none⟩ (.int .i64 0)) b1 (amtJ j k x (x.amt + 1)) (some ⟨g1, 0, none⟩) n c1 := jat_set (j := amtJ j k x (x.amt + 1)) J1n (by omega)
  have J2 : JAt (w8.setCell ⟨b3, 1, none⟩ (.int .i64 0)) b2 (amtJ j k x v) (some ⟨g2, 0, none⟩) n c2 := jat_set (j := amtJ j k x v) J2n (by omega)
  have R1 : Row W (w8.setCell ⟨b3, 1, none⟩ (.int .i64 0)) (amtJ j k x (x.amt + 1)) n g1 c1 := row_set R1n (R1n.ne J3n)
  have R2 : Row W (w8.setCell ⟨b3, 1, none⟩ (.int .i64 0)) (amtJ j k x v) n g2 c2 := row_set R2n (R2n.ne J3n)
  have R3 : Row W (w8.setCell ⟨b3, 1, none⟩ (.int .i64 0)) (amtJ j k x (-9223372036854775808)) n g3 c3 := row_set R3n (R3n.ne J3n)
  have hb2 : Below W.heap.size w (w8.setCell ⟨b3, 1, none⟩ (.int .i64 0)) := hb1.setCell (p := ⟨b3, 1, none⟩) q3 _
  conv => arg 2; whnf
  conv => arg 4; dsimp only
  go_wp2_with fail
  exact HQ.out _ _ _ _ _ _ _ _ _ _ _ _ _ _ _ _ _ _ _ _ _ _ _ v _ hvb J1 J2 J3 (rd_of_own R1) (rd_of_own R2) (rd_of_own R3) hb2
end Go.Proofs.YtakjiehncoankaaDoor
