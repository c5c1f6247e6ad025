/-
  Contract of the reference's Text, of a journal that may be.
-/
import Derived.Test.YtbdhhfaelnnocaaGreatDoorRefDigits
import Derived.Test.YtbdhhfaelnnocaaGreatDoorParseMath
import Derived.Test.YtbdhhfaelnnocaaGreatDoorEntryParse
import Derived.Test.YtbdhhfaelnnocaaGreatDoorCodeSub
namespace Go.Proofs.YtbdhhfaelnnocaaGreatDoor
open Go.RowKit Go.Sort

theorem join_snoc (sep x : List UInt8) : ∀ l : List (List UInt8), l ≠ [] → Lib.join (l ++ [x]) sep = Lib.join l sep ++ sep ++ x
  | [], h => absurd rfl h
  | a :: l, _ => by
    rw [List.cons_append, Lib.join_cons, Lib.join_cons]
    simp [Lib.joinTail]
def textTo (j : Jrn) (k : Nat) : List UInt8 := Lib.join ((partsJ j).take (k + 5)) [32]
theorem textTo_zero (j : Jrn) : textTo j 0 = Lib.itoa j.id ++ [32] ++ Lib.itoa j.ent ++ [32] ++ textB j.per ++ [32] ++ refT j.ref.data.toList ++ [32] ++ stateT j.void := by
  unfold textTo
  rw [parts_five]
  rw [Lib.join_cons]
  simp [Lib.joinTail]
theorem textTo_step {j : Jrn} {k : Nat} {x : Lin} (hx : j.lines[k]? = some x) : textTo j (k + 1) = textTo j k ++ [32] ++ lineT x := by
  unfold textTo
  rw [parts_take j hx, join_snoc _ _ _ (by
    intro h
    have := congrArg List.length h
    rw [List.length_take, partsJ_len] at this
    simp at this)]
theorem textTo_end {j : Jrn} : textTo j j.lines.length = textJ j := by
  unfold textTo textJ
  rw [List.take_of_length_le (by rw [partsJ_len]; exact Nat.le_refl _)]
theorem textTo_le {j : Jrn} (hE : checkE j = 0) (k : Nat) : (textTo j k).length ≤ 900 := by
  have h1 := join_le (m := 65) [32] ((partsJ j).take (k + 5)) fun x hx => parts_le (checkE_64 hE) (checkE_ref (checkE_ok hE).1) x (List.mem_of_mem_take hx)
  have h2 := (checkE_len hE).2
  have h3 : ((partsJ j).take (k + 5)).length ≤ 13 := by rw [List.length_take, partsJ_len]; omega
  unfold textTo
  simp at h1
  have h4 := Nat.mul_le_mul_right 66 h3
  simp at h4
  omega

noncomputable def txR6 : Code := subCode [1, 1, 1, 1, 0] (Tryz.f10.body.getD .skip)
noncomputable def txBody : Code := subCode [1, 1, 1, 1, 1, 0, 1, 0, 0, 1, 0, 0] (Tryz.f10.body.getD .skip)
noncomputable def txR10 : Code := subCode [1, 1, 1, 1, 1, 0, 1, 0, 0, 1, 0, 0, 0] (Tryz.f10.body.getD .skip)
noncomputable def txR11 : Code := subCode [1, 1, 1, 1, 1, 0, 1, 0, 0, 1, 0, 0, 1] (Tryz.f10.body.getD .skip)

set_option maxRecDepth 100000 in
set_option maxHeartbeats 4000000 in
theorem tx6_any (s0 s3 s4 s7 s8 s9 s10 s11 s12 s13 s14 s15 s16 s17 s18 s19 s20 s21 s22 s23 s24 s25 s26 s27 s28 s29 s30 s31 s32 s33 s34 s35 s36 s37 s38 s39 s40 s41 s42 s43 s44 s45 s46 s47 s48 s49 s50 s51 s52 s53 s54 s55 s56 s57 s58 s59 s60 s61 s62 s63 s64 s65 s66 s67 s68 : Value) (Q0 : Exit → Act → World → Prop) (a4 a5 : ByteArray) (j : Jrn) (A : Option Addr) (n c jb : Nat) (W : World) (hJ : JAt W jb j A n c) (h64 : j.ok64) (h4 : a4.size ≤ 60) (h5 : a5.size ≤ 60)
    (hQ : ∀ (u16 u17 u18 u19 u20 u21 u22 u23 u24 u25 u26 u27 u28 u29 u30 u31 u32 u33 u34 u35 u36 u37 u38 : Value) (w' : World), Below W.heap.size W w' → Q0 .normal ⟨#[s0, .string ⟨#[32]⟩, .pointer (some ⟨jb, 0, none⟩), s3, s4, .string a4, .string a5, .string (bs (Lib.itoa j.id) ++ ⟨#[32]⟩ ++ bs (Lib.itoa j.ent) ++ ⟨#[32]⟩ ++ textS j.per ++ ⟨#[32]⟩ ++ a4 ++ ⟨#[32]⟩ ++ a5), s8, s9, s10, s11, s12, s13, s14, s15, u16, u17, u18, u19, u20, u21, u22, u23, u24, u25, u26, u27, u28, u29, u30, u31, u32, u33, u34, u35, u36, u37, u38, s39, s40, s41, s42, s43, s44, s45, s46, s47, s48, s49, s50, s51, s52, s53, s54, s55, s56, s57, s58, s59, s60, s61, s62, s63, s64, s65, s66, s67, s68], []⟩ w') :
    Code.wp Tryz.prog txR6 Q0 ⟨#[s0, .string ⟨#[32]⟩, .pointer (some ⟨jb, 0, none⟩), s3, s4, .string a4, .string a5, s7, s8, s9, s10, s11, s12, s13, s14, s15, s16, s17, s18, s19, s20, s21, s22, s23, s24, s25, s26, s27, s28, s29, s30, s31, s32, s33, s34, s35, s36, s37, s38, s39, s40, s41, s42, s43, s44, s45, s46, s47, s48, s49, s50, s51, s52, s53, s54, s55, s56, s57, s58, s59, s60, s61, s62, s63, s64, s65, s66, s67, s68], []⟩ W := by
  have HQ := Lib.hid hQ
  obtain ⟨z0, z1, z2, _, _, _⟩ := six_cells hJ
  have c0 := cell_regrown z0
  have c1 := cell_regrown z1
  have c2 := cell_regrown z2
  have q1 := Lib.hid (regrown_calls (w := W) fun w1 _ => refDigits_any j.id w1 h64.1)
  have q2 := Lib.hid (regrown_calls (w := W) fun w1 _ => refDigits_any j.ent w1 h64.2.1)
  have q3 := Lib.hid (regrown_calls (w := W) fun w1 _ => refMonth_any j.per w1)
  have s1 : (bs (Lib.itoa j.id)).size ≤ 21 := by rw [bs_size]; exact itoa_le h64.1.1 h64.1.2
  have s2 : (bs (Lib.itoa j.ent)).size ≤ 21 := by rw [bs_size]; exact itoa_le h64.2.1.1 h64.2.1.2
  have s3 : (textS j.per).size ≤ 7 := by
    have := textB_le j.per
    rw [← textS_list, ByteArray.toList_eq, Array.length_toList] at this
    exact this
  clear hQ z0 z1 z2 hJ h64
  generalize bs (Lib.itoa j.id) = a1 at *
  generalize bs (Lib.itoa j.ent) = a2 at *
  generalize textS j.per = a3 at *
  have n1 : ¬ 9223372036854775807 < a1.size + 1 := by omega
  have n2 : ¬ 9223372036854775807 < a1.size + 1 + a2.size := by omega
  have n3 : ¬ 9223372036854775807 < a1.size + 1 + a2.size + 1 := by omega
  have n4 : ¬ 9223372036854775807 < a1.size + 1 + a2.size + 1 + a3.size := by omega
  have n5 : ¬ 9223372036854775807 < a1.size + 1 + a2.size + 1 + a3.size + 1 := by omega
  have n6 : ¬ 9223372036854775807 < a1.size + 1 + a2.size + 1 + a3.size + 1 + a4.size := by omega
  have n7 : ¬ 9223372036854775807 < a1.size + 1 + a2.size + 1 + a3.size + 1 + a4.size + 1 := by omega
  have n8 : ¬ 9223372036854775807 < a1.size + 1 + a2.size + 1 + a3.size + 1 + a4.size + 1 + a5.size := by omega
  clear s1 s2 s3
  conv => arg 2; whnf
  conv => arg 4; dsimp only
  refine wp_region_quiet_below (by kernel_rfl) (by kernel_rfl) ?_
  repeat (quiet_step (fail))
  quiet_step (exact q1.out _ _)
  repeat (quiet_step (fail))
  quiet_step (exact q2.out _ _)
  repeat (quiet_step (fail))
  quiet_step (exact q3.out _ _)
  repeat (quiet_step (fail))
  refine wpQuiet_nil ?_
  intro _ hw'
  obtain ⟨⟨dq, osq⟩, hw''⟩ := hw'
  subst hw''
  exact HQ.out _ _ _ _ _ _ _ _ _ _ _ _ _ _ _ _ _ _ _ _ _ _ _ _ (below_regrown W dq osq)

set_option maxRecDepth 100000 in
set_option maxHeartbeats 4000000 in
theorem txLine_any (s0 s3 s4 s5 s6 s9 s10 s11 s12 s13 s14 s15 s16 s17 s18 s19 s20 s21 s22 s23 s24 s25 s26 s27 s28 s29 s30 s31 s32 s33 s34 s35 s36 s37 s38 s39 s40 s41 s42 s43 s44 s45 s46 s47 s48 s49 s50 s51 s52 s53 s54 s55 s56 s57 s58 s59 s60 s61 s62 s63 s64 s65 s66 s67 s68 : Value) (Q0 : Exit → Act → World → Prop) (t : ByteArray) (j : Jrn) (x : Lin) (A : Option Addr) (n c jb k B : Nat) (W : World) (hJ : JAt W jb j A n c) (hR : Rd W B 3 A n (lins j.lines)) (hx : j.lines[k]? = some x) (hk : k < n) (h64 : x.ok64) (ht : t.size ≤ 1000)
    (hQ : ∀ (u9 u46 u47 u48 u49 u50 u51 u52 u53 u54 u55 u56 u57 u58 u59 u60 u61 u62 u63 u64 u65 u66 u67 : Value) (w' : World), Below W.heap.size W w' → Q0 .normal ⟨#[s0, .string ⟨#[32]⟩, .pointer (some ⟨jb, 0, none⟩), s3, s4, s5, s6, .string (t ++ ⟨#[32]⟩ ++ bs (Lib.itoa x.acct) ++ ⟨#[58]⟩ ++ bs (Lib.itoa x.amt) ++ ⟨#[58]⟩ ++ bs (Lib.itoa x.part)), .int .i64 (k : Nat), u9, s10, s11, s12, s13, s14, s15, s16, s17, s18, s19, s20, s21, s22, s23, s24, s25, s26, s27, s28, s29, s30, s31, s32, s33, s34, s35, s36, s37, s38, s39, s40, s41, s42, s43, s44, s45, u46, u47, u48, u49, u50, u51, u52, u53, u54, u55, u56, u57, u58, u59, u60, u61, u62, u63, u64, u65, u66, u67, s68], []⟩ w') :
    Code.wp Tryz.prog txBody Q0 ⟨#[s0, .string ⟨#[32]⟩, .pointer (some ⟨jb, 0, none⟩), s3, s4, s5, s6, .string t, .int .i64 (k : Nat), s9, s10, s11, s12, s13, s14, s15, s16, s17, s18, s19, s20, s21, s22, s23, s24, s25, s26, s27, s28, s29, s30, s31, s32, s33, s34, s35, s36, s37, s38, s39, s40, s41, s42, s43, s44, s45, s46, s47, s48, s49, s50, s51, s52, s53, s54, s55, s56, s57, s58, s59, s60, s61, s62, s63, s64, s65, s66, s67, s68], []⟩ W := by
  have HQ := Lib.hid hQ
  have z4 := (six_cells hJ).2.2.2.2.1
  obtain ⟨ad, y, rfl, hb1, hy, p1, p2, p3⟩ := hR.lin hk
  rw [hx] at hy
  injection hy with hy
  subst hy
  have p2' := cell_behind p2 (by omega)
  have p3' := cell_behind p3 (by omega)
  have hkI : (k : Int) < (n : Int) := by omega
  obtain ⟨x1, x2, x3⟩ := x
  obtain ⟨o1, o2, o3⟩ := h64
  dsimp only at *
  obtain ⟨V, hV⟩ : ∃ V, W.alloc (.cells #[.int .i64 x1, .int .i64 x2, .int .i64 x3] 34) = V := ⟨_, rfl⟩
  have HB : Hid (Below W.heap.size W V) := by rw [← hV]; exact (Below.refl _ _).alloc (Nat.le_refl _) _
  have c0 : V.cell? ⟨W.heap.size, 0, none⟩ = some (.int .i64 x1) := by rw [← hV]; exact box_cell 0
  have c1 : V.cell? ⟨W.heap.size, 1, none⟩ = some (.int .i64 x2) := by rw [← hV]; exact box_cell 1
  have c2 : V.cell? ⟨W.heap.size, 2, none⟩ = some (.int .i64 x3) := by rw [← hV]; exact box_cell 2
  have HV := Lib.hid hV
  have k0 := cell_regrown c0
  have k1 := cell_regrown c1
  have k2 := cell_regrown c2
  have q1 := Lib.hid (regrown_calls (w := V) fun w1 _ => refDigits_any x1 w1 o1)
  have q2 := Lib.hid (regrown_calls (w := V) fun w1 _ => refDigits_any x2 w1 o2)
  have q3 := Lib.hid (regrown_calls (w := V) fun w1 _ => refDigits_any x3 w1 o3)
  have s1 : (bs (Lib.itoa x1)).size ≤ 21 := by rw [bs_size]; exact itoa_le o1.1 o1.2
  have s2 : (bs (Lib.itoa x2)).size ≤ 21 := by rw [bs_size]; exact itoa_le o2.1 o2.2
  have s3 : (bs (Lib.itoa x3)).size ≤ 21 := by rw [bs_size]; exact itoa_le o3.1 o3.2
  clear hQ hJ hR hx p2 p3 hb1 c0 c1 c2 hV o1 o2 o3
  generalize bs (Lib.itoa x1) = a1 at *
  generalize bs (Lib.itoa x2) = a2 at *
  generalize bs (Lib.itoa x3) = a3 at *
  have n0 : ¬ 9223372036854775807 < t.size + 1 := by omega
  have n1 : ¬ 9223372036854775807 < t.size + 1 + a1.size := by omega
  have n2 : ¬ 9223372036854775807 < t.size + 1 + a1.size + 1 := by omega
  have n3 : ¬ 9223372036854775807 < t.size + 1 + a1.size + 1 + a2.size := by omega
  have n4 : ¬ 9223372036854775807 < t.size + 1 + a1.size + 1 + a2.size + 1 := by omega
  have n5 : ¬ 9223372036854775807 < t.size + 1 + a1.size + 1 + a2.size + 1 + a3.size := by omega
  clear s1 s2 s3
  show Code.wp Tryz.prog (Code.seq txR10 txR11) _ _ _
  refine wp_seq ?_
  conv => arg 2; whnf
  conv => arg 4; dsimp only
  go_wp2_with fail
  rw [HV.out]
  conv => arg 2; whnf
  conv => arg 4; dsimp only
  refine wp_region_quiet_below (by kernel_rfl) (by kernel_rfl) ?_
  repeat (quiet_step (fail))
  quiet_step (exact q1.out _ _)
  repeat (quiet_step (fail))
  quiet_step (exact q2.out _ _)
  repeat (quiet_step (fail))
  quiet_step (exact q3.out _ _)
  repeat (quiet_step (fail))
  refine wpQuiet_nil ?_
  intro _ hw'
  obtain ⟨⟨dq, osq⟩, hw''⟩ := hw'
  subst hw''
  have hfin := HB.out.trans ((below_regrown V dq osq).mono HB.out.size)
  exact HQ.out _ _ _ _ _ _ _ _ _ _ _ _ _ _ _ _ _ _ _ _ _ _ _ _ hfin

noncomputable def txTest : Code := subCode [1, 1, 1, 1, 1, 0, 1, 0, 0, 0] (Tryz.f10.body.getD .skip)
noncomputable def txR9 : Code := subCode [1, 1, 1, 1, 1, 0, 1, 0, 0, 1, 1] (Tryz.f10.body.getD .skip)

set_option maxRecDepth 100000 in
set_option maxHeartbeats 4000000 in
theorem txLoop_any (s0 s3 s4 s5 s6 s9 s10 s11 s12 s13 s14 s15 s16 s17 s18 s19 s20 s21 s22 s23 s24 s25 s26 s27 s28 s29 s30 s31 s32 s33 s34 s35 s36 s37 s38 s39 s40 s41 s42 s43 s44 s45 s46 s47 s48 s49 s50 s51 s52 s53 s54 s55 s56 s57 s58 s59 s60 s61 s62 s63 s64 s65 s66 s67 s68 : Value) (Q0 : Exit → Act → World → Prop) (j : Jrn) (A : Option Addr) (n c jb B : Nat) (W : World) (hJ : JAt W jb j A n c) (hR : Rd W B 3 A n (lins j.lines)) (hB : B ≤ W.heap.size) (hE : checkE j = 0)
    (hQ : ∀ (u8 u9 u39 u40 u41 u42 u43 u44 u45 u46 u47 u48 u49 u50 u51 u52 u53 u54 u55 u56 u57 u58 u59 u60 u61 u62 u63 u64 u65 u66 u67 : Value) (w' : World), Below W.heap.size W w' → Q0 (.exit 0) ⟨#[s0, .string ⟨#[32]⟩, .pointer (some ⟨jb, 0, none⟩), s3, s4, s5, s6, .string (bs (textJ j)), u8, u9, s10, s11, s12, s13, s14, s15, s16, s17, s18, s19, s20, s21, s22, s23, s24, s25, s26, s27, s28, s29, s30, s31, s32, s33, s34, s35, s36, s37, s38, u39, u40, u41, u42, u43, u44, u45, u46, u47, u48, u49, u50, u51, u52, u53, u54, u55, u56, u57, u58, u59, u60, u61, u62, u63, u64, u65, u66, u67, s68], []⟩ w') :
    Code.wp Tryz.prog (Code.loop (Code.seq txTest (Code.seq (Code.block 1 txBody) txR9))) Q0 ⟨#[s0, .string ⟨#[32]⟩, .pointer (some ⟨jb, 0, none⟩), s3, s4, s5, s6, .string (bs (textTo j 0)), .int .i64 0, s9, s10, s11, s12, s13, s14, s15, s16, s17, s18, s19, s20, s21, s22, s23, s24, s25, s26, s27, s28, s29, s30, s31, s32, s33, s34, s35, s36, s37, s38, s39, s40, s41, s42, s43, s44, s45, s46, s47, s48, s49, s50, s51, s52, s53, s54, s55, s56, s57, s58, s59, s60, s61, s62, s63, s64, s65, s66, s67, s68], []⟩ W := by
  have HQ := Lib.hid hQ
  have hl : j.lines.length = n := hR.lins_len
  have hn8 := (checkE_len hE).2
  clear hQ
  refine wp_loop (fun a w' => ∃ (u9 u39 u40 u41 u42 u43 u44 u45 u46 u47 u48 u49 u50 u51 u52 u53 u54 u55 u56 u57 u58 u59 u60 u61 u62 u63 u64 u65 u66 u67 : Value) (m : Nat), (m ≤ n ∧ Below W.heap.size W w') ∧ a = ⟨#[s0, .string ⟨#[32]⟩, .pointer (some ⟨jb, 0, none⟩), s3, s4, s5, s6, .string (bs (textTo j m)), .int .i64 (m : Int), u9, s10, s11, s12, s13, s14, s15, s16, s17, s18, s19, s20, s21, s22, s23, s24, s25, s26, s27, s28, s29, s30, s31, s32, s33, s34, s35, s36, s37, s38, u39, u40, u41, u42, u43, u44, u45, u46, u47, u48, u49, u50, u51, u52, u53, u54, u55, u56, u57, u58, u59, u60, u61, u62, u63, u64, u65, u66, u67, s68], []⟩) (fun a _ => n - (intOf (a.tmps.getD 8 undef)).toNat) ⟨_, _, _, _, _, _, _, _, _, _, _, _, _, _, _, _, _, _, _, _, _, _, _, _, _, _, _, _, _, _, 0, ⟨Nat.zero_le _, Below.refl _ _⟩, rfl⟩ ?_
  intro a w' hI
  obtain ⟨u9, hI⟩ := hI
  obtain ⟨u39, hI⟩ := hI
  obtain ⟨u40, hI⟩ := hI
  obtain ⟨u41, hI⟩ := hI
  obtain ⟨u42, hI⟩ := hI
  obtain ⟨u43, hI⟩ := hI
  obtain ⟨u44, hI⟩ := hI
  obtain ⟨u45, hI⟩ := hI
  obtain ⟨u46, hI⟩ := hI
  obtain ⟨u47, hI⟩ := hI
  obtain ⟨u48, hI⟩ := hI
  obtain ⟨u49, hI⟩ := hI
  obtain ⟨u50, hI⟩ := hI
  obtain ⟨u51, hI⟩ := hI
  obtain ⟨u52, hI⟩ := hI
  obtain ⟨u53, hI⟩ := hI
  obtain ⟨u54, hI⟩ := hI
  obtain ⟨u55, hI⟩ := hI
  obtain ⟨u56, hI⟩ := hI
  obtain ⟨u57, hI⟩ := hI
  obtain ⟨u58, hI⟩ := hI
  obtain ⟨u59, hI⟩ := hI
  obtain ⟨u60, hI⟩ := hI
  obtain ⟨u61, hI⟩ := hI
  obtain ⟨u62, hI⟩ := hI
  obtain ⟨u63, hI⟩ := hI
  obtain ⟨u64, hI⟩ := hI
  obtain ⟨u65, hI⟩ := hI
  obtain ⟨u66, hI⟩ := hI
  obtain ⟨u67, hI⟩ := hI
  obtain ⟨m, ⟨hm, hb⟩, rfl⟩ := hI
  have hJw : JAt w' jb j A n c := (hb.block jb (lt_of_blk hJ)).trans hJ
  have z4 := (six_cells hJw).2.2.2.2.1
  have HB := Lib.hid hb
  have HJw := Lib.hid hJw
  clear hb hJw
  refine wp_seq ?_
  conv => arg 2; whnf
  conv => arg 4; dsimp only
  by_cases hmn : m < n
  · have hmI : (m : Int) < (n : Int) := by omega
    obtain ⟨x, hx⟩ : ∃ x, j.lines[m]? = some x := ⟨_, List.getElem?_eq_getElem (by omega)⟩
    have HT : Hid (bs (textTo j m) ++ ⟨#[32]⟩ ++ bs (Lib.itoa x.acct) ++ ⟨#[58]⟩ ++ bs (Lib.itoa x.amt) ++ ⟨#[58]⟩ ++ bs (Lib.itoa x.part) = bs (textTo j (m + 1))) := by
      unfold Hid
      rw [textTo_step hx]
      unfold lineT
      show bs (textTo j m) ++ bs [32] ++ bs (Lib.itoa x.acct) ++ bs [58] ++ bs (Lib.itoa x.amt) ++ bs [58] ++ bs (Lib.itoa x.part) = _
      simp only [bs_append, List.append_assoc]
    go_wp2_with fail
    refine txLine_any _ _ _ _ _ _ _ _ _ _ _ _ _ _ _ _ _ _ _ _ _ _ _ _ _ _ _ _ _ _ _ _ _ _ _ _ _ _ _ _ _ _ _ _ _ _ _ _ _ _ _ _ _ _ _ _ _ _ _ _ _ _ _ _ _ _ (bs (textTo j m)) j x A n c jb m B w' HJw.out (hR.below (HB.out.mono hB)) hx hmn ((checkE_64 hE).2.2.2 x (List.mem_of_getElem? hx)) (by rw [bs_size]; have := textTo_le hE m; omega) ?_
    intro u9 u46 u47 u48 u49 u50 u51 u52 u53 u54 u55 u56 u57 u58 u59 u60 u61 u62 u63 u64 u65 u66 u67 w6 hb6
    rw [HT.out]
    have HB6 : Hid (Below W.heap.size W w6) := HB.out.trans (hb6.mono HB.out.size)
    clear hb6
    rename_i K hK
    refine hK _ _ ?_
    conv => arg 2; whnf
    conv => arg 4; dsimp only
    go_wp2
    refine ⟨⟨_, _, _, _, _, _, _, _, _, _, _, _, _, _, _, _, _, _, _, _, _, _, _, _, _, _, _, _, _, _, m + 1, ⟨by omega, HB6.out⟩, rfl⟩, by simp [intOf]; omega⟩
  · obtain rfl : m = n := by omega
    have hmI : ¬ (m : Int) < (m : Int) := by omega
    have he : textTo j m = textJ j := by rw [← hl]; exact textTo_end
    rw [he]
    go_wp2
    exact HQ.out _ _ _ _ _ _ _ _ _ _ _ _ _ _ _ _ _ _ _ _ _ _ _ _ _ _ _ _ _ _ _ _ HB.out

set_option maxRecDepth 100000 in
set_option maxHeartbeats 4000000 in
theorem refTextJ_any (j : Jrn) (A : Option Addr) (n c B : Nat) (w : World) (hR : Rd w B 3 A n (lins j.lines)) (hB : B ≤ w.heap.size) (hE : checkE j = 0) :
    Calls Tryz.prog 10 #[j.val A n c, .string ⟨#[32]⟩] w fun e w' => e = .returned (.string (bs (textJ j))) ∧ Below w.heap.size w w' := by
  obtain ⟨W, hW⟩ : ∃ W, w.alloc (.cells #[.int .i64 j.id, .int .i64 j.ent, .int .i64 j.per, .string j.ref, .slice A n c, .bool j.void] 24) = W := ⟨_, rfl⟩
  have HB : Hid (Below w.heap.size w W) := by rw [← hW]; exact (Below.refl _ _).alloc (Nat.le_refl _) _
  have HJ : Hid (JAt W w.heap.size j A n c) := by rw [← hW]; exact heap_new w _
  have hz := HB.out.size
  have HR := Lib.hid (hR.below (HB.out.mono hB))
  have HE := Lib.hid hE
  have hrs := checkE_ref (checkE_ok hE).1
  obtain ⟨z0, z1, z2, z3, z4, z5⟩ := six_cells HJ.out
  have HW := Lib.hid hW
  have FIN : Hid (∀ (a4 a5 : ByteArray), a4 = bs (refT j.ref.data.toList) → a5 = bs (stateT j.void) → bs (Lib.itoa j.id) ++ ⟨#[32]⟩ ++ bs (Lib.itoa j.ent) ++ ⟨#[32]⟩ ++ textS j.per ++ ⟨#[32]⟩ ++ a4 ++ ⟨#[32]⟩ ++ a5 = bs (textTo j 0)) := by
    rintro a4 a5 rfl rfl
    rw [textTo_zero]
    show bs (Lib.itoa j.id) ++ bs [32] ++ bs (Lib.itoa j.ent) ++ bs [32] ++ bs (textB j.per) ++ bs [32] ++ bs (refT j.ref.data.toList) ++ bs [32] ++ bs (stateT j.void) = _
    simp only [bs_append]
  have h64 := Lib.hid (checkE_64 hE)
  clear hW hR hE
  unfold Jrn.val
  have key : ∀ (a4 a5 : ByteArray), a4 = bs (refT j.ref.data.toList) → a5 = bs (stateT j.void) → a4.size ≤ 60 ∧ a5.size ≤ 60 := by
    rintro a4 a5 rfl rfl
    rw [bs_size, bs_size]
    constructor
    · unfold refT
      split
      · simp
      · rw [Array.length_toList]
        have : j.ref.data.size = j.ref.size := rfl
        omega
    · unfold stateT
      split <;> simp
  cases he : j.ref.toList.isEmpty
  · have e4 : j.ref = bs (refT j.ref.data.toList) := by
      unfold refT
      rw [ByteArray.toList_eq] at he
      rw [if_neg (by intro e; rw [e] at he; cases he), bs_back]
    cases hv : j.void
    · skip
      obtain ⟨m4, m5⟩ := key j.ref ⟨#[108, 105, 118, 101]⟩ e4 (by rw [hv]; rfl)
      have HT := Lib.hid (FIN.out j.ref ⟨#[108, 105, 118, 101]⟩ e4 (by rw [hv]; rfl))
      rw [hv] at HW
      rw [hv] at z5
      clear FIN key e4
      go_enter Tryz.func10, Tryz.ntmps10
      go_wp2_with fail
      rw [HW.out]
      go_wp2_with fail
      refine tx6_any _ _ _ _ _ _ _ _ _ _ _ _ _ _ _ _ _ _ _ _ _ _ _ _ _ _ _ _ _ _ _ _ _ _ _ _ _ _ _ _ _ _ _ _ _ _ _ _ _ _ _ _ _ _ _ _ _ _ _ _ _ _ _ _ _ _ j.ref ⟨#[108, 105, 118, 101]⟩ j A n c w.heap.size W HJ.out h64.out m4 m5 ?_
      intro u16 u17 u18 u19 u20 u21 u22 u23 u24 u25 u26 u27 u28 u29 u30 u31 u32 u33 u34 u35 u36 u37 u38 w6 hb6
      rw [HT.out]
      have HB6 := Lib.hid hb6
      have HJ6 : Hid (JAt w6 w.heap.size j A n c) := (hb6.block _ (lt_of_blk HJ.out)).trans HJ.out
      have HR6 := Lib.hid (HR.out.below (hb6.mono (by omega)))
      have hz6 := hb6.size
      clear hb6
      rename_i K hK
      refine hK _ _ ?_
      conv => arg 2; whnf
      conv => arg 4; dsimp only
      go_wp2_with fail
      refine txLoop_any _ _ _ _ _ _ _ _ _ _ _ _ _ _ _ _ _ _ _ _ _ _ _ _ _ _ _ _ _ _ _ _ _ _ _ _ _ _ _ _ _ _ _ _ _ _ _ _ _ _ _ _ _ _ _ _ _ _ _ _ _ _ _ _ _ _ j A n c w.heap.size B w6 HJ6.out HR6.out (by omega) HE.out ?_
      intro u8 u9 u39 u40 u41 u42 u43 u44 u45 u46 u47 u48 u49 u50 u51 u52 u53 u54 u55 u56 u57 u58 u59 u60 u61 u62 u63 u64 u65 u66 u67 w7 hb7
      have HB7 : Hid (Below w.heap.size w w7) := HB.out.trans ((HB6.out.trans (hb7.mono hz6)).mono hz)
      clear hb7
      rename_i K2 hK2
      refine hK2 _ _ ?_
      conv => arg 2; whnf
      conv => arg 4; dsimp only
      go_wp2_with fail
      go_ret
      exact ⟨rfl, HB7.out⟩
    · skip
      obtain ⟨m4, m5⟩ := key j.ref ⟨#[118, 111, 105, 100]⟩ e4 (by rw [hv]; rfl)
      have HT := Lib.hid (FIN.out j.ref ⟨#[118, 111, 105, 100]⟩ e4 (by rw [hv]; rfl))
      rw [hv] at HW
      rw [hv] at z5
      clear FIN key e4
      go_enter Tryz.func10, Tryz.ntmps10
      go_wp2_with fail
      rw [HW.out]
      go_wp2_with fail
      refine tx6_any _ _ _ _ _ _ _ _ _ _ _ _ _ _ _ _ _ _ _ _ _ _ _ _ _ _ _ _ _ _ _ _ _ _ _ _ _ _ _ _ _ _ _ _ _ _ _ _ _ _ _ _ _ _ _ _ _ _ _ _ _ _ _ _ _ _ j.ref ⟨#[118, 111, 105, 100]⟩ j A n c w.heap.size W HJ.out h64.out m4 m5 ?_
      intro u16 u17 u18 u19 u20 u21 u22 u23 u24 u25 u26 u27 u28 u29 u30 u31 u32 u33 u34 u35 u36 u37 u38 w6 hb6
      rw [HT.out]
      have HB6 := Lib.hid hb6
      have HJ6 : Hid (JAt w6 w.heap.size j A n c) := (hb6.block _ (lt_of_blk HJ.out)).trans HJ.out
      have HR6 := Lib.hid (HR.out.below (hb6.mono (by omega)))
      have hz6 := hb6.size
      clear hb6
      rename_i K hK
      refine hK _ _ ?_
      conv => arg 2; whnf
      conv => arg 4; dsimp only
      go_wp2_with fail
      refine txLoop_any _ _ _ _ _ _ _ _ _ _ _ _ _ _ _ _ _ _ _ _ _ _ _ _ _ _ _ _ _ _ _ _ _ _ _ _ _ _ _ _ _ _ _ _ _ _ _ _ _ _ _ _ _ _ _ _ _ _ _ _ _ _ _ _ _ _ j A n c w.heap.size B w6 HJ6.out HR6.out (by omega) HE.out ?_
      intro u8 u9 u39 u40 u41 u42 u43 u44 u45 u46 u47 u48 u49 u50 u51 u52 u53 u54 u55 u56 u57 u58 u59 u60 u61 u62 u63 u64 u65 u66 u67 w7 hb7
      have HB7 : Hid (Below w.heap.size w w7) := HB.out.trans ((HB6.out.trans (hb7.mono hz6)).mono hz)
      clear hb7
      rename_i K2 hK2
      refine hK2 _ _ ?_
      conv => arg 2; whnf
      conv => arg 4; dsimp only
      go_wp2_with fail
      go_ret
      exact ⟨rfl, HB7.out⟩
  · have e4 : (⟨#[45]⟩ : ByteArray) = bs (refT j.ref.data.toList) := by
      unfold refT
      rw [ByteArray.toList_eq] at he
      rw [if_pos (by simpa using he)]; rfl
    cases hv : j.void
    · skip
      obtain ⟨m4, m5⟩ := key ⟨#[45]⟩ ⟨#[108, 105, 118, 101]⟩ e4 (by rw [hv]; rfl)
      have HT := Lib.hid (FIN.out ⟨#[45]⟩ ⟨#[108, 105, 118, 101]⟩ e4 (by rw [hv]; rfl))
      rw [hv] at HW
      rw [hv] at z5
      clear FIN key e4
      go_enter Tryz.func10, Tryz.ntmps10
      go_wp2_with fail
      rw [HW.out]
      go_wp2_with fail
      refine tx6_any _ _ _ _ _ _ _ _ _ _ _ _ _ _ _ _ _ _ _ _ _ _ _ _ _ _ _ _ _ _ _ _ _ _ _ _ _ _ _ _ _ _ _ _ _ _ _ _ _ _ _ _ _ _ _ _ _ _ _ _ _ _ _ _ _ _ ⟨#[45]⟩ ⟨#[108, 105, 118, 101]⟩ j A n c w.heap.size W HJ.out h64.out m4 m5 ?_
      intro u16 u17 u18 u19 u20 u21 u22 u23 u24 u25 u26 u27 u28 u29 u30 u31 u32 u33 u34 u35 u36 u37 u38 w6 hb6
      rw [HT.out]
      have HB6 := Lib.hid hb6
      have HJ6 : Hid (JAt w6 w.heap.size j A n c) := (hb6.block _ (lt_of_blk HJ.out)).trans HJ.out
      have HR6 := Lib.hid (HR.out.below (hb6.mono (by omega)))
      have hz6 := hb6.size
      clear hb6
      rename_i K hK
      refine hK _ _ ?_
      conv => arg 2; whnf
      conv => arg 4; dsimp only
      go_wp2_with fail
      refine txLoop_any _ _ _ _ _ _ _ _ _ _ _ _ _ _ _ _ _ _ _ _ _ _ _ _ _ _ _ _ _ _ _ _ _ _ _ _ _ _ _ _ _ _ _ _ _ _ _ _ _ _ _ _ _ _ _ _ _ _ _ _ _ _ _ _ _ _ j A n c w.heap.size B w6 HJ6.out HR6.out (by omega) HE.out ?_
      intro u8 u9 u39 u40 u41 u42 u43 u44 u45 u46 u47 u48 u49 u50 u51 u52 u53 u54 u55 u56 u57 u58 u59 u60 u61 u62 u63 u64 u65 u66 u67 w7 hb7
      have HB7 : Hid (Below w.heap.size w w7) := HB.out.trans ((HB6.out.trans (hb7.mono hz6)).mono hz)
      clear hb7
      rename_i K2 hK2
      refine hK2 _ _ ?_
      conv => arg 2; whnf
      conv => arg 4; dsimp only
      go_wp2_with fail
      go_ret
      exact ⟨rfl, HB7.out⟩
    · skip
      obtain ⟨m4, m5⟩ := key ⟨#[45]⟩ ⟨#[118, 111, 105, 100]⟩ e4 (by rw [hv]; rfl)
      have HT := Lib.hid (FIN.out ⟨#[45]⟩ ⟨#[118, 111, 105, 100]⟩ e4 (by rw [hv]; rfl))
      rw [hv] at HW
      rw [hv] at z5
      clear FIN key e4
      go_enter Tryz.func10, Tryz.ntmps10
      go_wp2_with fail
      rw [HW.out]
      go_wp2_with fail
      refine tx6_any _ _ _ _ _ _ _ _ _ _ _ _ _ _ _ _ _ _ _ _ _ _ _ _ _ _ _ _ _ _ _ _ _ _ _ _ _ _ _ _ _ _ _ _ _ _ _ _ _ _ _ _ _ _ _ _ _ _ _ _ _ _ _ _ _ _ ⟨#[45]⟩ ⟨#[118, 111, 105, 100]⟩ j A n c w.heap.size W HJ.out h64.out m4 m5 ?_
      intro u16 u17 u18 u19 u20 u21 u22 u23 u24 u25 u26 u27 u28 u29 u30 u31 u32 u33 u34 u35 u36 u37 u38 w6 hb6
      rw [HT.out]
      have HB6 := Lib.hid hb6
      have HJ6 : Hid (JAt w6 w.heap.size j A n c) := (hb6.block _ (lt_of_blk HJ.out)).trans HJ.out
      have HR6 := Lib.hid (HR.out.below (hb6.mono (by omega)))
      have hz6 := hb6.size
      clear hb6
      rename_i K hK
      refine hK _ _ ?_
      conv => arg 2; whnf
      conv => arg 4; dsimp only
      go_wp2_with fail
      refine txLoop_any _ _ _ _ _ _ _ _ _ _ _ _ _ _ _ _ _ _ _ _ _ _ _ _ _ _ _ _ _ _ _ _ _ _ _ _ _ _ _ _ _ _ _ _ _ _ _ _ _ _ _ _ _ _ _ _ _ _ _ _ _ _ _ _ _ _ j A n c w.heap.size B w6 HJ6.out HR6.out (by omega) HE.out ?_
      intro u8 u9 u39 u40 u41 u42 u43 u44 u45 u46 u47 u48 u49 u50 u51 u52 u53 u54 u55 u56 u57 u58 u59 u60 u61 u62 u63 u64 u65 u66 u67 w7 hb7
      have HB7 : Hid (Below w.heap.size w w7) := HB.out.trans ((HB6.out.trans (hb7.mono hz6)).mono hz)
      clear hb7
      rename_i K2 hK2
      refine hK2 _ _ ?_
      conv => arg 2; whnf
      conv => arg 4; dsimp only
      go_wp2_with fail
      go_ret
      exact ⟨rfl, HB7.out⟩
end Go.Proofs.YtbdhhfaelnnocaaGreatDoor
