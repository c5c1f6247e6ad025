/-
  The reference's SetGate: a round of its loop.
-/
import Derived.Test.YtmgncoialppmpaaGreatMany30
import Derived.Test.YtmgncoialppmpaaGreatMany27
namespace Go.Proofs.YtmgncoialppmpaaGreat
open Go.RowKit

noncomputable def gsTest : Code := subCode [1, 1, 1, 1, 1, 1, 0, 1, 0, 0, 0] (Tryz.f59.body.getD .skip)
noncomputable def gsBody : Code := subCode [1, 1, 1, 1, 1, 1, 0, 1, 0, 0, 1, 0, 0] (Tryz.f59.body.getD .skip)
noncomputable def gsR10 : Code := subCode [1, 1, 1, 1, 1, 1, 0, 1, 0, 0, 1, 1] (Tryz.f59.body.getD .skip)
noncomputable def gsR11 : Code := subCode [1, 1, 1, 1, 1, 1, 0, 1, 0, 0, 1, 0, 0, 0] (Tryz.f59.body.getD .skip)
noncomputable def gsR12 : Code := subCode [1, 1, 1, 1, 1, 1, 0, 1, 0, 0, 1, 0, 0, 1, 0] (Tryz.f59.body.getD .skip)
noncomputable def gs2 : Code := subCode [1, 1, 1, 1, 1, 1, 0, 1, 0, 0, 1, 0, 0, 1, 1, 0] (Tryz.f59.body.getD .skip)
noncomputable def gs3 : Code := subCode [1, 1, 1, 1, 1, 1, 0, 1, 0, 0, 1, 0, 0, 1, 1, 1] (Tryz.f59.body.getD .skip)

set_option maxRecDepth 100000 in
set_option maxHeartbeats 1000000 in
theorem gs1_any (s1 s2 s4 s5 s6 s7 s8 s10 s11 s12 s13 s14 s15 s16 s17 s18 s19 s20 s21 s22 s23 s24 s25 s26 s27 s28 s29 s30 s31 s32 s33 s34 s35 s36 s37 s38 s39 s40 s41 s42 s43 s44 s45 s46 s47 s48 s49 s50 s51 s52 s53 s54 s55 s56 s57 s58 s59 s60 s61 s62 s63 s64 s65 s66 s67 s68 s69 s70 s71 s72 s73 s74 s75 s76 s77 s78 s79 s80 s81 s82 s83 s84 s85 s86 s87 s88 s89 s90 s91 s92 s93 s94 s95 s96 s97 s98 s99 s100 s101 s102 s103 s104 s105 s106 s107 s108 s109 s110 s111 s112 s113 s114 s115 s116 s117 s118 : Value) (R : Code) (Q0 : Exit → Act → World → Prop) (ad : Addr) (n c j bx : Nat) (en pe y1 y2 y3 : Int) (W : World) (hj : j < n) (hn : n ≤ 100000) (hbx : bx < W.heap.size)
    (p1 : W.cell? (ad.add (j * 3)) = some (.int .i64 y1)) (p2 : W.cell? ⟨(ad.add (j * 3)).block, (ad.add (j * 3)).off + 1, none⟩ = some (.int .i64 y2)) (p3 : W.cell? ⟨(ad.add (j * 3)).block, (ad.add (j * 3)).off + 2, none⟩ = some (.int .i64 y3))
    (x0 : W.cell? ⟨bx, 0, none⟩ = some (.int .i64 en)) (x1 : W.cell? ⟨bx, 1, none⟩ = some (.int .i64 pe))
    (hQ : ∀ (u64 u65 u66 u67 u68 u69 u70 u71 u72 u73 u74 u75 u76 u77 u78 u79 u80 u81 u82 u83 u84 u85 u86 : Value), Code.wp Tryz.prog R Q0 ⟨#[.slice (some ad) n c, s1, s2, .pointer (some ⟨bx, 0, none⟩), s4, s5, s6, s7, s8, .int .i64 (j : Nat), .pointer (some ⟨W.heap.size, 0, none⟩), .bool (decide (en < y1 ∨ (y1 = en ∧ pe < y2))), s12, s13, s14, s15, s16, s17, s18, s19, s20, s21, s22, s23, s24, s25, s26, s27, s28, s29, s30, s31, s32, s33, s34, s35, s36, s37, s38, s39, s40, s41, s42, s43, s44, s45, s46, s47, s48, s49, s50, s51, s52, s53, s54, s55, s56, s57, s58, s59, s60, s61, s62, s63, u64, u65, u66, u67, u68, u69, u70, u71, u72, u73, u74, u75, u76, u77, u78, u79, u80, u81, u82, u83, u84, u85, u86, s87, s88, s89, s90, s91, s92, s93, s94, s95, s96, s97, s98, s99, s100, s101, s102, s103, s104, s105, s106, s107, s108, s109, s110, s111, s112, s113, s114, s115, s116, s117, s118], []⟩ (W.alloc (.cells #[.int .i64 y1, .int .i64 y2, .int .i64 y3] 121))) :
    Code.wp Tryz.prog (Code.seq gsR11 (Code.seq gsR12 R)) Q0 ⟨#[.slice (some ad) n c, s1, s2, .pointer (some ⟨bx, 0, none⟩), s4, s5, s6, s7, s8, .int .i64 (j : Nat), s10, s11, s12, s13, s14, s15, s16, s17, s18, s19, s20, s21, s22, s23, s24, s25, s26, s27, s28, s29, s30, s31, s32, s33, s34, s35, s36, s37, s38, s39, s40, s41, s42, s43, s44, s45, s46, s47, s48, s49, s50, s51, s52, s53, s54, s55, s56, s57, s58, s59, s60, s61, s62, s63, s64, s65, s66, s67, s68, s69, s70, s71, s72, s73, s74, s75, s76, s77, s78, s79, s80, s81, s82, s83, s84, s85, s86, s87, s88, s89, s90, s91, s92, s93, s94, s95, s96, s97, s98, s99, s100, s101, s102, s103, s104, s105, s106, s107, s108, s109, s110, s111, s112, s113, s114, s115, s116, s117, s118], []⟩ W := by
  have hjI : (j : Int) < (n : Int) := by omega
  by_cases q1 : en < y1
  · rw [show decide (en < y1 ∨ (y1 = en ∧ pe < y2)) = true by simp [q1]] at hQ
    have HQ := Lib.hid hQ
    clear hQ
    refine wp_seq ?_
    conv => arg 2; whnf
    conv => arg 4; dsimp only
    go_wp2_with fail
    conv => arg 2; whnf
    conv => arg 4; dsimp only
    go_wp2_with fail
    exact HQ.out _ _ _ _ _ _ _ _ _ _ _ _ _ _ _ _ _ _ _ _ _ _ _
  by_cases q2 : y1 = en
  · subst q2
    by_cases q3 : pe < y2
    · rw [show decide (y1 < y1 ∨ (y1 = y1 ∧ pe < y2)) = true by simp [q3]] at hQ
      have HQ := Lib.hid hQ
      clear hQ
      refine wp_seq ?_
      conv => arg 2; whnf
      conv => arg 4; dsimp only
      go_wp2_with fail
      conv => arg 2; whnf
      conv => arg 4; dsimp only
      go_wp2_with fail
      exact HQ.out _ _ _ _ _ _ _ _ _ _ _ _ _ _ _ _ _ _ _ _ _ _ _
    · rw [show decide (y1 < y1 ∨ (y1 = y1 ∧ pe < y2)) = false by simp; omega] at hQ
      have t3 : decide (pe < y2) = false := by simp; omega
      have HQ := Lib.hid hQ
      clear hQ
      refine wp_seq ?_
      conv => arg 2; whnf
      conv => arg 4; dsimp only
      go_wp2_with fail
      conv => arg 2; whnf
      conv => arg 4; dsimp only
      go_wp2_with fail
      exact HQ.out _ _ _ _ _ _ _ _ _ _ _ _ _ _ _ _ _ _ _ _ _ _ _
  · rw [show decide (en < y1 ∨ (y1 = en ∧ pe < y2)) = false by simp [q2]; omega] at hQ
    have HQ := Lib.hid hQ
    clear hQ
    have t4 : (y1 == en) = false := by simp [q2]
    have t3 : decide (en < y1) = false := by simp; omega
    refine wp_seq ?_
    conv => arg 2; whnf
    conv => arg 4; dsimp only
    go_wp2_with fail
    conv => arg 2; whnf
    conv => arg 4; dsimp only
    go_wp2_with fail
    exact HQ.out _ _ _ _ _ _ _ _ _ _ _ _ _ _ _ _ _ _ _ _ _ _ _

set_option maxRecDepth 100000 in
set_option maxHeartbeats 1000000 in
theorem gs2_no (s0 s1 s2 s3 s4 s5 s6 s7 s9 s10 s12 s13 s14 s15 s16 s17 s18 s19 s20 s21 s22 s23 s24 s25 s26 s27 s28 s29 s30 s31 s32 s33 s34 s35 s36 s37 s38 s39 s40 s41 s42 s43 s44 s45 s46 s47 s48 s49 s50 s51 s52 s53 s54 s55 s56 s57 s58 s59 s60 s61 s62 s63 s64 s65 s66 s67 s68 s69 s70 s71 s72 s73 s74 s75 s76 s77 s78 s79 s80 s81 s82 s83 s84 s85 s86 s87 s88 s89 s90 s91 s92 s93 s94 s95 s96 s97 s98 s99 s100 s101 s102 s103 s104 s105 s106 s107 s108 s109 s110 s111 s112 s113 s114 s115 s116 s117 s118 : Value) (R : Code) (Q0 : Exit → Act → World → Prop) (d t : Bool) (W : World) (h : d = true ∨ t = false)
    (hQ : ∀ (u87 u88 u89 u90 u91 : Value), Code.wp Tryz.prog R Q0 ⟨#[s0, s1, s2, s3, s4, s5, s6, s7, .bool d, s9, s10, .bool t, s12, s13, s14, s15, s16, s17, s18, s19, s20, s21, s22, s23, s24, s25, s26, s27, s28, s29, s30, s31, s32, s33, s34, s35, s36, s37, s38, s39, s40, s41, s42, s43, s44, s45, s46, s47, s48, s49, s50, s51, s52, s53, s54, s55, s56, s57, s58, s59, s60, s61, s62, s63, s64, s65, s66, s67, s68, s69, s70, s71, s72, s73, s74, s75, s76, s77, s78, s79, s80, s81, s82, s83, s84, s85, s86, u87, u88, u89, u90, u91, s92, s93, s94, s95, s96, s97, s98, s99, s100, s101, s102, s103, s104, s105, s106, s107, s108, s109, s110, s111, s112, s113, s114, s115, s116, s117, s118], []⟩ W) :
    Code.wp Tryz.prog (Code.seq gs2 R) Q0 ⟨#[s0, s1, s2, s3, s4, s5, s6, s7, .bool d, s9, s10, .bool t, s12, s13, s14, s15, s16, s17, s18, s19, s20, s21, s22, s23, s24, s25, s26, s27, s28, s29, s30, s31, s32, s33, s34, s35, s36, s37, s38, s39, s40, s41, s42, s43, s44, s45, s46, s47, s48, s49, s50, s51, s52, s53, s54, s55, s56, s57, s58, s59, s60, s61, s62, s63, s64, s65, s66, s67, s68, s69, s70, s71, s72, s73, s74, s75, s76, s77, s78, s79, s80, s81, s82, s83, s84, s85, s86, s87, s88, s89, s90, s91, s92, s93, s94, s95, s96, s97, s98, s99, s100, s101, s102, s103, s104, s105, s106, s107, s108, s109, s110, s111, s112, s113, s114, s115, s116, s117, s118], []⟩ W := by
  have HQ := Lib.hid hQ
  clear hQ
  cases d
  · rcases h with h | rfl
    · cases h
    refine wp_seq ?_
    conv => arg 2; whnf
    conv => arg 4; dsimp only
    go_wp2_with fail
    exact HQ.out _ _ _ _ _
  · refine wp_seq ?_
    conv => arg 2; whnf
    conv => arg 4; dsimp only
    go_wp2_with fail
    exact HQ.out _ _ _ _ _

set_option maxRecDepth 100000 in
set_option maxHeartbeats 1000000 in
theorem gs2_yes (s0 s1 s2 s4 s5 s6 s9 s10 s12 s13 s14 s15 s16 s17 s18 s19 s20 s21 s22 s23 s24 s25 s26 s27 s28 s29 s30 s31 s32 s33 s34 s35 s36 s37 s38 s39 s40 s41 s42 s43 s44 s45 s46 s47 s48 s49 s50 s51 s52 s53 s54 s55 s56 s57 s58 s59 s60 s61 s62 s63 s64 s65 s66 s67 s68 s69 s70 s71 s72 s73 s74 s75 s76 s77 s78 s79 s80 s81 s82 s83 s84 s85 s86 s87 s88 s89 s90 s91 s92 s93 s94 s95 s96 s97 s98 s99 s100 s101 s102 s103 s104 s105 s106 s107 s108 s109 s110 s111 s112 s113 s114 s115 s116 s117 s118 : Value) (R : Code) (Q0 : Exit → Act → World → Prop) (ov ov' : Value) (en pe s : Int) (bx : Nat) (W W' : World) (hbx : bx < W.heap.size)
    (x0 : W.cell? ⟨bx, 0, none⟩ = some (.int .i64 en)) (x1 : W.cell? ⟨bx, 1, none⟩ = some (.int .i64 pe)) (x2 : W.cell? ⟨bx, 2, none⟩ = some (.int .i64 s))
    (hrun : (Builtin.append_ #[36, 36] 36 #[ov, .slice (some ⟨W.heap.size, 0, none⟩) 1 1]).run Tryz.prog (W.alloc (.cells #[.int .i64 en, .int .i64 pe, .int .i64 s] 121)) = .ok ov' W')
    (hQ : ∀ (u87 u88 u89 u90 u91 u92 u93 u94 u95 : Value), Code.wp Tryz.prog R Q0 ⟨#[s0, s1, s2, .pointer (some ⟨bx, 0, none⟩), s4, s5, s6, ov', .bool true, s9, s10, .bool true, s12, s13, s14, s15, s16, s17, s18, s19, s20, s21, s22, s23, s24, s25, s26, s27, s28, s29, s30, s31, s32, s33, s34, s35, s36, s37, s38, s39, s40, s41, s42, s43, s44, s45, s46, s47, s48, s49, s50, s51, s52, s53, s54, s55, s56, s57, s58, s59, s60, s61, s62, s63, s64, s65, s66, s67, s68, s69, s70, s71, s72, s73, s74, s75, s76, s77, s78, s79, s80, s81, s82, s83, s84, s85, s86, u87, u88, u89, u90, u91, u92, u93, u94, u95, s96, s97, s98, s99, s100, s101, s102, s103, s104, s105, s106, s107, s108, s109, s110, s111, s112, s113, s114, s115, s116, s117, s118], []⟩ W') :
    Code.wp Tryz.prog (Code.seq gs2 R) Q0 ⟨#[s0, s1, s2, .pointer (some ⟨bx, 0, none⟩), s4, s5, s6, ov, .bool false, s9, s10, .bool true, s12, s13, s14, s15, s16, s17, s18, s19, s20, s21, s22, s23, s24, s25, s26, s27, s28, s29, s30, s31, s32, s33, s34, s35, s36, s37, s38, s39, s40, s41, s42, s43, s44, s45, s46, s47, s48, s49, s50, s51, s52, s53, s54, s55, s56, s57, s58, s59, s60, s61, s62, s63, s64, s65, s66, s67, s68, s69, s70, s71, s72, s73, s74, s75, s76, s77, s78, s79, s80, s81, s82, s83, s84, s85, s86, s87, s88, s89, s90, s91, s92, s93, s94, s95, s96, s97, s98, s99, s100, s101, s102, s103, s104, s105, s106, s107, s108, s109, s110, s111, s112, s113, s114, s115, s116, s117, s118], []⟩ W := by
  have HQ := Lib.hid hQ
  have HR := Lib.hid hrun
  clear hQ hrun
  refine wp_seq ?_
  conv => arg 2; whnf
  conv => arg 4; dsimp only
  go_wp2_with (at_builtin; refine wpList_append_run rfl _ _ _ rfl _ _ _ _ rfl rfl HR.out ?_)
  exact HQ.out _ _ _ _ _ _ _ _ _

set_option maxRecDepth 100000 in
set_option maxHeartbeats 1000000 in
theorem gs3_no (s0 s1 s2 s4 s5 s6 s7 s8 s9 s11 s12 s13 s14 s15 s16 s17 s18 s19 s20 s21 s22 s23 s24 s25 s26 s27 s28 s29 s30 s31 s32 s33 s34 s35 s36 s37 s38 s39 s40 s41 s42 s43 s44 s45 s46 s47 s48 s49 s50 s51 s52 s53 s54 s55 s56 s57 s58 s59 s60 s61 s62 s63 s64 s65 s66 s67 s68 s69 s70 s71 s72 s73 s74 s75 s76 s77 s78 s79 s80 s81 s82 s83 s84 s85 s86 s87 s88 s89 s90 s91 s92 s93 s94 s95 s96 s97 s98 s99 s100 s101 s102 s103 s104 s105 s106 s107 s108 s109 s110 s111 s112 s113 s114 s115 s116 s117 s118 : Value) (Q0 : Exit → Act → World → Prop) (en pe : Int) (bx yb : Nat) (W : World)
    (x0 : W.cell? ⟨bx, 0, none⟩ = some (.int .i64 en)) (x1 : W.cell? ⟨bx, 1, none⟩ = some (.int .i64 pe)) (y0 : W.cell? ⟨yb, 0, none⟩ = some (.int .i64 en)) (y1 : W.cell? ⟨yb, 1, none⟩ = some (.int .i64 pe))
    (hQ : ∀ (u96 u97 u98 u99 u100 u101 u102 u103 u104 u105 u106 u107 : Value), Q0 .normal ⟨#[s0, s1, s2, .pointer (some ⟨bx, 0, none⟩), s4, s5, s6, s7, s8, s9, .pointer (some ⟨yb, 0, none⟩), s11, s12, s13, s14, s15, s16, s17, s18, s19, s20, s21, s22, s23, s24, s25, s26, s27, s28, s29, s30, s31, s32, s33, s34, s35, s36, s37, s38, s39, s40, s41, s42, s43, s44, s45, s46, s47, s48, s49, s50, s51, s52, s53, s54, s55, s56, s57, s58, s59, s60, s61, s62, s63, s64, s65, s66, s67, s68, s69, s70, s71, s72, s73, s74, s75, s76, s77, s78, s79, s80, s81, s82, s83, s84, s85, s86, s87, s88, s89, s90, s91, s92, s93, s94, s95, u96, u97, u98, u99, u100, u101, u102, u103, u104, u105, u106, u107, s108, s109, s110, s111, s112, s113, s114, s115, s116, s117, s118], []⟩ W) :
    Code.wp Tryz.prog gs3 Q0 ⟨#[s0, s1, s2, .pointer (some ⟨bx, 0, none⟩), s4, s5, s6, s7, s8, s9, .pointer (some ⟨yb, 0, none⟩), s11, s12, s13, s14, s15, s16, s17, s18, s19, s20, s21, s22, s23, s24, s25, s26, s27, s28, s29, s30, s31, s32, s33, s34, s35, s36, s37, s38, s39, s40, s41, s42, s43, s44, s45, s46, s47, s48, s49, s50, s51, s52, s53, s54, s55, s56, s57, s58, s59, s60, s61, s62, s63, s64, s65, s66, s67, s68, s69, s70, s71, s72, s73, s74, s75, s76, s77, s78, s79, s80, s81, s82, s83, s84, s85, s86, s87, s88, s89, s90, s91, s92, s93, s94, s95, s96, s97, s98, s99, s100, s101, s102, s103, s104, s105, s106, s107, s108, s109, s110, s111, s112, s113, s114, s115, s116, s117, s118], []⟩ W := by
  have HQ := Lib.hid hQ
  clear hQ
  have t1 : (en != en) = false := by simp
  have t2 : (pe != pe) = false := by simp
  conv => arg 2; whnf
  conv => arg 4; dsimp only
  go_wp2_with fail
  exact HQ.out _ _ _ _ _ _ _ _ _ _ _ _

set_option maxRecDepth 100000 in
set_option maxHeartbeats 1000000 in
theorem gs3_yes (s0 s1 s2 s4 s5 s6 s8 s9 s11 s12 s13 s14 s15 s16 s17 s18 s19 s20 s21 s22 s23 s24 s25 s26 s27 s28 s29 s30 s31 s32 s33 s34 s35 s36 s37 s38 s39 s40 s41 s42 s43 s44 s45 s46 s47 s48 s49 s50 s51 s52 s53 s54 s55 s56 s57 s58 s59 s60 s61 s62 s63 s64 s65 s66 s67 s68 s69 s70 s71 s72 s73 s74 s75 s76 s77 s78 s79 s80 s81 s82 s83 s84 s85 s86 s87 s88 s89 s90 s91 s92 s93 s94 s95 s96 s97 s98 s99 s100 s101 s102 s103 s104 s105 s106 s107 s108 s109 s110 s111 s112 s113 s114 s115 s116 s117 s118 : Value) (Q0 : Exit → Act → World → Prop) (ov ov' : Value) (en pe a b z : Int) (bx yb : Nat) (W W' : World) (hne : ¬ (a = en ∧ b = pe)) (hyb : yb < W.heap.size)
    (x0 : W.cell? ⟨bx, 0, none⟩ = some (.int .i64 en)) (x1 : W.cell? ⟨bx, 1, none⟩ = some (.int .i64 pe)) (y0 : W.cell? ⟨yb, 0, none⟩ = some (.int .i64 a)) (y1 : W.cell? ⟨yb, 1, none⟩ = some (.int .i64 b)) (y2 : W.cell? ⟨yb, 2, none⟩ = some (.int .i64 z))
    (hrun : (Builtin.append_ #[36, 36] 36 #[ov, .slice (some ⟨W.heap.size, 0, none⟩) 1 1]).run Tryz.prog (W.alloc (.cells #[.int .i64 a, .int .i64 b, .int .i64 z] 121)) = .ok ov' W')
    (hQ : ∀ (u96 u97 u98 u99 u100 u101 u102 u103 u104 u105 u106 u107 u108 u109 u110 u111 : Value), Q0 .normal ⟨#[s0, s1, s2, .pointer (some ⟨bx, 0, none⟩), s4, s5, s6, ov', s8, s9, .pointer (some ⟨yb, 0, none⟩), s11, s12, s13, s14, s15, s16, s17, s18, s19, s20, s21, s22, s23, s24, s25, s26, s27, s28, s29, s30, s31, s32, s33, s34, s35, s36, s37, s38, s39, s40, s41, s42, s43, s44, s45, s46, s47, s48, s49, s50, s51, s52, s53, s54, s55, s56, s57, s58, s59, s60, s61, s62, s63, s64, s65, s66, s67, s68, s69, s70, s71, s72, s73, s74, s75, s76, s77, s78, s79, s80, s81, s82, s83, s84, s85, s86, s87, s88, s89, s90, s91, s92, s93, s94, s95, u96, u97, u98, u99, u100, u101, u102, u103, u104, u105, u106, u107, u108, u109, u110, u111, s112, s113, s114, s115, s116, s117, s118], []⟩ W') :
    Code.wp Tryz.prog gs3 Q0 ⟨#[s0, s1, s2, .pointer (some ⟨bx, 0, none⟩), s4, s5, s6, ov, s8, s9, .pointer (some ⟨yb, 0, none⟩), s11, s12, s13, s14, s15, s16, s17, s18, s19, s20, s21, s22, s23, s24, s25, s26, s27, s28, s29, s30, s31, s32, s33, s34, s35, s36, s37, s38, s39, s40, s41, s42, s43, s44, s45, s46, s47, s48, s49, s50, s51, s52, s53, s54, s55, s56, s57, s58, s59, s60, s61, s62, s63, s64, s65, s66, s67, s68, s69, s70, s71, s72, s73, s74, s75, s76, s77, s78, s79, s80, s81, s82, s83, s84, s85, s86, s87, s88, s89, s90, s91, s92, s93, s94, s95, s96, s97, s98, s99, s100, s101, s102, s103, s104, s105, s106, s107, s108, s109, s110, s111, s112, s113, s114, s115, s116, s117, s118], []⟩ W := by
  have HQ := Lib.hid hQ
  have HR := Lib.hid hrun
  clear hQ hrun
  by_cases h1 : a = en
  · subst h1
    have h2 : ¬ b = pe := fun h => hne ⟨rfl, h⟩
    have t1 : (a != a) = false := by simp
    have t2 : (b != pe) = true := by simp [h2]
    conv => arg 2; whnf
    conv => arg 4; dsimp only
    go_wp2_with (at_builtin; refine wpList_append_run rfl _ _ _ rfl _ _ _ _ rfl rfl HR.out ?_)
    exact HQ.out _ _ _ _ _ _ _ _ _ _ _ _ _ _ _ _
  · have t1 : (a != en) = true := by simp [h1]
    conv => arg 2; whnf
    conv => arg 4; dsimp only
    go_wp2_with (at_builtin; refine wpList_append_run rfl _ _ _ rfl _ _ _ _ rfl rfl HR.out ?_)
    exact HQ.out _ _ _ _ _ _ _ _ _ _ _ _ _ _ _ _
end Go.Proofs.YtmgncoialppmpaaGreat

