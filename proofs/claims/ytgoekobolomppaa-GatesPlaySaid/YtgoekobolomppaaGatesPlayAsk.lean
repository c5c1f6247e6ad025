/-
  GatesPlay: rows held against the reference's; what is asked in a round.
-/
import Derived.Test.YtgoekobolomppaaGatesPlayIf
namespace Go.Proofs.Ytgoekobolomppaa
open Go.RowKit

noncomputable def gpCmp : Code := subCode [1, 1, 1, 1, 1, 0, 1, 0, 0, 1, 0, 0, 1, 1, 1, 1, 1, 0, 1, 0] (Try.f3.body.getD .skip)
noncomputable def gpAsk : Code := subCode [1, 1, 1, 1, 1, 0, 1, 0, 0, 1, 0, 0, 1, 1, 1, 1, 1, 1] (Try.f3.body.getD .skip)

set_option maxRecDepth 100000 in
set_option maxHeartbeats 4000000 in
theorem gpCmp_any (s0 s1 s2 s3 s4 s5 s6 s7 s9 s10 s11 s12 s13 s14 s17 s18 s19 s20 s21 s22 s23 s24 s25 s26 s27 s28 s29 s30 s31 s32 s33 s34 s35 s36 s37 s38 s39 s40 s41 s42 s43 s44 s45 s46 s47 s48 s49 s50 s51 s52 s53 s54 s55 s56 s57 s58 s59 s60 s61 s62 s63 s64 s65 s66 s67 s68 s69 s70 s71 s72 s73 s74 s75 s76 s77 s78 s79 s80 s81 s82 s83 s84 s85 s86 s87 s88 s89 s90 s91 s92 s93 s94 s95 s96 s97 s98 s99 s100 s101 s102 s103 s104 s105 s106 s107 s108 s109 s110 s111 s112 s113 s114 s115 s116 s117 s118 s119 s120 s121 s122 s123 s124 s125 s126 s127 s128 s129 s130 s131 s132 s133 s134 s135 s136 s137 s138 s139 s140 s141 s142 s143 s144 s145 s146 s147 s148 s149 s150 s151 s152 s153 s154 s155 s156 s157 s158 s159 s160 s161 s162 s163 s164 s165 s166 s167 s168 s169 s170 s171 s172 s173 s174 s175 s176 s177 s178 s179 : Value) (Q0 : Exit → Act → World → Prop) (A A5 : Option Addr) (N cp c5 B B5 : Nat) (l : List Trio) (w : World) (h8 : Rd w B 3 A N (trios l)) (h5 : Rd w B5 3 A5 N (trios l)) (hN : N ≤ 100000)
    (hQ : ∀ (u6 u16 u90 u91 u92 u93 u94 u95 u96 u97 u98 u99 u100 u101 u102 u103 u104 u105 u106 u107 u108 u109 u110 u111 u112 u113 u114 u115 u116 : Value) (w' : World), Drew w w' → Q0 (.exit 2) ⟨#[s0, s1, s2, s3, s4, s5, u6, s7, .slice A N cp, s9, s10, s11, s12, s13, s14, .slice A5 N c5, u16, s17, s18, s19, s20, s21, s22, s23, s24, s25, s26, s27, s28, s29, s30, s31, s32, s33, s34, s35, s36, s37, s38, s39, s40, s41, s42, s43, s44, s45, s46, s47, s48, s49, s50, s51, s52, s53, s54, s55, s56, s57, s58, s59, s60, s61, s62, s63, s64, s65, s66, s67, s68, s69, s70, s71, s72, s73, s74, s75, s76, s77, s78, s79, s80, s81, s82, s83, s84, s85, s86, s87, s88, s89, u90, u91, u92, u93, u94, u95, u96, u97, u98, u99, u100, u101, u102, u103, u104, u105, u106, u107, u108, u109, u110, u111, u112, u113, u114, u115, u116, s117, s118, s119, s120, s121, s122, s123, s124, s125, s126, s127, s128, s129, s130, s131, s132, s133, s134, s135, s136, s137, s138, s139, s140, s141, s142, s143, s144, s145, s146, s147, s148, s149, s150, s151, s152, s153, s154, s155, s156, s157, s158, s159, s160, s161, s162, s163, s164, s165, s166, s167, s168, s169, s170, s171, s172, s173, s174, s175, s176, s177, s178, s179], []⟩ w') :
    Code.wp Try.prog gpCmp Q0 ⟨#[s0, s1, s2, s3, s4, s5, s6, s7, .slice A N cp, s9, s10, s11, s12, s13, s14, .slice A5 N c5, .int .i64 0, s17, s18, s19, s20, s21, s22, s23, s24, s25, s26, s27, s28, s29, s30, s31, s32, s33, s34, s35, s36, s37, s38, s39, s40, s41, s42, s43, s44, s45, s46, s47, s48, s49, s50, s51, s52, s53, s54, s55, s56, s57, s58, s59, s60, s61, s62, s63, s64, s65, s66, s67, s68, s69, s70, s71, s72, s73, s74, s75, s76, s77, s78, s79, s80, s81, s82, s83, s84, s85, s86, s87, s88, s89, s90, s91, s92, s93, s94, s95, s96, s97, s98, s99, s100, s101, s102, s103, s104, s105, s106, s107, s108, s109, s110, s111, s112, s113, s114, s115, s116, s117, s118, s119, s120, s121, s122, s123, s124, s125, s126, s127, s128, s129, s130, s131, s132, s133, s134, s135, s136, s137, s138, s139, s140, s141, s142, s143, s144, s145, s146, s147, s148, s149, s150, s151, s152, s153, s154, s155, s156, s157, s158, s159, s160, s161, s162, s163, s164, s165, s166, s167, s168, s169, s170, s171, s172, s173, s174, s175, s176, s177, s178, s179], []⟩ w := by
  have HQ := Lib.hid hQ
  clear hQ
  conv => arg 2; whnf
  conv => arg 4; dsimp only
  go_loopw [16] (fun iv wx => ∃ j : Nat, j ≤ N ∧ iv = .int .i64 j ∧ Drew w wx) (fun iv _ => N - (intOf iv).toNat)
  case atStart => exact ⟨0, Nat.zero_le _, rfl, Drew.refl _⟩
  case round =>
    obtain ⟨j, hj, rfl, q, rfl⟩ := hrel
    by_cases hlt : j < N
    · obtain ⟨a8, x, rfl, hb1, hx, p1, p2, p3⟩ := h8.trio hlt
      obtain ⟨a5, y, rfl, hb2, hy, r1, r2, r3⟩ := h5.trio hlt
      rw [hx] at hy
      injection hy with hy
      subst hy
      have hjn : (j : Int) < (N : Int) := by omega
      have p2' := cell_behind p2 (by omega)
      have p3' := cell_behind p3 (by omega)
      have r2' := cell_behind r2 (by omega)
      have r3' := cell_behind r3 (by omega)
      clear hx p2 p3 r2 r3 h8 h5
      obtain ⟨x1, x2, x3⟩ := x
      have he : ∀ w, (Op.equalIn 10000 53 (.agg #[.int .i64 x1, .int .i64 x2, .int .i64 x3]) (.agg #[.int .i64 x1, .int .i64 x2, .int .i64 x3])).run Try.prog w = .ok true w := fun w => by rw [eql_array3 w 9998 53 3 Try.underlying53 Try.underlying3 (fun w => by kernel_rfl)]; simp
      go_wp2_with fail
      go_big_quiet (fail)
      go_wp2_with fail
      exact ⟨⟨j + 1, by omega, by go_num, Drew.add _ _⟩, by simp [intOf]; omega⟩
    · obtain rfl : j = N := by omega
      go_wp2_with fail
      exact HQ.out _ _ _ _ _ _ _ _ _ _ _ _ _ _ _ _ _ _ _ _ _ _ _ _ _ _ _ _ _ _ ⟨q, rfl⟩

set_option maxRecDepth 100000 in
set_option maxHeartbeats 4000000 in
theorem gpAsk_any (s0 s3 s4 s5 s6 s9 s10 s12 s13 s14 s15 s16 s17 s18 s19 s20 s21 s22 s23 s24 s25 s26 s27 s28 s29 s30 s31 s32 s33 s34 s35 s36 s37 s38 s39 s40 s41 s42 s43 s44 s45 s46 s47 s48 s49 s50 s51 s52 s53 s54 s55 s56 s57 s58 s59 s60 s61 s62 s63 s64 s65 s66 s67 s68 s69 s70 s71 s72 s73 s74 s75 s76 s77 s78 s79 s80 s81 s82 s83 s84 s85 s86 s87 s88 s89 s90 s91 s92 s93 s94 s95 s96 s97 s98 s99 s100 s101 s102 s103 s104 s105 s106 s107 s108 s109 s110 s111 s112 s113 s114 s115 s116 s117 s118 s119 s120 s121 s122 s123 s124 s125 s126 s127 s128 s129 s130 s131 s132 s133 s134 s135 s136 s137 s138 s139 s140 s141 s142 s143 s144 s145 s146 s147 s148 s149 s150 s151 s152 s153 s154 s155 s156 s157 s158 s159 s160 s161 s162 s163 s164 s165 s166 s167 s168 s169 s170 s171 s172 s173 s174 s175 s176 s177 s178 s179 : Value) (Q0 : Exit → Act → World → Prop) (en pe : Int) (ob c B N cp B8 : Nat) (v : Value) (l : List Trio) (A : Option Addr) (o : GOp) (W : World) (hg : GatesAt W B c v l) (hr : Rd W B8 3 A N (trios l)) (hB8 : B8 ≤ W.heap.size) (hN : N ≤ 100000) (hop : OpAt W ob o)
    (hQ : ∀ (u117 u118 u119 u120 u121 u122 u123 u124 u125 u126 u127 u128 u129 u130 u131 u132 u133 u134 u135 u136 u137 u138 u139 u140 u141 u142 u143 u144 u145 u146 u147 u148 u149 u150 u151 : Value) (w' : World), Below W.heap.size W w' → Q0 .normal ⟨#[s0, .int .i64 en, .int .i64 pe, s3, s4, s5, s6, .pointer (some ⟨c, 0, none⟩), .slice A N cp, s9, s10, .pointer (some ⟨ob, 0, none⟩), s12, s13, s14, s15, s16, s17, s18, s19, s20, s21, s22, s23, s24, s25, s26, s27, s28, s29, s30, s31, s32, s33, s34, s35, s36, s37, s38, s39, s40, s41, s42, s43, s44, s45, s46, s47, s48, s49, s50, s51, s52, s53, s54, s55, s56, s57, s58, s59, s60, s61, s62, s63, s64, s65, s66, s67, s68, s69, s70, s71, s72, s73, s74, s75, s76, s77, s78, s79, s80, s81, s82, s83, s84, s85, s86, s87, s88, s89, s90, s91, s92, s93, s94, s95, s96, s97, s98, s99, s100, s101, s102, s103, s104, s105, s106, s107, s108, s109, s110, s111, s112, s113, s114, s115, s116, u117, u118, u119, u120, u121, u122, u123, u124, u125, u126, u127, u128, u129, u130, u131, u132, u133, u134, u135, u136, u137, u138, u139, u140, u141, u142, u143, u144, u145, u146, u147, u148, u149, u150, u151, s152, s153, s154, s155, s156, s157, s158, s159, s160, s161, s162, s163, s164, s165, s166, s167, s168, s169, s170, s171, s172, s173, s174, s175, s176, s177, s178, s179], []⟩ w') :
    Code.wp Try.prog gpAsk Q0 ⟨#[s0, .int .i64 en, .int .i64 pe, s3, s4, s5, s6, .pointer (some ⟨c, 0, none⟩), .slice A N cp, s9, s10, .pointer (some ⟨ob, 0, none⟩), s12, s13, s14, s15, s16, s17, s18, s19, s20, s21, s22, s23, s24, s25, s26, s27, s28, s29, s30, s31, s32, s33, s34, s35, s36, s37, s38, s39, s40, s41, s42, s43, s44, s45, s46, s47, s48, s49, s50, s51, s52, s53, s54, s55, s56, s57, s58, s59, s60, s61, s62, s63, s64, s65, s66, s67, s68, s69, s70, s71, s72, s73, s74, s75, s76, s77, s78, s79, s80, s81, s82, s83, s84, s85, s86, s87, s88, s89, s90, s91, s92, s93, s94, s95, s96, s97, s98, s99, s100, s101, s102, s103, s104, s105, s106, s107, s108, s109, s110, s111, s112, s113, s114, s115, s116, s117, s118, s119, s120, s121, s122, s123, s124, s125, s126, s127, s128, s129, s130, s131, s132, s133, s134, s135, s136, s137, s138, s139, s140, s141, s142, s143, s144, s145, s146, s147, s148, s149, s150, s151, s152, s153, s154, s155, s156, s157, s158, s159, s160, s161, s162, s163, s164, s165, s166, s167, s168, s169, s170, s171, s172, s173, s174, s175, s176, s177, s178, s179], []⟩ W := by
  have q1 := Lib.hid (regrown_calls (w := W) fun w1 hb => state_any B c v l en pe w1 (hg.below hb))
  have q2 := Lib.hid (regrown_calls (w := W) fun w1 hb => (refState_any l en pe A N cp _ w1 (hr.below (hb.mono hB8)) (by omega) hg.good.2).mono fun e w' h => ⟨h.1, h.2 ▸ Below.refl _ _⟩)
  have q3 := Lib.hid (regrown_calls (w := W) fun w1 hb => may_any B c v l en pe w1 (hg.below hb))
  have q4 := Lib.hid (regrown_calls (w := W) fun w1 hb => (refMay_any l en pe A N cp _ w1 (hr.below (hb.mono hB8)) (by omega) hg.good.2).mono fun e w' h => ⟨h.1, h.2 ▸ Below.refl _ _⟩)
  have q5 := Lib.hid (regrown_calls (w := W) fun w1 hb => state_any B c v l o.e o.p w1 (hg.below hb))
  have q6 := Lib.hid (regrown_calls (w := W) fun w1 hb => (refState_any l o.e o.p A N cp _ w1 (hr.below (hb.mono hB8)) (by omega) hg.good.2).mono fun e w' h => ⟨h.1, h.2 ▸ Below.refl _ _⟩)
  have c0 := cell_regrown hop.e
  have c1 := cell_regrown hop.p
  have HQ := Lib.hid hQ
  clear hQ hg hr hop
  generalize stT l en pe = s1 at *
  generalize mayT l en pe = m1 at *
  generalize stT l o.e o.p = s2 at *
  have t1 : (s1 != s1) = false := by simp
  have t2 : (m1 != m1) = false := by simp
  have t3 : (s2 != s2) = false := by simp
  conv => arg 2; whnf
  conv => arg 4; dsimp only
  refine wp_seq ?_
  refine wp_region_quiet_below (by kernel_rfl) (by kernel_rfl) ?_
  repeat (quiet_step (fail))
  quiet_step (exact q1.out _ _)
  repeat (quiet_step (fail))
  quiet_step (exact q2.out _ _)
  repeat (quiet_step (fail))
  quiet_step (exact q3.out _ _)
  repeat (quiet_step (fail))
  quiet_step (exact q4.out _ _)
  repeat (quiet_step (fail))
  quiet_step (exact q5.out _ _)
  repeat (quiet_step (fail))
  quiet_step (exact q6.out _ _)
  repeat (quiet_step (fail))
  refine wpQuiet_nil ?_
  intro _ hw'
  obtain ⟨⟨dq, osq⟩, hw''⟩ := hw'
  subst hw''
  have HB := Lib.hid (below_regrown W dq osq)
  generalize Sort.grow (redrawn W dq) osq = w' at *
  go_wp2_with fail
  exact HQ.out _ _ _ _ _ _ _ _ _ _ _ _ _ _ _ _ _ _ _ _ _ _ _ _ _ _ _ _ _ _ _ _ _ _ _ _ HB.out
end Go.Proofs.Ytgoekobolomppaa
