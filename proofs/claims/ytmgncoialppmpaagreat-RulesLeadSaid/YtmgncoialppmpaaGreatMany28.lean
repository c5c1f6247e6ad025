/-
  Several texts, one behind the other: what each holds stands ahead of it.
-/
import Derived.Test.YtmgncoialppmpaaGreatMany23
import Derived.Test.YtmgncoialppmpaaGreatMany27
import Derived.Test.YtmgncoialppmpaaGreatRefAddNew
import Derived.Test.YtmgncoialppmpaaGreatMany24
import Derived.Deep.RegionHeldLaw
import Derived.Test.YtmgncoialppmpaaGreatMany26
import Derived.Test.YtmgncoialppmpaaGreatMany15
import Derived.Deep.RegionLaw

/-
  A world that is made: its chart, loop by loop.
-/
namespace Go.Proofs.YtmgncoialppmpaaGreat
open Go.RowKit

/-- A chart of rows that rise is those rows. -/
theorem newR_rise : ∀ (xs l : List Acc), GoodA (l ++ xs) → newR l xs = (l ++ xs, 0)
  | [], l, _ => by simp [newR]
  | a :: r, l, h => by
    have ho : okRow a.code a.kind = true := h.2 a (by simp)
    have hlt : ∀ b ∈ l, b.code < a.code := fun b hb => (List.pairwise_append.1 h.1).2.2 b hb a (by simp)
    have hf : findA l a.code = none := by
      unfold findA
      rw [List.find?_eq_none]
      intro b hb
      have := hlt b hb
      simp; omega
    have hp : posn l a.code = l.length := by
      exact posn_eq (Nat.le_refl _) (fun k b _ hb => hlt b (List.mem_of_getElem? hb)) fun b hb => by simp at hb
    have hE : addE l a = 0 := by unfold addE; rw [if_pos ho, hf]; rfl
    have hI : insA l a = l ++ [a] := by unfold insA; rw [hp]; simp
    rw [newR, if_pos hE, hI, newR_rise r (l ++ [a]) (by simpa using h)]
    simp
theorem new_good {C : List Acc} (h : GoodA C) : newE C = 0 ∧ newL C = C := by
  have := newR_rise C [] (by simpa using h)
  unfold newE newL
  rw [this]
  exact ⟨rfl, rfl⟩
end Go.Proofs.YtmgncoialppmpaaGreat

/-
  A world that is made: one row of the reference's chart.
-/
namespace Go.Proofs.YtmgncoialppmpaaGreat
open Go.RowKit

/-- A post that is met at the normal end alone. -/
def onEnd (K : Act → World → Prop) : Exit → Act → World → Prop
  | .normal, a, w => K a w
  | _, _, _ => False
theorem wp_onEnd {P : Program} {c : Code} {Q : Exit → Act → World → Prop} {a : Act} {w : World} (h : Code.wp P c (onEnd (Q .normal)) a w) : Code.wp P c Q a w :=
  wp_mono h fun e _ _ hh => by
    cases e with
    | normal => exact hh
    | _ => exact hh.elim
noncomputable def mkR5 : Code := subCode [1, 1, 0, 1, 0, 0, 1, 0, 0, 0] (Tryz.f11.body.getD .skip)
set_option maxRecDepth 100000 in
set_option maxHeartbeats 2000000 in
theorem mkR5_any (s0 s2 s3 s4 s7 s8 s9 s10 s11 s12 s13 s14 s15 s16 s17 s18 s19 s20 s21 s22 s23 s24 s25 s26 s27 s28 s29 s30 s31 s32 s33 s34 s35 s36 s37 s38 s39 s40 s41 s42 s43 s44 s45 s46 s47 s48 s49 s50 s51 s52 s53 s54 s55 s56 s57 s58 s59 s60 s61 s62 s63 s64 s65 s66 s67 s68 s69 s70 s71 s72 s73 s74 s75 s76 s77 s78 s79 s80 s81 s82 s83 s84 s85 s86 s87 s88 s89 s90 s91 s92 s93 s94 s95 s96 s97 s98 s99 s100 s101 s102 s103 s104 s105 s106 s107 s108 s109 s110 s111 s112 s113 s114 s115 s116 s117 s118 s119 s120 s121 s122 s123 s124 s125 s126 s127 s128 s129 s130 : Value) (Q0 : Exit → Act → World → Prop) (C : List Acc) (x : Acc) (A A0 : Option Addr) (ad : Addr) (c n0 c0 xb rb k : Nat) (w0 w : World) (hA0 : A0 = some ad) (x0 : w.cell? ⟨xb, 0, none⟩ = some (.slice A0 n0 c0)) (r0 : w.cell? ⟨rb, 0, none⟩ = some (.slice A C.length c)) (hkn : (k : Int) < (n0 : Int))
    (a1 : w.cell? (ad.add (k * 3)) = some (.int .i64 x.code)) (a2 : w.cell? ⟨(ad.add (k * 3)).block, (ad.add (k * 3)).off + 1, none⟩ = some (.int .i64 x.kind)) (a3 : w.cell? ⟨(ad.add (k * 3)).block, (ad.add (k * 3)).off + 2, none⟩ = some (.bool x.ret))
    (hown : w.ownsRow w0.heap.size 112 3 (.slice A C.length c) C.length (accs C)) (hz : w0.heap.size ≤ w.heap.size) (hlen : C.length ≤ 1000) (hg : GoodA C)
    (hQ : ∀ (u27 u28 u29 u30 u31 u32 u33 u34 u35 u36 u37 : Value) (A2 : Option Addr) (c2 : Nat) (w2 : World), w2.ownsRow w0.heap.size 112 3 (.slice A2 (addL C x).length c2) (addL C x).length (accs (addL C x)) → Below w.heap.size w w2 → Q0 .normal ⟨#[s0, .pointer (some ⟨xb, 0, none⟩), s2, s3, s4, .pointer (some ⟨rb, 0, none⟩), .int .i64 (k : Int), .slice A2 (addL C x).length c2, .int .i64 (addE C x), s9, s10, s11, s12, s13, s14, s15, s16, s17, s18, s19, s20, s21, s22, s23, s24, s25, s26, u27, u28, u29, u30, u31, u32, u33, u34, u35, u36, u37, s38, s39, s40, s41, s42, s43, s44, s45, s46, s47, s48, s49, s50, s51, s52, s53, s54, s55, s56, s57, s58, s59, s60, s61, s62, s63, s64, s65, s66, s67, s68, s69, s70, s71, s72, s73, s74, s75, s76, s77, s78, s79, s80, s81, s82, s83, s84, s85, s86, s87, s88, s89, s90, s91, s92, s93, s94, s95, s96, s97, s98, s99, s100, s101, s102, s103, s104, s105, s106, s107, s108, s109, s110, s111, s112, s113, s114, s115, s116, s117, s118, s119, s120, s121, s122, s123, s124, s125, s126, s127, s128, s129, s130], []⟩ w2) :
    Code.wp Tryz.prog mkR5 Q0 ⟨#[s0, .pointer (some ⟨xb, 0, none⟩), s2, s3, s4, .pointer (some ⟨rb, 0, none⟩), .int .i64 (k : Int), s7, s8, s9, s10, s11, s12, s13, s14, s15, s16, s17, s18, s19, s20, s21, s22, s23, s24, s25, s26, s27, s28, s29, s30, s31, s32, s33, s34, s35, s36, s37, s38, s39, s40, s41, s42, s43, s44, s45, s46, s47, s48, s49, s50, s51, s52, s53, s54, s55, s56, s57, s58, s59, s60, s61, s62, s63, s64, s65, s66, s67, s68, s69, s70, s71, s72, s73, s74, s75, s76, s77, s78, s79, s80, s81, s82, s83, s84, s85, s86, s87, s88, s89, s90, s91, s92, s93, s94, s95, s96, s97, s98, s99, s100, s101, s102, s103, s104, s105, s106, s107, s108, s109, s110, s111, s112, s113, s114, s115, s116, s117, s118, s119, s120, s121, s122, s123, s124, s125, s126, s127, s128, s129, s130], []⟩ w := by
  subst hA0
  have ka := Lib.hid (refAdd_any C x A C.length c w0.heap.size w.drew hown (by exact hz) (by omega) hg)
  have HQ := Lib.hid hQ
  unfold RefAdded at ka
  obtain ⟨x1, x2, x3⟩ := x
  dsimp only at *
  generalize addE C ⟨x1, x2, x3⟩ = E at *
  generalize addL C ⟨x1, x2, x3⟩ = C' at *
  clear hown hg hQ hz hlen
  refine wp_onEnd ?_
  conv => arg 2; whnf
  conv => arg 4; dsimp only
  go_region_law (go_simp; go_at_call 58; refine ka.out.mono ?_; rintro e w2 ⟨A2, c2, rfl, hown2, hlt2, hb2⟩)
  all_goals go_simp
  all_goals exact HQ.out _ _ _ _ _ _ _ _ _ _ _ A2 c2 w2 hown2 ((Below.refl _ w).drew.trans hb2)
end Go.Proofs.YtmgncoialppmpaaGreat

/-
  The reference's TooMuch, of which is asked whether its list is empty; money.
-/
namespace Go.Proofs.YtmgncoialppmpaaGreat
open Go.RowKit

noncomputable def tmR14 : Code := subCode [1, 1, 0, 1, 0, 0, 1, 0, 0, 1, 0, 0, 1, 0, 0, 1, 1, 1, 1, 1, 0] (Tryz.f27.body.getD .skip)
theorem infoIntT : (Tryz.prog.info? 3).map (fun i => (i.zero, i.size, i.bytes)) = some (some (.int .i64 0), 1, 8) := infoInt
theorem own_intS {w : World} {B n c : Nat} {A : Option Addr} {L : List Int} (h : w.ownsRow B 3 1 (.slice A n c) n (ints .i64 L)) : L.length = n := by have := h.1; simp [ints] at this; omega
theorem ints_appendI (l m : List Int) : ints .i64 (l ++ m) = ints .i64 l ++ ints .i64 m := by simp [ints]
set_option maxRecDepth 100000 in
set_option maxHeartbeats 2000000 in
theorem tm14_any (s0 s1 s2 s4 s5 s8 s9 s10 s11 s12 s13 s14 s15 s16 s17 s18 s19 s20 s21 s22 s23 s24 s25 s26 s27 s28 s29 s30 s31 s32 s33 s34 s35 s36 s37 s38 s39 s40 s41 s42 s43 s44 s45 s46 s47 s48 s49 s50 s51 s52 s53 s54 s55 s56 s57 s58 s59 s60 s61 s62 s63 s64 s65 s66 s67 s68 s69 s70 s71 s72 s73 s74 s75 s76 s77 s78 s79 : Value) (Q0 : Exit → Act → World → Prop) (L : List Int) (A : Option Addr) (m c r : Nat) (a : Int) (B : Nat) (w : World) (hown : w.ownsRow B 3 1 (.slice A m c) m (ints .i64 L)) (hr : r ≤ m) (hm : m ≤ 100000) (hB : B ≤ w.heap.size)
    (hQ : ∀ (u68 u69 u70 u71 u72 u73 u74 u75 u76 u77 u78 : Value) (A2 : Option Addr) (c2 : Nat) (L2 : List Int) (w2 : World), w2.ownsRow w.heap.size 3 1 (.slice A2 (m + 1) c2) (m + 1) (ints .i64 L2) → Below w.heap.size w w2 → Q0 .normal ⟨#[s0, s1, s2, .slice A2 (m + 1) c2, s4, s5, .int .i64 a, .int .i64 (r : Int), s8, s9, s10, s11, s12, s13, s14, s15, s16, s17, s18, s19, s20, s21, s22, s23, s24, s25, s26, s27, s28, s29, s30, s31, s32, s33, s34, s35, s36, s37, s38, s39, s40, s41, s42, s43, s44, s45, s46, s47, s48, s49, s50, s51, s52, s53, s54, s55, s56, s57, s58, s59, s60, s61, s62, s63, s64, s65, s66, s67, u68, u69, u70, u71, u72, u73, u74, u75, u76, u77, u78, s79], []⟩ w2) :
    Code.wp Tryz.prog tmR14 Q0 ⟨#[s0, s1, s2, .slice A m c, s4, s5, .int .i64 a, .int .i64 (r : Int), s8, s9, s10, s11, s12, s13, s14, s15, s16, s17, s18, s19, s20, s21, s22, s23, s24, s25, s26, s27, s28, s29, s30, s31, s32, s33, s34, s35, s36, s37, s38, s39, s40, s41, s42, s43, s44, s45, s46, s47, s48, s49, s50, s51, s52, s53, s54, s55, s56, s57, s58, s59, s60, s61, s62, s63, s64, s65, s66, s67, s68, s69, s70, s71, s72, s73, s74, s75, s76, s77, s78, s79], []⟩ w := by
  have hL := own_intS hown
  have hR : Rd w.drew w.heap.size 1 A m (ints .i64 L) := rd_of_own hown
  have HQ := Lib.hid hQ
  have hrI : (r : Int) ≤ (m : Int) := by omega
  have h1 : Rd w.drew w.heap.size 1 A r (ints .i64 (L.take r)) := hR.take hr
  have FIN : Hid (∀ (u68 u69 u70 u71 u72 u73 u74 u75 u76 u77 u78 : Value) (A2 : Option Addr) (c2 : Nat) (L2 : List Int) (w2 : World), w2.ownsRow w.drew.heap.size 3 1 (.slice A2 (m + 1) c2) (m + 1) (ints .i64 L2) → Below w.drew.heap.size w.drew w2 → Q0 .normal ⟨#[s0, s1, s2, .slice A2 (m + 1) c2, s4, s5, .int .i64 a, .int .i64 (r : Int), s8, s9, s10, s11, s12, s13, s14, s15, s16, s17, s18, s19, s20, s21, s22, s23, s24, s25, s26, s27, s28, s29, s30, s31, s32, s33, s34, s35, s36, s37, s38, s39, s40, s41, s42, s43, s44, s45, s46, s47, s48, s49, s50, s51, s52, s53, s54, s55, s56, s57, s58, s59, s60, s61, s62, s63, s64, s65, s66, s67, u68, u69, u70, u71, u72, u73, u74, u75, u76, u77, u78, s79], []⟩ w2) := fun u68 u69 u70 u71 u72 u73 u74 u75 u76 u77 u78 A2 c2 L2 w2 k1 k2 => HQ.out u68 u69 u70 u71 u72 u73 u74 u75 u76 u77 u78 A2 c2 L2 w2 k1 ((Below.refl _ w).drew.trans k2)
  refine wp_onEnd ?_
  conv => arg 2; whnf
  conv => arg 4; dsimp only
  have e3 : ints .i64 (L.take r) ++ ([Value.int .i64 a] ++ ints .i64 (L.drop r)) = ints .i64 (L.take r ++ a :: L.drop r) := by simp [ints]
  rcases hown.2 with ⟨hv, hm0⟩ | ⟨g, cap, cur, hv, hBg, hh, hnc, _⟩
  · injection hv with hv1 _ hv3
    subst hv1 hv3 hm0
    obtain rfl : r = 0 := by omega
    have h2 : Rd w.drew w.heap.size 1 none (0 - 0) (ints .i64 (L.drop 0)) := by
      rw [show L = [] from List.eq_nil_of_length_eq_zero hL]; exact Rd.nil_
    obtain ⟨A1, c1, w1, A2, c2, w2, A3, c3, w3, r1, r2, r3, o3, b3, bx⟩ := ins_x (P := Tryz.prog) (W := w.drew) (c := 0) (ct := 0) (cs := [.int .i64 a]) infoIntT Tryz.underlying53 rfl (by omega) (by omega) rfl (ints_one _ _) (by simp [Value.oneCell']) (ints_one _ _) h1 h2 (Nat.le_refl _) (Nat.le_refl _) (by omega)
    obtain ⟨D1, d1, y1, D2, d2, y2, D3, d3, y3, s1, s2, s3, p3, q3⟩ := ins_y (P := Tryz.prog) (W := w.drew) (c := 0) (ct := 0) (cs := [.int .i64 a]) infoIntT Tryz.underlying53 rfl (by omega) (by omega) rfl (ints_one _ _) (by simp [Value.oneCell']) (ints_one _ _) h1 h2 (Nat.le_refl _) (Nat.le_refl _) (by omega)
    rw [e3] at o3 p3
    have R1 := Lib.hid r1; have R2 := Lib.hid r2; have R3 := Lib.hid r3; have S1 := Lib.hid s1; have S2 := Lib.hid s2; have S3 := Lib.hid s3
    have O3 := Lib.hid o3; have B3 := Lib.hid b3; have P3 := Lib.hid p3; have Q3 := Lib.hid q3
    clear r1 r2 r3 s1 s2 s3 o3 b3 p3 q3 bx h1 h2 hR hown hQ e3
    go_region_law (first
      | (refine step_append_run rfl _ (.tmp 70) 53 rfl (.slice none 0 0) (.slice none 0 0) _ w1 rfl (by simp [Act.eval, Act.put]) R1.out ?_)
      | (refine step_append_run rfl (.tmp 71) (.tmp 73) 53 rfl (.slice A1 0 c1) (.slice (some ⟨w1.heap.size, 0, none⟩) 1 1) _ w2 (by simp [Act.eval, Act.put]) (by simp [Act.eval, Act.put]) R2.out ?_)
      | (refine step_append_run rfl (.tmp 74) (.tmp 77) 53 rfl (.slice A2 (0 + 1) c2) (.slice none 0 0) _ w3 (by simp [Act.eval, Act.put]) (by simp [Act.eval, Act.put]) R3.out ?_)
      | (refine step_append_run rfl _ (.tmp 70) 53 rfl (.slice none 0 0) (.slice none 0 0) _ y1 rfl (by simp [Act.eval, Act.put]) S1.out ?_)
      | (refine step_append_run rfl (.tmp 71) (.tmp 73) 53 rfl (.slice D1 0 d1) (.slice (some ⟨w.heap.size, 0, none⟩) 1 1) _ y2 (by simp [Act.eval, Act.put]) (by simp [Act.eval, Act.put]) S2.out ?_)
      | (refine step_append_run rfl (.tmp 74) (.tmp 77) 53 rfl (.slice D2 (0 + 1) d2) (.slice none 0 0) _ y3 (by simp [Act.eval, Act.put]) (by simp [Act.eval, Act.put]) S3.out ?_))
    all_goals go_simp
    all_goals first | exact FIN.out _ _ _ _ _ _ _ _ _ _ _ A3 c3 _ w3 O3.out B3.out | exact FIN.out _ _ _ _ _ _ _ _ _ _ _ D3 d3 _ y3 P3.out Q3.out
  · injection hv with hv1 _ hv3
    subst hv1 hv3
    have hrc : r ≤ c := by omega
    by_cases hcr : c = r
    · subst hcr
      obtain rfl : m = c := by omega
      have h2 : Rd w.drew w.heap.size 1 (some ⟨g, 0, none⟩) (m - m) (ints .i64 (L.drop m)) := by
        rw [show L.drop m = [] from List.drop_eq_nil_of_le (by omega), Nat.sub_self]; exact Rd.nil_
      obtain ⟨A1, c1, w1, A2, c2, w2, A3, c3, w3, r1, r2, r3, o3, b3, bx⟩ := ins_x (P := Tryz.prog) (W := w.drew) (c := m) (ct := 0) (cs := [.int .i64 a]) infoIntT Tryz.underlying53 rfl (by omega) (by omega) rfl (ints_one _ _) (by simp [Value.oneCell']) (ints_one _ _) h1 h2 (Nat.le_refl _) (Nat.le_refl _) (by omega)
      obtain ⟨D1, d1, y1, D2, d2, y2, D3, d3, y3, s1, s2, s3, p3, q3⟩ := ins_y (P := Tryz.prog) (W := w.drew) (c := m) (ct := 0) (cs := [.int .i64 a]) infoIntT Tryz.underlying53 rfl (by omega) (by omega) rfl (ints_one _ _) (by simp [Value.oneCell']) (ints_one _ _) h1 h2 (Nat.le_refl _) (Nat.le_refl _) (by omega)
      rw [e3] at o3 p3
      have R1 := Lib.hid r1; have R2 := Lib.hid r2; have R3 := Lib.hid r3; have S1 := Lib.hid s1; have S2 := Lib.hid s2; have S3 := Lib.hid s3
      have O3 := Lib.hid o3; have B3 := Lib.hid b3; have P3 := Lib.hid p3; have Q3 := Lib.hid q3
      clear r1 r2 r3 s1 s2 s3 o3 b3 p3 q3 bx h1 h2 hR hown hQ e3
      go_region_law (first
        | (refine step_append_run rfl _ (.tmp 70) 53 rfl (.slice none 0 0) (.slice (some ⟨g, 0, none⟩) m m) _ w1 rfl (by simp [Act.eval, Act.put]) R1.out ?_)
        | (refine step_append_run rfl (.tmp 71) (.tmp 73) 53 rfl (.slice A1 m c1) (.slice (some ⟨w1.heap.size, 0, none⟩) 1 1) _ w2 (by simp [Act.eval, Act.put]) (by simp [Act.eval, Act.put]) R2.out ?_)
        | (refine step_append_run rfl (.tmp 74) (.tmp 77) 53 rfl (.slice A2 (m + 1) c2) (.slice (some ⟨g, 0, none⟩) (m - m) 0) _ w3 (by simp [Act.eval, Act.put]) (by simp [Act.eval, Act.put]) R3.out ?_)
        | (refine step_append_run rfl _ (.tmp 70) 53 rfl (.slice none 0 0) (.slice (some ⟨g, 0, none⟩) m m) _ y1 rfl (by simp [Act.eval, Act.put]) S1.out ?_)
        | (refine step_append_run rfl (.tmp 71) (.tmp 73) 53 rfl (.slice D1 m d1) (.slice (some ⟨w.heap.size, 0, none⟩) 1 1) _ y2 (by simp [Act.eval, Act.put]) (by simp [Act.eval, Act.put]) S2.out ?_)
        | (refine step_append_run rfl (.tmp 74) (.tmp 77) 53 rfl (.slice D2 (m + 1) d2) (.slice (some ⟨g, 0, none⟩) (m - m) 0) _ y3 (by simp [Act.eval, Act.put]) (by simp [Act.eval, Act.put]) S3.out ?_))
      all_goals go_simp
      all_goals first | exact FIN.out _ _ _ _ _ _ _ _ _ _ _ A3 c3 _ w3 O3.out B3.out | exact FIN.out _ _ _ _ _ _ _ _ _ _ _ D3 d3 _ y3 P3.out Q3.out
    · have h2 : Rd w.drew w.heap.size 1 (some ⟨g, r, none⟩) (m - r) (ints .i64 (L.drop r)) := by
        by_cases hrm : r < m
        · have := hR.drop hrm
          rwa [Addr.add_lit, Nat.zero_add] at this
        · rw [show L.drop r = [] from List.drop_eq_nil_of_le (by omega), show m - r = 0 by omega]; exact Rd.nil_
      obtain ⟨A1, c1, w1, A2, c2, w2, A3, c3, w3, r1, r2, r3, o3, b3, bx⟩ := ins_x (P := Tryz.prog) (W := w.drew) (c := c) (ct := c - r) (cs := [.int .i64 a]) infoIntT Tryz.underlying53 rfl (by omega) (by omega) rfl (ints_one _ _) (by simp [Value.oneCell']) (ints_one _ _) h1 h2 (Nat.le_refl _) hr (by omega)
      obtain ⟨D1, d1, y1, D2, d2, y2, D3, d3, y3, s1, s2, s3, p3, q3⟩ := ins_y (P := Tryz.prog) (W := w.drew) (c := c) (ct := c - r) (cs := [.int .i64 a]) infoIntT Tryz.underlying53 rfl (by omega) (by omega) rfl (ints_one _ _) (by simp [Value.oneCell']) (ints_one _ _) h1 h2 (Nat.le_refl _) hr (by omega)
      rw [e3] at o3 p3
      have R1 := Lib.hid r1; have R2 := Lib.hid r2; have R3 := Lib.hid r3; have S1 := Lib.hid s1; have S2 := Lib.hid s2; have S3 := Lib.hid s3
      have O3 := Lib.hid o3; have B3 := Lib.hid b3; have P3 := Lib.hid p3; have Q3 := Lib.hid q3
      clear r1 r2 r3 s1 s2 s3 o3 b3 p3 q3 bx h1 h2 hR hown hQ e3
      go_region_law (first
        | (refine step_append_run rfl _ (.tmp 70) 53 rfl (.slice none 0 0) (.slice (some ⟨g, 0, none⟩) r c) _ w1 rfl (by simp [Act.eval, Act.put]) R1.out ?_)
        | (refine step_append_run rfl (.tmp 71) (.tmp 73) 53 rfl (.slice A1 r c1) (.slice (some ⟨w1.heap.size, 0, none⟩) 1 1) _ w2 (by simp [Act.eval, Act.put]) (by simp [Act.eval, Act.put]) R2.out ?_)
        | (refine step_append_run rfl (.tmp 74) (.tmp 77) 53 rfl (.slice A2 (r + 1) c2) (.slice (some ⟨g, r, none⟩) (m - r) (c - r)) _ w3 (by simp [Act.eval, Act.put]) (by simp [Act.eval, Act.put]) R3.out ?_)
        | (refine step_append_run rfl _ (.tmp 70) 53 rfl (.slice none 0 0) (.slice (some ⟨g, 0, none⟩) r c) _ y1 rfl (by simp [Act.eval, Act.put]) S1.out ?_)
        | (refine step_append_run rfl (.tmp 71) (.tmp 73) 53 rfl (.slice D1 r d1) (.slice (some ⟨w.heap.size, 0, none⟩) 1 1) _ y2 (by simp [Act.eval, Act.put]) (by simp [Act.eval, Act.put]) S2.out ?_)
        | (refine step_append_run rfl (.tmp 74) (.tmp 77) 53 rfl (.slice D2 (r + 1) d2) (.slice (some ⟨g, r, none⟩) (m - r) (c - r)) _ y3 (by simp [Act.eval, Act.put]) (by simp [Act.eval, Act.put]) S3.out ?_))
      all_goals go_simp
      all_goals first | exact FIN.out _ _ _ _ _ _ _ _ _ _ _ A3 c3 _ w3 O3.out B3.out | exact FIN.out _ _ _ _ _ _ _ _ _ _ _ D3 d3 _ y3 P3.out Q3.out

/-- Is a sum of the journal's too great? -/
def badJ (M : List Jrn) (j : Jrn) (x : Lin) : Bool := !fits1 (sumM x.acct j.ent M)
def seenT (M : List Jrn) (k : Nat) : Bool := (M.take k).any fun j => j.lines.any (badJ M j)
theorem seenT_all (M : List Jrn) : seenT M M.length = tooJ M := by unfold seenT tooJ; rw [List.take_length]; rfl
theorem seenT_step {M : List Jrn} {k : Nat} {j : Jrn} (h : M[k]? = some j) : seenT M (k + 1) = (seenT M k || j.lines.any (badJ M j)) := by
  obtain ⟨hk, rfl⟩ := List.getElem?_eq_some_iff.1 h
  unfold seenT
  rw [List.take_succ_eq_append_getElem hk, List.any_append]
  simp
theorem anyT_step {p : Lin → Bool} {L : List Lin} {q : Nat} {x : Lin} (h : L[q]? = some x) : (L.take (q + 1)).any p = ((L.take q).any p || p x) := by
  obtain ⟨hk, rfl⟩ := List.getElem?_eq_some_iff.1 h
  rw [List.take_succ_eq_append_getElem hk, List.any_append]
  simp
/-- While they are looked through: the list has something as soon as one was too great. -/
def OutSt (w0 : World) (b : Bool) (most : Nat) (ov : Value) (w : World) : Prop := ∃ m L, w.ownsRow w0.heap.size 3 1 ov m (ints .i64 L) ∧ m ≤ most ∧ (0 < m ↔ b = true) ∧ Below w0.heap.size w0 w
theorem OutSt.more {w0 w : World} {b : Bool} {k n : Nat} {ov : Value} (h : OutSt w0 b k ov w) (hk : k ≤ n) : OutSt w0 b n ov w := by
  obtain ⟨m, L, h1, h2, h3, h4⟩ := h
  exact ⟨m, L, h1, by omega, h3, h4⟩
set_option maxRecDepth 100000 in
set_option maxHeartbeats 8000000 in
theorem refTooMuch_any (l : List JR) (A : Option Addr) (n c B : Nat) (w : World) (h : JlRd w B A n l) (hB : B ≤ w.heap.size) (hok : ∀ b ∈ l, checkE b.j = 0) (hn : n ≤ 250) :
    Calls Tryz.prog 27 #[.slice A n c] w fun r w' => (∃ A2 m c2, r = .returned (.slice A2 m c2) ∧ (0 < m ↔ tooJ (l.map JR.j) = true) ∧ m ≤ 1000000) ∧ Below w.heap.size w w' := by
  have HL := Lib.hid h.rd.jrs_len
  have HJ : Hid (∀ W, Below w.heap.size w W → JlRd W B A n l) := fun W hb => h.far hb hB
  have HOK := Lib.hid hok
  clear h hok
  go_enter Tryz.func27, Tryz.ntmps27
  go_wp2_with fail
  go_loopw [4, 3, 5, 6, 7] (fun iv ov _ _ _ wr => ∃ k : Nat, k ≤ n ∧ iv = .int .i64 k ∧ OutSt w (seenT (l.map JR.j) k) (8 * k) ov wr) (fun iv _ _ _ _ _ => n - (intOf iv).toNat)
  case atStart => exact ⟨0, Nat.zero_le _, rfl, 0, [], World.ownsRow_nil _ _ _ _, Nat.zero_le _, by simp [seenT], Below.refl _ _⟩
  case round =>
    obtain ⟨k, hk, rfl, HO⟩ := hrel
    by_cases hlt : k < n
    · have hkn : (k : Int) < (n : Int) := by omega
      obtain ⟨m0, L0, ho0, hm0, hb0, hbel0⟩ := HO
      obtain ⟨ad, b, rfl, hb1, hx, p1, p2, p3, p4, p5, p6⟩ := (HJ.out wr hbel0).rd.jr hlt
      have hmem := List.mem_of_getElem? hx
      have hgx : (l.map JR.j)[k]? = some b.j := by rw [List.getElem?_map, hx]; rfl
      obtain ⟨_, hn8, _, _⟩ := checkE_fits (HOK.out b hmem)
      have HST : Hid (seenT (l.map JR.j) (k + 1) = (seenT (l.map JR.j) k || b.j.lines.any (badJ (l.map JR.j) b.j))) := seenT_step hgx
      have HX := Lib.hid hx; have HMEM := Lib.hid hmem
      have HO : Hid (OutSt w (seenT (l.map JR.j) k) (8 * k) u3 wr) := ⟨m0, L0, ho0, hm0, hb0, hbel0⟩
      obtain ⟨m, hm⟩ : ∃ m, b.j.lines.length = m := ⟨_, rfl⟩
      rw [hm] at p5 hn8
      have HM := Lib.hid hm
      clear hx hmem hgx ho0 hb0 hm0 hm hbel0
      go_wp2_with fail
      go_loopw [5, 3, 6, 7] (fun jv ov _ _ wr2 => ∃ q : Nat, q ≤ m ∧ jv = .int .i64 q ∧ OutSt w (seenT (l.map JR.j) k || (b.j.lines.take q).any (badJ (l.map JR.j) b.j)) (8 * k + q) ov wr2) (fun jv _ _ _ _ => m - (intOf jv).toNat)
      case atStart => exact ⟨0, Nat.zero_le _, rfl, by simpa using HO.out⟩
      case round =>
        obtain ⟨q, hq, rfl, m1, L1, ho1, hm1, hb1', hbel1⟩ := hrel
        clear p1 p2 p3 p4 p5 p6
        obtain ⟨ad', b', had, _, hx', p1, p2, p3, p4, p5, p6⟩ := (HJ.out _ hbel1).rd.jr hlt
        injection had with had
        subst had
        rw [HX.out] at hx'
        injection hx' with hx'
        subst hx'
        rw [HM.out] at p5
        by_cases hqm : q < m
        · have hqI : (q : Int) < (m : Int) := by omega
          have hln := (HJ.out _ hbel1).lines b HMEM.out
          rw [HM.out] at hln
          obtain ⟨ad2, x, hA2, hb2, hxx, q1, q2, q3⟩ := hln.lin hqm
          have KS := Lib.hid (refSum_any l x.acct b.j.ent _ n c B _ (HJ.out _ hbel1) HOK.out hn)
          have HAN := Lib.hid (anyT_step (p := badJ (l.map JR.j) b.j) hxx)
          have HBAD : Hid (badJ (l.map JR.j) b.j x = !fits1 (sumM x.acct b.j.ent (l.map JR.j))) := rfl
          have HBEL := Lib.hid hbel1; have HO1 := Lib.hid ho1; have HB1 := Lib.hid hb1'
          rw [hA2] at p5
          obtain ⟨A1, c1, rfl⟩ := own_form ho1
          clear hbel1 hb1' ho1 hln hxx q2 q3
          generalize hsum : sumM x.acct b.j.ent (l.map JR.j) = sm at *
          clear hsum
          go_wp2_with fail
          refine KS.out.mono ?_
          rintro e w1 ⟨rfl, rfl⟩
          go_wp2_with fail
          refine (refFits_any _ _).mono ?_
          rintro e w1 ⟨rfl, rfl⟩
          cases hfit : fits1 sm with
          | true =>
            have HBF : Hid (badJ (l.map JR.j) b.j x = false) := by rw [Hid, HBAD.out, hfit]; rfl
            clear hfit
            go_wp2_with fail
            exact ⟨⟨q + 1, by omega, by go_num, m1, L1, HO1.out, by omega, by rw [HAN.out, HBF.out, Bool.or_false]; exact HB1.out, HBEL.out⟩, by simp [intOf]; omega⟩
          | false =>
            have HBF : Hid (badJ (l.map JR.j) b.j x = true) := by rw [Hid, HBAD.out, hfit]; rfl
            clear hfit
            clear hA2
            have HOUT : Hid (∀ (A3 : Option Addr) (c3 m3 : Nat) (L3 : List Int) (w3 : World), w3.ownsRow w.heap.size 3 1 (.slice A3 m3 c3) m3 (ints .i64 L3) → 0 < m3 → m3 ≤ m1 + 1 → Below w.heap.size w w3 → OutSt w (seenT (l.map JR.j) k || (b.j.lines.take (q + 1)).any (badJ (l.map JR.j) b.j)) (8 * k + (q + 1)) (.slice A3 m3 c3) w3) := fun A3 c3 m3 L3 w3 k1 k2 k3 k4 => ⟨m3, L3, k1, by omega, by rw [HAN.out, HBF.out]; simp [k2], k4⟩
            clear p1 p2 p3 p4 p5 p6 q1
            go_wp2_with fail
            go_loopw [7] (fun rv wr3 => ∃ r : Nat, r ≤ m1 ∧ rv = .int .i64 r ∧ wr3 = wr) (fun rv _ => m1 - (intOf rv).toNat)
            case atStart => exact ⟨0, Nat.zero_le _, rfl, rfl⟩
            case round =>
              obtain ⟨r, hr, rfl, rfl⟩ := hrel
              by_cases hrm : r < m1
              · have hrI : (r : Int) < (m1 : Int) := by omega
                obtain ⟨g, cap, hv, _, _⟩ := HO1.out.form (by omega)
                injection hv with hv _ hv3
                subst hv hv3
                have hlL := own_intS HO1.out
                have hy : L1[r]? = some L1[r] := List.getElem?_eq_getElem (by omega)
                have hcy := own_cell HO1.out (ints_at (k := .i64) hy)
                generalize L1[r] = y at *
                by_cases hya : y < x.acct
                · clear hy hlL
                  go_wp2_with fail
                  exact ⟨⟨r + 1, by omega, by go_num, by first | rfl | trivial⟩, by simp [intOf]; omega⟩
                · have hrne : ((r : Int) == (m1 : Int)) = false := by simp; omega
                  by_cases hyx : y = x.acct
                  · have t1 : (y != x.acct) = false := by simpa using hyx
                    clear hy hlL hyx
                    go_wp2_with fail
                    exact ⟨⟨q + 1, by omega, by go_num, HOUT.out _ _ m1 L1 _ HO1.out (by omega) (by omega) HBEL.out⟩, by simp [intOf]; omega⟩
                  · have t1 : (y != x.acct) = true := by simpa using hyx
                    clear hy hlL hyx
                    go_wp2_with fail
                    refine tm14_any _ _ _ _ _ _ _ _ _ _ _ _ _ _ _ _ _ _ _ _ _ _ _ _ _ _ _ _ _ _ _ _ _ _ _ _ _ _ _ _ _ _ _ _ _ _ _ _ _ _ _ _ _ _ _ _ _ _ _ _ _ _ _ _ _ _ _ _ _ _ _ _ _ _ _ _ _ _ L1 _ _ c1 r x.acct _ _ HO1.out (by omega) (by omega) HBEL.out.size ?_
                    intro u68 u69 u70 u71 u72 u73 u74 u75 u76 u77 u78 A3 c3 L3 w3 ho3 hb3
                    have HO3 := Lib.hid (HOUT.out A3 c3 _ L3 w3 (own_base ho3 HBEL.out.size) (by omega) (Nat.le_refl _) (HBEL.out.trans (hb3.mono HBEL.out.size)))
                    clear ho3 hb3
                    go_simp
                    go_at_K
                    go_wp2_with fail
                    exact ⟨⟨q + 1, by omega, by go_num, HO3.out⟩, by simp [intOf]; omega⟩
              · obtain rfl : r = m1 := by omega
                go_wp2_with fail
                refine tm14_any _ _ _ _ _ _ _ _ _ _ _ _ _ _ _ _ _ _ _ _ _ _ _ _ _ _ _ _ _ _ _ _ _ _ _ _ _ _ _ _ _ _ _ _ _ _ _ _ _ _ _ _ _ _ _ _ _ _ _ _ _ _ _ _ _ _ _ _ _ _ _ _ _ _ _ _ _ _ L1 _ _ c1 r x.acct _ _ HO1.out (by omega) (by omega) HBEL.out.size ?_
                intro u68 u69 u70 u71 u72 u73 u74 u75 u76 u77 u78 A3 c3 L3 w3 ho3 hb3
                have HO3 := Lib.hid (HOUT.out A3 c3 _ L3 w3 (own_base ho3 HBEL.out.size) (by omega) (Nat.le_refl _) (HBEL.out.trans (hb3.mono HBEL.out.size)))
                clear ho3 hb3
                go_simp
                go_at_K
                go_wp2_with fail
                exact ⟨⟨q + 1, by omega, by go_num, HO3.out⟩, by simp [intOf]; omega⟩
        · obtain rfl : q = m := by omega
          have hb2' : 0 < m1 ↔ seenT (l.map JR.j) (k + 1) = true := by
            rw [HST.out, ← List.take_of_length_le (l := b.j.lines) (Nat.le_of_eq HM.out)]
            exact hb1'
          have HO1 := Lib.hid ho1; have HB2 := Lib.hid hb2'; have HBEL := Lib.hid hbel1
          clear ho1 hb2' hb1' hbel1
          go_wp2_with fail
          exact ⟨⟨k + 1, by omega, by go_num, m1, L1, HO1.out, by omega, HB2.out, HBEL.out⟩, by simp [intOf]; omega⟩
    · obtain rfl : k = n := by omega
      obtain ⟨m0, L0, ho0, hm0, hb0, hbel0⟩ := HO
      obtain ⟨A2, c2, rfl⟩ := own_form ho0
      have HT : Hid (0 < m0 ↔ tooJ (l.map JR.j) = true) := by rw [← seenT_all, List.length_map, HL.out]; exact hb0
      have HB := Lib.hid hbel0
      clear hb0 hbel0 ho0
      go_wp2_with fail
      go_ret
      exact ⟨⟨_, _, _, rfl, HT.out, by omega⟩, HB.out⟩
set_option maxRecDepth 100000 in
set_option maxHeartbeats 400000 in
theorem refMoney_any (l : List JR) (A : Option Addr) (n c B : Nat) (w : World) (h : JlRd w B A n l) (hB : B ≤ w.heap.size) (hok : ∀ b ∈ l, checkE b.j = 0) (hn : n ≤ 250) :
    Calls Tryz.prog 80 #[.slice A n c] w fun r w' => r = .returned (.int .i64 (moneyE (l.map JR.j))) ∧ Below w.heap.size w w' := by
  have K := Lib.hid (refTooMuch_any l A n c B w h hB hok hn)
  clear h hok
  go_enter Tryz.func80, Tryz.ntmps80
  go_wp2_with fail
  refine K.out.mono ?_
  rintro e w1 ⟨⟨A2, m, c2, rfl, hm, hm2⟩, hb⟩
  have HB := Lib.hid hb
  by_cases h0 : 0 < m
  · have hI : (m : Int) > 0 := by omega
    have HE : Hid (moneyE (l.map JR.j) = 2) := by unfold moneyE; rw [Hid, if_pos (hm.1 h0)]
    clear hm hb
    go_wp2_with fail
    go_ret
    exact ⟨by rw [HE.out]; rfl, HB.out⟩
  · have hI : ¬ (m : Int) > 0 := by omega
    have HE : Hid (moneyE (l.map JR.j) = 0) := by unfold moneyE; rw [Hid, if_neg (fun h => h0 (hm.2 h))]
    clear hm hb
    go_wp2_with fail
    go_ret
    exact ⟨by rw [HE.out]; rfl, HB.out⟩
end Go.Proofs.YtmgncoialppmpaaGreat
