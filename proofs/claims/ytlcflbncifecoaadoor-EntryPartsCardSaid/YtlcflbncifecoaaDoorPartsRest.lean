/-
  EntryParts: what stands behind its first test.
-/
import Derived.Test.YtlcflbncifecoaaDoorPartsMath
import Derived.Test.YtlcflbncifecoaaDoorCodeSub
import Derived.Test.YtlcflbncifecoaaDoorEntryParse
namespace Go.Proofs.YtlcflbncifecoaaDoor
open Go.RowKit Go.Sort

noncomputable def paR7 : Code := subCode [1, 1, 1, 1, 1, 1] (Tryd.f7.body.getD .skip)
noncomputable def paR6 : Code := subCode [1, 1, 1, 1, 1] (Tryd.f7.body.getD .skip)

set_option maxRecDepth 100000 in
set_option maxHeartbeats 4000000 in
theorem pa7_any (s0 s1 s3 s5 s6 s7 s8 s9 s10 s11 s12 s13 s17 s18 s19 s20 s21 s22 s23 s24 s25 s26 s27 s28 s29 s30 s31 s32 s33 s34 s35 s36 s37 s38 s39 s40 s41 s42 s43 s44 s45 s46 s47 s48 s49 s50 s51 s52 s53 s54 s55 s56 s57 s58 s59 s60 s61 s62 s63 s64 s65 s66 s67 s68 s69 s70 s71 s72 s73 s74 s75 s76 s77 s78 s79 s80 s81 s82 s83 s84 s85 s86 s87 s88 s89 s90 s91 s92 s93 s94 s95 s96 s97 s98 s99 s100 s101 s102 s103 s104 s105 s106 s107 s108 s109 s110 s111 s112 s113 s114 s115 s116 s117 s118 s119 s120 s121 s122 s123 s124 s125 s126 s127 s128 s129 s130 s131 s132 s133 s134 s135 s136 s137 s138 s139 s140 s141 s142 s143 s144 s145 s146 s147 s148 s149 s150 s151 s152 s153 s154 s155 s156 s157 s158 s159 s160 s161 s162 s163 s164 s165 s166 s167 s168 s169 s170 : Value) (X : Jrn) (A : Option Addr) (n c xb B : Nat) (ok0 r14 : Bool) (w w5 : World)
    (hx : JAt w5 xb X A n c) (h : Rd w5 B 3 A n (lins X.lines)) (hB : B ≤ w5.heap.size) (hn : n ≤ 30) (hn2 : 1 ≤ n) (hs : X.ref.size ≤ 60)
    (hfin : checkE X = if (ok0 && refAll X.ref.data.toList && awayL X.ent (X.lines.drop 1)) = true then 0 else 1) (hBel : Below w.heap.size w w5) :
    Code.wp Tryd.prog paR7 (bodyPost Tryd.prog Tryd.f7 fun e w' => e = .returned (.bool true) ∧ Below w.heap.size w w') ⟨#[s0, s1, .int .i64 X.ent, s3, .string X.ref, s5, s6, s7, s8, s9, s10, s11, s12, s13, .bool r14, .pointer (some ⟨xb, 0, none⟩), .bool ok0, s17, s18, s19, s20, s21, s22, s23, s24, s25, s26, s27, s28, s29, s30, s31, s32, s33, s34, s35, s36, s37, s38, s39, s40, s41, s42, s43, s44, s45, s46, s47, s48, s49, s50, s51, s52, s53, s54, s55, s56, s57, s58, s59, s60, s61, s62, s63, s64, s65, s66, s67, s68, s69, s70, s71, s72, s73, s74, s75, s76, s77, s78, s79, s80, s81, s82, s83, s84, s85, s86, s87, s88, s89, s90, s91, s92, s93, s94, s95, s96, s97, s98, s99, s100, s101, s102, s103, s104, s105, s106, s107, s108, s109, s110, s111, s112, s113, s114, s115, s116, s117, s118, s119, s120, s121, s122, s123, s124, s125, s126, s127, s128, s129, s130, s131, s132, s133, s134, s135, s136, s137, s138, s139, s140, s141, s142, s143, s144, s145, s146, s147, s148, s149, s150, s151, s152, s153, s154, s155, s156, s157, s158, s159, s160, s161, s162, s163, s164, s165, s166, s167, s168, s169, s170], []⟩ w5 := by
  have HL := Lib.hid h.lins_len
  have HBEL := Lib.hid hBel
  have HX := Lib.hid hx
  have HF := Lib.hid hfin
  have kc := Lib.hid (check_any X A n c B w5 h hB (by unfold maxLen; omega) (by unfold maxLen; omega))
  have HR := Lib.hid h
  clear hx h hBel hfin
  unfold Jrn.val at *
  obtain ⟨id, ent, per, ref, L, void⟩ := X
  dsimp only at *
  generalize checkE ⟨id, ent, per, ref, L, void⟩ = E at *
  conv => arg 2; whnf
  conv => arg 4; dsimp only
  go_wp2_with fail
  go_loop [17, 16] (fun iv ov => ∃ k : Nat, k ≤ ref.size ∧ iv = .int .i64 k ∧ ov = .bool (ok0 && refAll (ref.data.toList.take k))) (fun iv _ => ref.size - (intOf iv).toNat)
  case atStart => exact ⟨0, Nat.zero_le _, rfl, by simp [refAll]⟩
  case round =>
    obtain ⟨k, hk, rfl, rfl⟩ := hrel
    by_cases hlt : k < ref.size
    · obtain ⟨hl, hg⟩ := at_list ref k hlt
      obtain ⟨b, hb⟩ : ∃ b : UInt8, ref.data.toList[k]? = some b ∧ ref[k] = b := ⟨_, List.getElem?_eq_getElem hl, hg⟩
      have HN : Hid (∀ v : Bool, v = refBI (b.toNat : Int) → (ok0 && refAll (ref.data.toList.take k)) = true → Value.bool v = .bool (ok0 && refAll (ref.data.toList.take (k + 1)))) := fun v hv h1 => by
        rw [refAll_next hb.1, hv, refBI_eq b, ← Bool.and_assoc, h1, Bool.true_and]
      have HN0 : Hid ((ok0 && refAll (ref.data.toList.take k)) = false → Value.bool false = .bool (ok0 && refAll (ref.data.toList.take (k + 1)))) := fun h1 => by
        rw [refAll_next hb.1, ← Bool.and_assoc, h1, Bool.false_and]
      have hi1 : ∀ w, (Instr.index 9 (.string ref) (.int .i64 (k : Int))).run Tryd.prog w = .ok (.int .u8 (b.toNat : Int)) w := fun w => by
        rw [run_index_string w _ _ _ _ Tryd.underlying9, dif_pos (by omega)]
        have e := hb.2
        simp only [Int.toNat_natCast]
        rw [e]
      clear hg hl hb
      cases hfl : (ok0 && refAll (ref.data.toList.take k))
      · have HN1 := Lib.hid (HN0.out hfl)
        clear HN HN0
        go_wp2_with fail
        exact ⟨⟨k + 1, by omega, by go_num, HN1.out⟩, by simp [intOf]; omega⟩
      · have HN1 : Hid (∀ v : Bool, v = refBI (b.toNat : Int) → Value.bool v = .bool (ok0 && refAll (ref.data.toList.take (k + 1)))) := fun v hv => HN.out v hv hfl
        clear HN HN0
        generalize (b.toNat : Int) = x at *
        by_cases d1 : 65 ≤ x
        · by_cases d2 : x ≤ 90
          · go_wp2_with fail
            exact ⟨⟨k + 1, by omega, by go_num, HN1.out _ (by unfold refBI; rw [Bool.eq_iff_iff]; simp; try omega)⟩, by simp [intOf]; omega⟩
          · have d4 : ¬ x ≤ 57 := by omega
            have d3 : 48 ≤ x := by omega
            go_wp2_with fail
            exact ⟨⟨k + 1, by omega, by go_num, HN1.out _ (by unfold refBI; rw [Bool.eq_iff_iff]; simp; try omega)⟩, by simp [intOf]; omega⟩
        · by_cases d3 : 48 ≤ x
          · by_cases d4 : x ≤ 57
            · go_wp2_with fail
              exact ⟨⟨k + 1, by omega, by go_num, HN1.out _ (by unfold refBI; rw [Bool.eq_iff_iff]; simp; try omega)⟩, by simp [intOf]; omega⟩
            · go_wp2_with fail
              exact ⟨⟨k + 1, by omega, by go_num, HN1.out _ (by unfold refBI; rw [Bool.eq_iff_iff]; simp; try omega)⟩, by simp [intOf]; omega⟩
          · go_wp2_with fail
            exact ⟨⟨k + 1, by omega, by go_num, HN1.out _ (by unfold refBI; rw [Bool.eq_iff_iff]; simp; try omega)⟩, by simp [intOf]; omega⟩
    · have hte : ref.data.toList.take k = ref.data.toList := List.take_of_length_le (by rw [Array.length_toList]; exact Nat.le_of_not_lt hlt)
      rw [hte]
      obtain ⟨ok1, hok1⟩ : ∃ ok1, (ok0 && refAll ref.data.toList) = ok1 := ⟨_, rfl⟩
      rw [hok1] at HF ⊢
      clear hte hok1
      obtain ⟨x0, x1, x2, x3, x4, x5⟩ := six_cells HX.out
      go_wp2_with fail
      go_loop [18, 16] (fun iv ov => ∃ k : Nat, 1 ≤ k ∧ k ≤ n ∧ iv = .int .i64 k ∧ ov = .bool (ok1 && awayL ent ((L.take k).drop 1))) (fun iv _ => n - (intOf iv).toNat)
      case atStart => exact ⟨1, Nat.le_refl _, hn2, rfl, by cases L with | nil => simp [awayL] | cons y r => simp [awayL]⟩
      case round =>
        obtain ⟨k2, hk21, hk2, rfl, rfl⟩ := hrel
        by_cases hlt2 : k2 < n
        · obtain ⟨ad, y, rfl, hbk, hy, p1, p2, p3⟩ := HR.out.lin hlt2
          have hkn : (k2 : Int) < (n : Int) := by omega
          have p3' := cell_behind p3 (by omega)
          have HN := Lib.hid (awayL_step (e := ent) hk21 hy)
          clear hy p2 p3
          obtain ⟨y1, y2, y3⟩ := y
          dsimp only at *
          cases hfl : (ok1 && awayL ent ((L.take k2).drop 1))
          · have HN1 : Hid (Value.bool false = .bool (ok1 && awayL ent ((L.take (k2 + 1)).drop 1))) := by unfold Hid; rw [HN.out, ← Bool.and_assoc, hfl, Bool.false_and]
            clear HN
            go_wp2_with fail
            exact ⟨⟨k2 + 1, by omega, by omega, by go_num, HN1.out⟩, by simp [intOf]; omega⟩
          · have HN1 : Hid (∀ v : Bool, v = !(y3 == ent) → Value.bool v = .bool (ok1 && awayL ent ((L.take (k2 + 1)).drop 1))) := fun v hv => by rw [HN.out, ← Bool.and_assoc, hfl, Bool.true_and, hv]
            clear HN
            by_cases hy3 : y3 = ent
            · have t1 : (y3 != ent) = false := by simpa using hy3
              go_wp2_with fail
              exact ⟨⟨k2 + 1, by omega, by omega, by go_num, HN1.out _ (by simp [hy3])⟩, by simp [intOf]; omega⟩
            · have t1 : (y3 != ent) = true := by simpa using hy3
              go_wp2_with fail
              exact ⟨⟨k2 + 1, by omega, by omega, by go_num, HN1.out _ (by simp [hy3])⟩, by simp [intOf]; omega⟩
        · have hte : L.take k2 = L := List.take_of_length_le (by have := HL.out; omega)
          rw [hte]
          obtain ⟨ok2, hok2⟩ : ∃ ok2, (ok1 && awayL ent (L.drop 1)) = ok2 := ⟨_, rfl⟩
          rw [hok2] at HF ⊢
          clear hte hok2
          cases ok2
          · rw [if_neg (by decide)] at HF
            have hE := HF.out
            subst hE
            clear HF
            go_wp2_with fail
            refine kc.out.mono ?_
            rintro e w6 ⟨rfl, hb6⟩
            have HB6 := Lib.hid hb6
            clear hb6 kc
            go_wp2_with fail
            go_ret
            exact ⟨rfl, HBEL.out.trans (HB6.out.mono HBEL.out.size)⟩
          · rw [if_pos rfl] at HF
            have hE := HF.out
            subst hE
            clear HF
            go_wp2_with fail
            refine kc.out.mono ?_
            rintro e w6 ⟨rfl, hb6⟩
            have HB6 := Lib.hid hb6
            clear hb6 kc
            go_wp2_with fail
            go_ret
            exact ⟨rfl, HBEL.out.trans (HB6.out.mono HBEL.out.size)⟩

end Go.Proofs.YtlcflbncifecoaaDoor
