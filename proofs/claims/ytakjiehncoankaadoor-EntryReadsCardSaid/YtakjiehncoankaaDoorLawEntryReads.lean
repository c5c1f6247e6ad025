/-
  The walk of the statement EntryReads.
-/
-- HOLE3: obtain ⟨j1, A1, n1, c1, rfl, q1, r1, s1⟩ := argJrn hf1
-- exact entryReads_walk a0 j1 A1 n1 c1 W G q1.rd q1.len s1 r1
import Derived.Test.YtakjiehncoankaaDoorRefParseAll
import Derived.Test.YtakjiehncoankaaDoorEntrySmall
import Derived.Test.YtakjiehncoankaaDoorEntryAlive
import Derived.Test.YtakjiehncoankaaDoorEntrySame
import Derived.Test.YtakjiehncoankaaDoorArgJrn
namespace Go.Proofs.YtakjiehncoankaaDoor
open Go.RowKit Go.Sort

theorem parts_full {j : Jrn} (h : checkE j = 0) : ∀ p ∈ partsJ j, p ≠ [] := by
  intro p hp
  unfold partsJ at hp
  rcases List.mem_append.1 hp with hp | hp
  · simp only [List.mem_cons, List.not_mem_nil, or_false] at hp
    rcases hp with rfl | rfl | rfl | rfl | rfl
    · exact itoa_ne _
    · exact itoa_ne _
    · have := textB_len (checkE_per h)
      intro e; rw [e] at this; cases this
    · unfold refT; split
      · simp
      · assumption
    · unfold stateT; split <;> simp
  · obtain ⟨x, _, rfl⟩ := List.mem_map.1 hp
    unfold lineT
    intro e
    have := congrArg List.length e
    simp at this
theorem parse_behind {j : Jrn} (h : checkE j = 0) : parseJ (textJ j ++ [32]) = none := by
  cases hq : parseJ (textJ j ++ [32]) with
  | none => rfl
  | some j' =>
    exfalso
    have h1 := star_parts hq
    have e : textJ j ++ [32] = Lib.join (partsJ j ++ [[]]) [32] := by
      rw [join_snoc _ _ _ (by simp [partsJ])]
      simp [textJ]
    rw [e, split_join 32 _ (by simp) (by
      intro p hp
      rcases List.mem_append.1 hp with hp | hp
      · exact parts_free h p hp
      · simp at hp; subst hp; simp)] at h1
    exact parts_full (parseJ_is hq).1 [] (by rw [← h1]; simp) rfl

noncomputable def erTail : Code := subCode [1, 1, 1, 1, 1] (Tryd.f3.body.getD .skip)

set_option maxRecDepth 100000 in
set_option maxHeartbeats 8000000 in
theorem erTail_any (s0 s1 s2 s4 s5 s6 s7 s8 s9 s10 s11 s12 s13 s14 s15 s16 s17 s18 s19 s20 s21 s22 s23 s24 s25 s26 s27 s28 s29 s30 s31 s32 s33 s34 s35 s36 s37 s38 s39 s40 s41 s42 s43 s44 s45 s46 s47 s48 s49 s50 s51 s52 s53 s54 s55 s56 s57 s58 s59 s60 s61 s62 s63 s64 s65 s66 s67 s68 s69 s70 s71 s72 s73 s74 s75 s76 s77 s78 s79 s80 s81 s82 s83 s84 s85 s86 s87 s88 s89 s90 s91 s92 s93 s94 : Value) (j : Jrn) (A : Option Addr) (n c jb B : Nat) (w wr : World) (G : Glob wr) (hBel : Below w.heap.size w wr) (hJ : JAt wr jb j A n c) (hR : Rd wr B 3 A n (lins j.lines)) (hB : B ≤ wr.heap.size) (hn : n ≤ 30) (hs : j.ref.size ≤ 60) (h64 : j.ok64) :
    Code.wp Tryd.prog erTail (bodyPost Tryd.prog Tryd.f3 fun e w' => e = .returned (.bool true) ∧ Below w.heap.size w w') ⟨#[s0, s1, s2, .pointer (some ⟨jb, 0, none⟩), s4, s5, s6, s7, s8, s9, s10, s11, s12, s13, s14, s15, s16, s17, s18, s19, s20, s21, s22, s23, s24, s25, s26, s27, s28, s29, s30, s31, s32, s33, s34, s35, s36, s37, s38, s39, s40, s41, s42, s43, s44, s45, s46, s47, s48, s49, s50, s51, s52, s53, s54, s55, s56, s57, s58, s59, s60, s61, s62, s63, s64, s65, s66, s67, s68, s69, s70, s71, s72, s73, s74, s75, s76, s77, s78, s79, s80, s81, s82, s83, s84, s85, s86, s87, s88, s89, s90, s91, s92, s93, s94], []⟩ wr := by
  have hz := hBel.size
  have HB := Lib.hid hBel; have HJ := Lib.hid hJ; have HR := Lib.hid hR; have HG := Lib.hid G
  have kt := Lib.hid (entryText_any j A n c B wr G hR hB (by unfold maxLen; omega) (by unfold maxLen; omega) h64)
  have HL := Lib.hid hR.lins_len
  obtain ⟨z0, z1, z2, z3, z4, z5⟩ := six_cells hJ
  clear hBel hJ hR G
  unfold Jrn.val at kt
  conv => arg 2; whnf
  conv => arg 4; dsimp only
  by_cases hE : checkE j = 0
  rotate_left
  · rw [if_neg hE] at kt
    have t1 : (checkE j != 0) = true := by simpa using hE
    generalize checkE j = E at *
    go_wp2_with fail
    refine kt.out.mono ?_
    rintro e w1 ⟨rfl, hb1⟩
    have HB1 : Hid (Below w.heap.size w w1) := HB.out.trans (hb1.mono hz)
    clear hb1
    go_wp2_with fail
    go_ret
    exact ⟨rfl, HB1.out⟩
  · rw [if_pos hE, hE] at kt
    have hlen : (textJ j).length ≤ 1000 := by
      have := textTo_le hE j.lines.length
      rw [textTo_end] at this
      omega
    have HP1 := Lib.hid (parseJ_of hE rfl)
    have HP2 := Lib.hid (parse_behind hE)
    have hcat : bs (textJ j) ++ (⟨#[32]⟩ : ByteArray) = bs (textJ j ++ [32]) := bs_append (textJ j) [32]
    have kp := Lib.hid (fun w1 (hb : Below wr.heap.size wr w1) => entryParse_any (textJ j) w1 (HG.out.below hb) (by omega))
    have kp2 := Lib.hid (fun w1 (hb : Below wr.heap.size wr w1) => entryParse_any (textJ j ++ [32]) w1 (HG.out.below hb) (by simp; omega))
    have hsz := bs_size (textJ j)
    have n1 : ¬ 9223372036854775807 < (bs (textJ j)).size + 1 := by rw [hsz]; omega
    generalize textJ j ++ [32] = T2 at *
    generalize textJ j = T at *
    clear hE
    go_wp2_with fail
    refine kt.out.mono ?_
    rintro e w1 ⟨rfl, hb1⟩
    have HB1 := Lib.hid hb1
    have hz1 := hb1.size
    clear hb1 z0 z1 z2 z3 z4 z5 kt
    go_wp2_with fail
    refine (kp.out w1 HB1.out).mono ?_
    intro e w2 hpe
    unfold ParseEnd at hpe
    rw [HP1.out] at hpe
    obtain ⟨⟨A2, c2, rfl, ho2⟩, hb2⟩ := hpe
    have HB2 : Hid (Below wr.heap.size wr w2) := HB1.out.trans (hb2.mono hz1)
    have HO2 := Lib.hid ho2
    have hz2 := HB2.out.size
    clear ho2 hb2
    unfold Jrn.val
    obtain ⟨W3, hW3⟩ : ∃ W3, w2.alloc (.cells #[.int .i64 j.id, .int .i64 j.ent, .int .i64 j.per, .string j.ref, .slice A2 j.lines.length c2, .bool j.void] 24) = W3 := ⟨_, rfl⟩
    have HB3 : Hid (Below wr.heap.size wr W3) := by rw [← hW3]; exact HB2.out.alloc hz2 _
    have HJ3 : Hid (JAt W3 w2.heap.size j A2 j.lines.length c2) := by rw [← hW3]; exact heap_new w2 _
    have HO3 : Hid (W3.ownsRow w1.heap.size 39 3 (.slice A2 j.lines.length c2) j.lines.length (lins j.lines)) := by rw [← hW3]; exact own_kept HO2.out fun q hq _ => Below.heap_alloc _ _ _ hq
    have HW3 := Lib.hid hW3
    clear hW3
    go_wp2_with fail
    rw [HW3.out]
    refine (kp2.out W3 HB3.out).mono ?_
    intro e w4 hpe
    unfold ParseEnd at hpe
    rw [HP2.out] at hpe
    obtain ⟨rfl, hb4⟩ := hpe
    have HB4 : Hid (Below wr.heap.size wr w4) := HB3.out.trans (hb4.mono HB3.out.size)
    have hz4 := HB4.out.size
    obtain ⟨W5, hW5⟩ : ∃ W5, w4.alloc (.cells #[.int .i64 0, .int .i64 0, .int .i64 0, .string ⟨#[]⟩, .slice none 0 0, .bool false] 24) = W5 := ⟨_, rfl⟩
    have hb45 : Below w4.heap.size w4 W5 := by rw [← hW5]; exact (Below.refl _ _).alloc (Nat.le_refl _) _
    have hb35 : Below W3.heap.size W3 W5 := hb4.trans (hb45.mono hb4.size)
    have HB5 : Hid (Below wr.heap.size wr W5) := HB4.out.trans (hb45.mono hz4)
    have hz5 := HB5.out.size
    have hj5 : JAt w4 jb j A n c := (HB4.out.block _ (lt_of_blk HJ.out)).trans HJ.out
    have hc5 : JAt w4 w2.heap.size j A2 j.lines.length c2 := (hb4.block _ (lt_of_blk HJ3.out)).trans HJ3.out
    have hjl := lt_of_blk hj5
    have hcl := lt_of_blk hc5
    obtain ⟨z0, z1, z2, z3, z4, z5⟩ := six_cells hj5
    obtain ⟨y0, y1, y2, y3, y4, y5⟩ := six_cells hc5
    have ho5 : W5.ownsRow w1.heap.size 39 3 (.slice A2 j.lines.length c2) j.lines.length (lins j.lines) := own_kept HO3.out fun q hq _ => hb35.block q hq
    have ks := Lib.hid (refSame_any j j A2 A j.lines.length n c2 c W5.heap.size B W5 (rd_of_own ho5) (HR.out.below (HB5.out.mono hB)) (Nat.le_refl _) (by omega) (by have := HL.out; unfold maxLen; omega) (by unfold maxLen; omega))
    rw [sameJ_self] at ks
    unfold Jrn.val at ks
    have HW5 := Lib.hid hW5
    unfold Jrn.val zeroJ
    dsimp only
    clear hW5 hb45 hb35 hb4 hj5 hc5 ho5 kp kp2
    go_wp2_with fail
    rw [HW5.out]
    refine ks.out.mono ?_
    rintro e w6 ⟨rfl, hb6⟩
    have HB6 : Hid (Below w.heap.size w w6) := HB.out.trans ((HB5.out.trans (hb6.mono hz5)).mono hz)
    clear hb6
    go_wp2_with fail
    go_ret
    exact ⟨rfl, HB6.out⟩

noncomputable def erMid : Code := subCode [1, 1] (Tryd.f3.body.getD .skip)
noncomputable def erR3 : Code := subCode [1, 1, 0] (Tryd.f3.body.getD .skip)
noncomputable def erR4 : Code := subCode [1, 1, 1, 0] (Tryd.f3.body.getD .skip)
noncomputable def erR5 : Code := subCode [1, 1, 1, 1, 0] (Tryd.f3.body.getD .skip)

set_option maxRecDepth 100000 in
set_option maxHeartbeats 8000000 in
theorem erMid_any (s1 s2 s4 s5 s6 s7 s8 s9 s10 s11 s12 s13 s14 s15 s16 s17 s18 s19 s20 s21 s22 s23 s24 s25 s26 s27 s28 s29 s30 s31 s32 s33 s34 s35 s36 s37 s38 s39 s40 s41 s42 s43 s44 s45 s46 s47 s48 s49 s50 s51 s52 s53 s54 s55 s56 s57 s58 s59 s60 s61 s62 s63 s64 s65 s66 s67 s68 s69 s70 s71 s72 s73 s74 s75 s76 s77 s78 s79 s80 s81 s82 s83 s84 s85 s86 s87 s88 s89 s90 s91 s92 s93 s94 : Value) (S : List UInt8) (j : Jrn) (A : Option Addr) (n c jb B : Nat) (w wr : World) (G : Glob wr) (hS : S.length ≤ 400) (hBel : Below w.heap.size w wr) (hJ : JAt wr jb j A n c) (hR : Rd wr B 3 A n (lins j.lines)) (hB : B ≤ wr.heap.size) (hn : n ≤ 30) (hs : j.ref.size ≤ 60) (h64 : j.ok64) :
    Code.wp Tryd.prog erMid (bodyPost Tryd.prog Tryd.f3 fun e w' => e = .returned (.bool true) ∧ Below w.heap.size w w') ⟨#[.string (bs S), s1, s2, .pointer (some ⟨jb, 0, none⟩), s4, s5, s6, s7, s8, s9, s10, s11, s12, s13, s14, s15, s16, s17, s18, s19, s20, s21, s22, s23, s24, s25, s26, s27, s28, s29, s30, s31, s32, s33, s34, s35, s36, s37, s38, s39, s40, s41, s42, s43, s44, s45, s46, s47, s48, s49, s50, s51, s52, s53, s54, s55, s56, s57, s58, s59, s60, s61, s62, s63, s64, s65, s66, s67, s68, s69, s70, s71, s72, s73, s74, s75, s76, s77, s78, s79, s80, s81, s82, s83, s84, s85, s86, s87, s88, s89, s90, s91, s92, s93, s94], []⟩ wr := by
  have hz := hBel.size
  have FIN : Hid (∀ (u0 u1 u2 u4 u5 u6 u7 u8 u9 u10 u11 u12 u13 u14 u15 u16 u17 u18 u19 u20 u21 u22 u23 u24 u25 u26 u27 u28 u29 u30 u31 u32 u33 u34 u35 u36 u37 u38 u39 u40 u41 u42 u43 u44 u45 u46 u47 u48 u49 u50 u51 u52 u53 u54 u55 u56 u57 u58 u59 u60 u61 u62 u63 u64 u65 u66 u67 u68 u69 u70 u71 u72 u73 u74 u75 u76 u77 u78 u79 u80 u81 u82 u83 u84 u85 u86 u87 u88 u89 u90 u91 u92 u93 u94 : Value) (w' : World), Below wr.heap.size wr w' → Code.wp Tryd.prog erTail (bodyPost Tryd.prog Tryd.f3 fun e w' => e = .returned (.bool true) ∧ Below w.heap.size w w') ⟨#[u0, u1, u2, .pointer (some ⟨jb, 0, none⟩), u4, u5, u6, u7, u8, u9, u10, u11, u12, u13, u14, u15, u16, u17, u18, u19, u20, u21, u22, u23, u24, u25, u26, u27, u28, u29, u30, u31, u32, u33, u34, u35, u36, u37, u38, u39, u40, u41, u42, u43, u44, u45, u46, u47, u48, u49, u50, u51, u52, u53, u54, u55, u56, u57, u58, u59, u60, u61, u62, u63, u64, u65, u66, u67, u68, u69, u70, u71, u72, u73, u74, u75, u76, u77, u78, u79, u80, u81, u82, u83, u84, u85, u86, u87, u88, u89, u90, u91, u92, u93, u94], []⟩ w') := by
    intro u0 u1 u2 u4 u5 u6 u7 u8 u9 u10 u11 u12 u13 u14 u15 u16 u17 u18 u19 u20 u21 u22 u23 u24 u25 u26 u27 u28 u29 u30 u31 u32 u33 u34 u35 u36 u37 u38 u39 u40 u41 u42 u43 u44 u45 u46 u47 u48 u49 u50 u51 u52 u53 u54 u55 u56 u57 u58 u59 u60 u61 u62 u63 u64 u65 u66 u67 u68 u69 u70 u71 u72 u73 u74 u75 u76 u77 u78 u79 u80 u81 u82 u83 u84 u85 u86 u87 u88 u89 u90 u91 u92 u93 u94 w' hb
    exact erTail_any _ _ _ _ _ _ _ _ _ _ _ _ _ _ _ _ _ _ _ _ _ _ _ _ _ _ _ _ _ _ _ _ _ _ _ _ _ _ _ _ _ _ _ _ _ _ _ _ _ _ _ _ _ _ _ _ _ _ _ _ _ _ _ _ _ _ _ _ _ _ _ _ _ _ _ _ _ _ _ _ _ _ _ _ _ _ _ _ _ _ _ _ _ _ j A n c jb B w w' (G.below hb) (hBel.trans (hb.mono hz)) ((hb.block _ (lt_of_blk hJ)).trans hJ) (hR.below (hb.mono hB)) (Nat.le_trans hB hb.size) hn hs h64
  have kp := Lib.hid (entryParse_any S wr G (by omega))
  have kr := Lib.hid (fun w1 => refParse_any S w1 (by omega))
  clear hBel hJ hR G h64
  show Code.wp Tryd.prog (Code.seq erR3 (Code.seq erR4 (Code.seq erR5 erTail))) _ _ _
  refine wp_seq ?_
  conv => arg 2; whnf
  conv => arg 4; dsimp only
  cases hp : parseJ S with
  | none =>
    have HP := Lib.hid hp
    clear hp
    go_wp2_with fail
    refine kp.out.mono ?_
    intro e w2 hpe
    unfold ParseEnd at hpe
    rw [HP.out] at hpe
    obtain ⟨rfl, hb2⟩ := hpe
    unfold Jrn.val zeroJ
    dsimp only
    have hz2 := hb2.size
    obtain ⟨W3, hW3⟩ : ∃ W3, w2.alloc (.cells #[.int .i64 0, .int .i64 0, .int .i64 0, .string ⟨#[]⟩, .slice none 0 0, .bool false] 24) = W3 := ⟨_, rfl⟩
    have HB3 : Hid (Below wr.heap.size wr W3) := by rw [← hW3]; exact hb2.alloc hz2 _
    have HJ3 : Hid (JAt W3 w2.heap.size zeroJ none 0 0) := by rw [← hW3]; exact heap_new w2 _
    have HW3 := Lib.hid hW3
    clear hW3 hb2 kp
    go_wp2_with fail
    rw [HW3.out]
    conv => arg 2; whnf
    conv => arg 4; dsimp only
    go_wp2_with fail
    refine (kr.out W3).mono ?_
    intro e w4 hpe
    unfold RefParsed at hpe
    rw [HP.out] at hpe
    obtain ⟨rfl, hb4⟩ := hpe
    have HB4 : Hid (Below wr.heap.size wr w4) := HB3.out.trans (hb4.mono HB3.out.size)
    have hz4 := HB4.out.size
    have hj4 : JAt w4 w2.heap.size zeroJ none 0 0 := (hb4.block _ (lt_of_blk HJ3.out)).trans HJ3.out
    have hjl := lt_of_blk hj4
    obtain ⟨y0, y1, y2, y3, y4, y5⟩ := six_cells hj4
    obtain ⟨W5, hW5⟩ : ∃ W5, w4.alloc (.cells #[.int .i64 0, .int .i64 0, .int .i64 0, .string ⟨#[]⟩, .slice none 0 0, .bool false] 24) = W5 := ⟨_, rfl⟩
    have HB5 : Hid (Below wr.heap.size wr W5) := by rw [← hW5]; exact HB4.out.alloc hz4 _
    have hz5 := HB5.out.size
    have HW5 := Lib.hid hW5
    have ks := Lib.hid (refSame_any zeroJ zeroJ none none 0 0 0 0 0 0 W5 Rd.nil_ Rd.nil_ (Nat.zero_le _) (Nat.zero_le _) (by unfold maxLen; omega) (by unfold maxLen; omega))
    rw [sameJ_self] at ks
    unfold Jrn.val zeroJ at ks
    unfold zeroJ at y0 y1 y2 y3 y5
    dsimp only at y0 y1 y2 y3 y5 ks
    clear hW5 hb4 hj4 kr
    go_wp2_with fail
    conv => arg 2; whnf
    conv => arg 4; dsimp only
    go_wp2_with fail
    rw [HW5.out]
    refine ks.out.mono ?_
    rintro e w6 ⟨rfl, hb6⟩
    have HB6 : Hid (Below wr.heap.size wr w6) := HB5.out.trans (hb6.mono hz5)
    clear hb6
    go_wp2_with fail
    exact FIN.out _ _ _ _ _ _ _ _ _ _ _ _ _ _ _ _ _ _ _ _ _ _ _ _ _ _ _ _ _ _ _ _ _ _ _ _ _ _ _ _ _ _ _ _ _ _ _ _ _ _ _ _ _ _ _ _ _ _ _ _ _ _ _ _ _ _ _ _ _ _ _ _ _ _ _ _ _ _ _ _ _ _ _ _ _ _ _ _ _ _ _ _ _ _ _ HB6.out
  | some k =>
    have HP := Lib.hid hp
    have hk8 := (checkE_len (parseJ_is hp).1).2
    clear hp
    go_wp2_with fail
    refine kp.out.mono ?_
    intro e w2 hpe
    unfold ParseEnd at hpe
    rw [HP.out] at hpe
    obtain ⟨⟨A2, c2, rfl, ho2⟩, hb2⟩ := hpe
    unfold Jrn.val
    have hz2 := hb2.size
    obtain ⟨W3, hW3⟩ : ∃ W3, w2.alloc (.cells #[.int .i64 k.id, .int .i64 k.ent, .int .i64 k.per, .string k.ref, .slice A2 k.lines.length c2, .bool k.void] 24) = W3 := ⟨_, rfl⟩
    have HB3 : Hid (Below wr.heap.size wr W3) := by rw [← hW3]; exact hb2.alloc hz2 _
    have HJ3 : Hid (JAt W3 w2.heap.size k A2 k.lines.length c2) := by rw [← hW3]; exact heap_new w2 _
    have HO3 : Hid (W3.ownsRow wr.heap.size 39 3 (.slice A2 k.lines.length c2) k.lines.length (lins k.lines)) := by rw [← hW3]; exact own_kept ho2 fun q hq _ => Below.heap_alloc _ _ _ hq
    have HW3 := Lib.hid hW3
    clear hW3 hb2 kp ho2
    go_wp2_with fail
    rw [HW3.out]
    conv => arg 2; whnf
    conv => arg 4; dsimp only
    go_wp2_with fail
    refine (kr.out W3).mono ?_
    intro e w4 hpe
    unfold RefParsed at hpe
    rw [HP.out] at hpe
    obtain ⟨⟨A4, c4, rfl, ho4⟩, hb4⟩ := hpe
    have HB4 : Hid (Below wr.heap.size wr w4) := HB3.out.trans (hb4.mono HB3.out.size)
    have hz4 := HB4.out.size
    have hj4 : JAt w4 w2.heap.size k A2 k.lines.length c2 := (hb4.block _ (lt_of_blk HJ3.out)).trans HJ3.out
    have hjl := lt_of_blk hj4
    obtain ⟨y0, y1, y2, y3, y4, y5⟩ := six_cells hj4
    obtain ⟨W5, hW5⟩ : ∃ W5, w4.alloc (.cells #[.int .i64 k.id, .int .i64 k.ent, .int .i64 k.per, .string k.ref, .slice A4 k.lines.length c4, .bool k.void] 24) = W5 := ⟨_, rfl⟩
    have hb45 : Below w4.heap.size w4 W5 := by rw [← hW5]; exact (Below.refl _ _).alloc (Nat.le_refl _) _
    have HB5 : Hid (Below wr.heap.size wr W5) := HB4.out.trans (hb45.mono hz4)
    have hz5 := HB5.out.size
    have HW5 := Lib.hid hW5
    have ho5 : W5.ownsRow wr.heap.size 39 3 (.slice A2 k.lines.length c2) k.lines.length (lins k.lines) := own_kept (own_kept HO3.out fun q hq _ => hb4.block q hq) fun q hq _ => hb45.block q hq
    have ho5' := own_kept ho4 fun q hq _ => hb45.block q hq
    have ks := Lib.hid (refSame_any k k A2 A4 k.lines.length k.lines.length c2 c4 W5.heap.size W5.heap.size W5 (rd_of_own ho5) (rd_of_own ho5') (Nat.le_refl _) (Nat.le_refl _) (by unfold maxLen; omega) (by unfold maxLen; omega))
    rw [sameJ_self] at ks
    unfold Jrn.val at ks
    clear hW5 hb4 hj4 kr ho4 ho5 ho5' hb45
    go_wp2_with fail
    conv => arg 2; whnf
    conv => arg 4; dsimp only
    go_wp2_with fail
    rw [HW5.out]
    refine ks.out.mono ?_
    rintro e w6 ⟨rfl, hb6⟩
    have HB6 : Hid (Below wr.heap.size wr w6) := HB5.out.trans (hb6.mono hz5)
    clear hb6
    go_wp2_with fail
    exact FIN.out _ _ _ _ _ _ _ _ _ _ _ _ _ _ _ _ _ _ _ _ _ _ _ _ _ _ _ _ _ _ _ _ _ _ _ _ _ _ _ _ _ _ _ _ _ _ _ _ _ _ _ _ _ _ _ _ _ _ _ _ _ _ _ _ _ _ _ _ _ _ _ _ _ _ _ _ _ _ _ _ _ _ _ _ _ _ _ _ _ _ _ _ _ _ _ HB6.out

noncomputable def erR0 : Code := subCode [0] (Tryd.f3.body.getD .skip)
noncomputable def er1 : Code := subCode [1, 0] (Tryd.f3.body.getD .skip)

set_option maxRecDepth 100000 in
set_option maxHeartbeats 8000000 in
theorem entryReads_walk (s : ByteArray) (j : Jrn) (A : Option Addr) (n c : Nat) (w : World) (G : Glob w) (h : Rd w w.heap.size 3 A n (lins j.lines)) (_hn : n ≤ maxLen) (_hs : j.ref.size ≤ maxLen) (h64 : j.ok64) :
    Calls Tryd.prog 3 #[.string s, j.val A n c] w fun e w' => e = .returned (.bool true) ∧ Below w.heap.size w w' := by
  obtain ⟨S, rfl⟩ : ∃ S, s = bs S := ⟨s.data.toList, (bs_back s).symm⟩
  have hSS := bs_size S
  obtain ⟨W1, hW1⟩ : ∃ W1, w.alloc (.cells #[.int .i64 j.id, .int .i64 j.ent, .int .i64 j.per, .string j.ref, .slice A n c, .bool j.void] 24) = W1 := ⟨_, rfl⟩
  have hb1 : Below w.heap.size w W1 := by rw [← hW1]; exact (Below.refl _ _).alloc (Nat.le_refl _) _
  by_cases hlong : 400 < S.length
  · have hlI : (400 : Int) < (S.length : Int) := by omega
    have ka := Lib.hid (alive_any W1 (G.below hb1))
    have HB1 := Lib.hid hb1
    have HW1 := Lib.hid hW1
    clear hW1 hb1 h G
    unfold Jrn.val
    go_enter Tryd.func3, Tryd.ntmps3
    go_wp2_with fail
    rw [HW1.out]
    refine ka.out.mono ?_
    rintro e w2 ⟨rfl, hb2⟩
    have HB2 : Hid (Below w.heap.size w w2) := HB1.out.trans (hb2.mono HB1.out.size)
    clear hb2
    go_wp2_with fail
    go_ret
    exact ⟨rfl, HB2.out⟩
  have hlI : ¬ (400 : Int) < (S.length : Int) := by omega
  obtain ⟨W2, hW2⟩ : ∃ W2, W1.alloc (.cells #[.int .i64 j.id, .int .i64 j.ent, .int .i64 j.per, .string j.ref, .slice A n c, .bool j.void] 24) = W2 := ⟨_, rfl⟩
  have hb2 : Below w.heap.size w W2 := by rw [← hW2]; exact hb1.alloc hb1.size _
  have hjb : JAt W2 w.heap.size j A n c := by
    rw [← hW2, ← hW1]
    exact (Below.heap_alloc _ _ _ (by simp)).trans (heap_new w _)
  have ks := small_two j A n c w (.cells #[.int .i64 j.id, .int .i64 j.ent, .int .i64 j.per, .string j.ref, .slice A n c, .bool j.void] 24) _ rfl
  rw [hW1, hW2] at ks
  have KS := Lib.hid ks
  have ka := Lib.hid (fun w1 (hb : Below W2.heap.size W2 w1) => alive_any w1 ((G.below hb2).below hb))
  have HB2 := Lib.hid hb2
  have HJB := Lib.hid hjb
  have HW2 : Hid ((w.alloc (.cells #[.int .i64 j.id, .int .i64 j.ent, .int .i64 j.per, .string j.ref, .slice A n c, .bool j.void] 24)).alloc (.cells #[.int .i64 j.id, .int .i64 j.ent, .int .i64 j.per, .string j.ref, .slice A n c, .bool j.void] 24) = W2) := by unfold Hid; rw [hW1]; exact hW2
  cases hsm : smallB j n
  · rw [hsm] at KS
    clear hW2 hW1 hb1 hb2 hjb ks h
    unfold Jrn.val
    go_enter Tryd.func3, Tryd.ntmps3
    go_wp2_with fail
    rw [HW2.out]
    refine KS.out.mono ?_
    rintro e w1 ⟨rfl, rfl⟩
    go_wp2_with fail
    refine (ka.out _ (Below.refl _ _)).mono ?_
    rintro e w2 ⟨rfl, hb3⟩
    have HB3 := Lib.hid hb3
    clear hb3
    go_wp2_with fail
    go_ret
    exact ⟨rfl, HB2.out.trans (HB3.out.mono HB2.out.size)⟩
  rw [hsm] at KS
  obtain ⟨hs60, hn30⟩ : j.ref.size ≤ 60 ∧ n ≤ 30 := by
    unfold smallB at hsm
    rwa [Bool.and_eq_true, decide_eq_true_eq, decide_eq_true_eq] at hsm
  have HRD := Lib.hid (fun w1 (hb : Below W2.heap.size W2 w1) => h.far (hb2.trans (hb.mono hb2.size)) (Nat.le_refl _))
  have HG := Lib.hid (fun w1 (hb : Below W2.heap.size W2 w1) => (G.below hb2).below hb)
  clear hW2 hW1 hb1 hb2 hjb ks h G
  unfold Jrn.val
  go_enter Tryd.func3, Tryd.ntmps3
  show Code.wp Tryd.prog (Code.seq erR0 (Code.seq er1 erMid)) _ _ _
  refine wp_seq ?_
  conv => arg 2; whnf
  conv => arg 4; dsimp only
  go_wp2_with fail
  conv => arg 2; whnf
  conv => arg 4; dsimp only
  go_wp2_with fail
  rw [HW2.out]
  refine KS.out.mono ?_
  rintro e w1 ⟨rfl, rfl⟩
  go_wp2_with fail
  refine (ka.out _ (Below.refl _ _)).mono ?_
  rintro e w2 ⟨rfl, hb3⟩
  have HB3 := Lib.hid hb3
  have hz3 := hb3.size
  have hz2 := HB2.out.size
  clear hb3
  go_wp2_with fail
  exact erMid_any _ _ _ _ _ _ _ _ _ _ _ _ _ _ _ _ _ _ _ _ _ _ _ _ _ _ _ _ _ _ _ _ _ _ _ _ _ _ _ _ _ _ _ _ _ _ _ _ _ _ _ _ _ _ _ _ _ _ _ _ _ _ _ _ _ _ _ _ _ _ _ _ _ _ _ _ _ _ _ _ _ _ _ _ _ _ _ _ _ _ _ _ _ S j A n c w.heap.size w.heap.size w w2 (HG.out _ HB3.out) (by omega) (HB2.out.trans (HB3.out.mono hz2)) ((HB3.out.block _ (lt_of_blk HJB.out)).trans HJB.out) (HRD.out _ HB3.out) (by omega) hn30 hs60 h64
end Go.Proofs.YtakjiehncoankaaDoor
