/-
  The walk of the statement EntrySpoilt.
-/
-- HOLE3: obtain ⟨j0, A0, n0, c0, rfl, q0, r0, s0⟩ := argJrn hf0
-- exact entrySpoilt_walk j0 A0 n0 c0 a1 a2 W G q0.rd q0.len s0 r0 (bounds_u8 w2)
import Derived.Test.YtlcflbncifecoaaDoorSpoiltRest2
import Derived.Test.YtlcflbncifecoaaDoorArgJrn
namespace Go.Proofs.YtlcflbncifecoaaDoor
open Go.RowKit Go.Sort

set_option maxRecDepth 100000 in
set_option maxHeartbeats 4000000 in
theorem entrySpoilt_walk (j : Jrn) (A : Option Addr) (n c : Nat) (at_ : Int) (ch : Int) (w : World) (G : Glob w) (h : Rd w w.heap.size 3 A n (lins j.lines)) (hn : n ≤ maxLen) (hs : j.ref.size ≤ maxLen) (h64 : j.ok64) (hch : 0 ≤ ch ∧ ch ≤ 255) :
    Calls Tryd.prog 6 #[j.val A n c, .int .i64 at_, .int .u8 ch] w fun e w' => e = .returned (.bool true) ∧ Below w.heap.size w w' := by
  obtain ⟨W2, hW2⟩ : ∃ W2, (w.alloc (.cells #[.int .i64 j.id, .int .i64 j.ent, .int .i64 j.per, .string j.ref, .slice A n c, .bool j.void] 24)).alloc (.cells #[.int .i64 j.id, .int .i64 j.ent, .int .i64 j.per, .string j.ref, .slice A n c, .bool j.void] 24) = W2 := ⟨_, rfl⟩
  have HW2 := Lib.hid hW2
  have hb2 : Below w.heap.size w W2 := by rw [← hW2]; exact ((Below.refl _ _).alloc (Nat.le_refl _) _).alloc (by simp) _
  have hjb : JAt W2 w.heap.size j A n c := by
    rw [← hW2]
    exact (Below.heap_alloc _ _ _ (by simp)).trans (heap_new w _)
  have ks := small_two j A n c w (.cells #[.int .i64 j.id, .int .i64 j.ent, .int .i64 j.per, .string j.ref, .slice A n c, .bool j.void] 24) _ rfl
  rw [hW2] at ks
  have KS := Lib.hid ks
  have ka := Lib.hid (fun w1 (hb : Below W2.heap.size W2 w1) => alive_any w1 ((G.below hb2).below hb))
  have HB2 := Lib.hid hb2
  have HJB := Lib.hid hjb
  cases hsm : smallB j n
  · rw [hsm] at KS
    clear hW2 hb2 hjb ks h
    unfold Jrn.val
    go_enter Tryd.func6, Tryd.ntmps6
    go_wp2_with fail
    rw [HW2.out]
    refine KS.out.mono ?_
    rintro e w1 ⟨rfl, rfl⟩
    go_wp2_with fail
    refine (ka.out _ (Below.refl _ _)).mono ?_
    rintro e w2 ⟨rfl, hb3⟩
    have HB3 := Lib.hid hb3
    clear hb3
    go_wp2_with fail
    go_ret
    exact ⟨rfl, HB2.out.trans (HB3.out.mono HB2.out.size)⟩
  · rw [hsm] at KS
    have kt := Lib.hid (fun w1 (hb : Below W2.heap.size W2 w1) => entryText_any j A n c w.heap.size w1 ((G.below hb2).below hb) (h.far (hb2.trans (hb.mono hb2.size)) (Nat.le_refl _)) (Nat.le_trans hb2.size hb.size) hn hs h64)
    have HRD := Lib.hid (fun w1 (hb : Below W2.heap.size W2 w1) => h.far (hb2.trans (hb.mono hb2.size)) (Nat.le_refl _))
    have HG := Lib.hid (fun w1 (hb : Below W2.heap.size W2 w1) => (G.below hb2).below hb)
    clear hW2 hb2 hjb ks h
    unfold Jrn.val at *
    go_enter Tryd.func6, Tryd.ntmps6
    go_wp2_with fail
    rw [HW2.out]
    refine KS.out.mono ?_
    rintro e w1 ⟨rfl, rfl⟩
    go_wp2_with fail
    refine (ka.out _ (Below.refl _ _)).mono ?_
    rintro e w2 ⟨rfl, hb3⟩
    obtain ⟨b0, b1, b2, b3, b4, b5⟩ := six_cells ((hb3.block _ (lt_of_blk HJB.out)).trans HJB.out)
    have kt2 := Lib.hid (kt.out w2 hb3)
    have HB3 := Lib.hid hb3
    clear hb3 ka KS kt
    go_wp2_with fail
    refine kt2.out.mono ?_
    rintro e w3 ⟨rfl, hb4⟩
    have HB4 : Hid (Below W2.heap.size W2 w3) := HB3.out.trans (hb4.mono HB3.out.size)
    clear hb4 b0 b1 b2 b3 b4 b5 kt2 HB3
    obtain ⟨b0, b1, b2, b3, b4, b5⟩ := six_cells ((HB4.out.block _ (lt_of_blk HJB.out)).trans HJB.out)
    by_cases hE : checkE j = 0
    rotate_left
    · rw [if_neg hE]
      have t1 : (checkE j != 0) = true := by simpa using hE
      generalize checkE j = E at *
      go_wp2_with fail
      go_ret
      exact ⟨rfl, HB2.out.trans (HB4.out.mono HB2.out.size)⟩
    · rw [if_pos hE, hE]
      have hne : textJ j ≠ [] := text_ne j
      have hlen : (textJ j).length ≤ 1000 := text_le h64 hE (by have := (HRD.out _ (Below.refl _ _)).lins_len; exact this)
      have hPD : ∀ k, k < (textJ j).length → parseJ ((textJ j).take k ++ (textJ j).drop (k + 1)) ≠ some j := fun k hk => spoilt_del hk
      have hPI : ∀ (k : Nat) (b x : UInt8), (textJ j)[k]? = some x → x ≠ b → parseJ ((textJ j).take k ++ [b] ++ (textJ j).drop (k + 1)) ≠ some j := fun k b x hx hb => spoilt_ins hx hb
      obtain ⟨T, hT⟩ : ∃ T, textJ j = T := ⟨_, rfl⟩
      rw [hT] at hne hlen hPD hPI ⊢
      clear hT hE
      have hsz := bs_size T
      have hpos : 0 < T.length := List.length_pos_iff.2 hne
      have t2 : (bs T).toList.isEmpty = false := by rw [ByteArray.toList_eq, bs_list]; cases T with | nil => exact absurd rfl hne | cons a r => rfl
      have hk : ∃ k : Nat, k < T.length ∧ (wrap64 (at_.tmod (T.length : Int) + T.length)).tmod (T.length : Int) = (k : Int) := turn_at at_ hpos (by omega)
      obtain ⟨k, hkn, hke⟩ := hk
      have hz : ((T.length : Int) == 0) = false := by rw [beq_eq_false_iff_ne]; omega
      have e1 : (bs T).extract 0 k = bs (T.take k) := bs_take T k
      have e2 : (bs T).extract (k + 1) T.length = bs (T.drop (k + 1)) := bs_drop T (k + 1)
      have e3 : bs (T.take k) ++ bs (T.drop (k + 1)) = bs (T.take k ++ T.drop (k + 1)) := bs_append _ _
      have hk1 : (k : Int) ≤ (T.length : Int) := by omega
      have hk2 : (k : Int) + 1 ≤ (T.length : Int) := by omega
      have hw1 : IntKind.i64.wrap ((k : Int) + 1) = (k : Int) + 1 := by rw [IntKind.wrap_i64]; omega
      have hw2 : ((k : Int) + 1).toNat = k + 1 := by omega
      have hw3 : (0 : Int) ≤ (k : Int) + 1 := by omega
      have hk3 : k ≤ T.length := by omega
      have hk4 : k + 1 ≤ T.length := by omega
      have n1 : ¬ 9223372036854775807 < (bs (T.take k)).size + (bs (T.drop (k + 1))).size := by rw [bs_size, bs_size, List.length_take, List.length_drop]; omega
      have hdl : (T.take k ++ T.drop (k + 1)).length ≤ 1000000 := by rw [List.length_append, List.length_take, List.length_drop]; omega
      have kp0 := Lib.hid (parse_zero (T.take k ++ T.drop (k + 1)) w3 (HG.out w3 HB4.out) hdl)
      have kp1 := Lib.hid (parse_one (T.take k ++ T.drop (k + 1)) w3 (HG.out w3 HB4.out) hdl)
      have HPD := Lib.hid (hPD k hkn)
      obtain ⟨x, hx, hxi⟩ : ∃ x : UInt8, T[k]? = some x ∧ ∀ w, (Instr.index 9 (.string (bs T)) (.int .i64 (k : Int))).run Tryd.prog w = .ok (.int .u8 (x.toNat : Int)) w := by
        refine ⟨T[k], List.getElem?_eq_getElem hkn, fun w => ?_⟩
        rw [run_index_string w _ _ _ _ Tryd.underlying9, dif_pos (by rw [hsz]; omega)]
        rfl
      obtain ⟨b, hb⟩ : ∃ b : UInt8, (b.toNat : Int) = ch := ⟨UInt8.ofNat ch.toNat, by rw [UInt8.toNat_ofNat_of_lt' (by simp [UInt8.size]; omega)]; omega⟩
      have HPI2 : Hid ((x.toNat : Int) ≠ ch → parseJ (T.take k ++ [b] ++ T.drop (k + 1)) ≠ some j) := fun h1 => hPI k b x hx (by rintro rfl; exact h1 hb)
      have HXI := Lib.hid hxi
      clear hPD hPI hx hxi
      generalize T.take k ++ T.drop (k + 1) = D at *
      have t3 : ¬ bs T = ByteArray.empty := by intro e; have := congrArg ByteArray.size e; rw [hsz] at this; simp at this; exact hne this
      go_wp2_with fail
      rename_i K hK
      have HBOX : Hid (JAt w3 w.heap.size j A n c) := (HB4.out.block _ (lt_of_blk HJB.out)).trans HJB.out
      have HR3 := Lib.hid (HRD.out w3 HB4.out)
      have HG3 := Lib.hid (HG.out w3 HB4.out)
      have HBW3 : Hid (Below w.heap.size w w3) := HB2.out.trans (HB4.out.mono HB2.out.size)
      have REST : ∀ (ja : Jrn) (A' : Option Addr) (n' c' aa N : Nat) (f : Int) (w4 w5 : World), Hid (PInfo w3 N D ja A' n' c' f w4) → Below w3.heap.size w3 w5 → w5.ownsRow N 44 3 (.slice A' n' c') n' (lins ja.lines) → JAt w5 aa ja A' n' c' → ∀ (u0 u1 u4 u5 u8 u12 u13 u14 u15 u16 u17 u18 u19 u20 u21 u22 u23 u24 u25 u26 u27 u28 u29 u30 u31 u32 u33 u34 u35 u36 u37 u38 u39 u40 u41 u42 u43 u44 u45 u46 u47 u48 u49 u50 u51 u52 u53 u54 u55 u56 u57 u58 u59 u60 u61 u62 u63 u64 u65 u66 u67 u68 u69 u70 u71 u72 u73 u74 u75 u76 u77 u78 u79 u80 u81 u82 u83 u84 u85 u86 u87 u88 u89 u90 u91 u92 u93 : Value), K ⟨#[u0, u1, .int .u8 ch, .pointer (some ⟨w.heap.size, 0, none⟩), u4, u5, .bool false, .string (bs T), u8, .int .i64 (k : Int), .pointer (some ⟨aa, 0, none⟩), .int .i64 f, u12, u13, u14, u15, u16, u17, u18, u19, u20, u21, u22, u23, u24, u25, u26, u27, u28, u29, u30, u31, u32, u33, u34, u35, u36, u37, u38, u39, u40, u41, u42, u43, u44, u45, u46, u47, u48, u49, u50, u51, u52, u53, u54, u55, u56, u57, u58, u59, u60, u61, u62, u63, u64, u65, u66, u67, u68, u69, u70, u71, u72, u73, u74, u75, u76, u77, u78, u79, u80, u81, u82, u83, u84, u85, u86, u87, u88, u89, u90, u91, u92, u93], []⟩ w5 := by
        intro ja A' n' c' aa N f w4 w5 h1 h2 h3 h4 u0 u1 u4 u5 u8 u12 u13 u14 u15 u16 u17 u18 u19 u20 u21 u22 u23 u24 u25 u26 u27 u28 u29 u30 u31 u32 u33 u34 u35 u36 u37 u38 u39 u40 u41 u42 u43 u44 u45 u46 u47 u48 u49 u50 u51 u52 u53 u54 u55 u56 u57 u58 u59 u60 u61 u62 u63 u64 u65 u66 u67 u68 u69 u70 u71 u72 u73 u74 u75 u76 u77 u78 u79 u80 u81 u82 u83 u84 u85 u86 u87 u88 u89 u90 u91 u92 u93
        refine hK _ _ ?_
        exact sp10_any _ _ _ _ _ _ _ _ _ _ _ _ _ _ _ _ _ _ _ _ _ _ _ _ _ _ _ _ _ _ _ _ _ _ _ _ _ _ _ _ _ _ _ _ _ _ _ _ _ _ _ _ _ _ _ _ _ _ _ _ _ _ _ _ _ _ _ _ _ _ _ _ _ _ _ _ _ _ _ _ _ _ _ _ _ _ _ j ja A A' n n' c c' aa w.heap.size w5.heap.size k ch f x.toNat b T false w w5 (HG3.out.below h2) ((h2.block _ (lt_of_blk HBOX.out)).trans HBOX.out) h4 (HR3.out.far h2 HBW3.out.size) (rd_of_own h3) (Nat.le_trans HBW3.out.size h2.size) (Nat.le_refl _) hn h1.out.len hkn hlen HXI.out hb (fun hg e => HPD.out (by rw [← e]; exact h1.out.ok hg)) HPI2.out (HBW3.out.trans (h2.mono HBW3.out.size))
      have HREST := Lib.hid REST
      clear REST hK
      go_region_law (first | (go_simp; go_at_call 10; refine (kp1.out _).mono ?_; rintro e w4 ⟨ja, A', n', c', f, rfl, HPI, q0, p0, hz7, HBK⟩) | (go_simp; go_at_call 10; refine kp0.out.mono ?_; rintro e w4 ⟨ja, A', n', c', f, rfl, HPI⟩))
      all_goals go_simp
      · exact HREST.out ja A' n' c' w4.heap.size _ f w4 _ HPI (HPI.out.bel.alloc HPI.out.bel.size _) (own_kept HPI.out.own fun q hq _ => Below.heap_alloc _ _ _ hq) (heap_new w4 _) _ _ _ _ _ _ _ _ _ _ _ _ _ _ _ _ _ _ _ _ _ _ _ _ _ _ _ _ _ _ _ _ _ _ _ _ _ _ _ _ _ _ _ _ _ _ _ _ _ _ _ _ _ _ _ _ _ _ _ _ _ _ _ _ _ _ _ _ _ _ _ _ _ _ _ _ _ _ _ _ _ _ _ _ _ _ _
      · exact HREST.out ja A' n' c' w3.heap.size _ f w4 _ HPI (below_six HPI.out.bel (Nat.le_refl _) _ _ _ _ _ _) (own_six HPI.out.own (by omega) _ _ _ _ _ _) (jat_six ja A' n' c' HBK.out) _ _ _ _ _ _ _ _ _ _ _ _ _ _ _ _ _ _ _ _ _ _ _ _ _ _ _ _ _ _ _ _ _ _ _ _ _ _ _ _ _ _ _ _ _ _ _ _ _ _ _ _ _ _ _ _ _ _ _ _ _ _ _ _ _ _ _ _ _ _ _ _ _ _ _ _ _ _ _ _ _ _ _ _ _ _ _
end Go.Proofs.YtlcflbncifecoaaDoor
