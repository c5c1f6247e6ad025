/-
  The reference's Parse: from the journal's front on.
-/
import Derived.Test.YtakjiehncoankaaDoorRefParseLoop
namespace Go.Proofs.YtakjiehncoankaaDoor
open Go.RowKit Go.Sort

theorem star_head {s : List UInt8} {j' : Jrn} (h : parseJ s = some j') {p0 p1 p2 p3 p4 : List UInt8} {rest : List (List UInt8)} (hps : splitL 32 s = p0 :: p1 :: p2 :: p3 :: p4 :: rest) :
    p0 = Lib.itoa j'.id ∧ p1 = Lib.itoa j'.ent ∧ p2 = textB j'.per ∧ p3 = refT j'.ref.data.toList ∧ p4 = stateT j'.void := by
  rw [star_parts h] at hps
  unfold partsJ at hps
  simp only [List.cons_append] at hps
  injection hps with a0 hps
  injection hps with a1 hps
  injection hps with a2 hps
  injection hps with a3 hps
  injection hps with a4 hps
  exact ⟨a0.symm, a1.symm, a2.symm, a3.symm, a4.symm⟩
theorem star_len {s : List UInt8} {j' : Jrn} (h : parseJ s = some j') : 7 ≤ (splitL 32 s).length ∧ (splitL 32 s).length ≤ 13 := by
  have := checkE_len (parseJ_is h).1
  rw [star_parts h, partsJ_len]
  omega
theorem void_back (b : Bool) : voidOf (stateT b) = b := by cases b <;> decide
/-- What was read of the front. -/
def frontJ (v0 v1 : Int) (p2 p3 p4 : List UInt8) : Jrn := ⟨v0, v1, readV p2, bs (refOf p3), [], voidOf p4⟩
theorem star_front {s : List UInt8} {p0 p1 p2 p3 p4 : List UInt8} {rest : List (List UInt8)} (hps : splitL 32 s = p0 :: p1 :: p2 :: p3 :: p4 :: rest) {v0 v1 : Int} {b0 b1 : Bool} (g0 : Got p0 v0 b0) (g1 : Got p1 v1 b1) : Star s 0 (b0 && b1) (frontJ v0 v1 p2 p3 p4) := by
  intro j' hj
  obtain ⟨rfl, rfl, rfl, rfl, rfl⟩ := star_head hj hps
  have hE := (parseJ_is hj).1
  have hf := (checkE_ok hE).1
  unfold frontOk at hf
  simp only [Bool.and_eq_true] at hf
  have h0 := inB_iff.1 hf.1.1.1
  have h1 := inB_iff.1 hf.1.1.2
  have nn : ∀ n : Int, -1000000000000000000 < n → n < 1000000000000000000 → numOf (Lib.itoa n) = some n := fun n a b => numOf_iff.2 ⟨⟨by omega, by omega⟩, rfl⟩
  obtain ⟨f0, f1⟩ := g0 j'.id (nn _ (by omega) (by omega)) (by omega) (by omega)
  obtain ⟨f2, f3⟩ := g1 j'.ent (nn _ (by omega) (by omega)) (by omega) (by omega)
  subst f0 f1 f2 f3
  refine ⟨rfl, ?_⟩
  have hp := back (checkE_per hE)
  have e1 : readV (textB j'.per) = j'.per := by unfold readV; rw [if_pos hp.1, hp.2]
  have e2 : refOf (refT j'.ref.data.toList) = j'.ref.data.toList := ref_back fun b hb => (checkE_refs hE b hb).1
  unfold frontJ
  rw [e1, e2, void_back, bs_back]
  simp

theorem PLoop.fin {s : List UInt8} {w wr : World} {g cap jb : Nat} {ok : Bool} {j : Jrn} {A : Option Addr} {c : Nat} (h : PLoop s w wr g cap jb ((splitL 32 s).length - 5) ok j A c) :
    JAt wr jb j A j.lines.length c ∧ wr.ownsRow w.heap.size 39 3 (.slice A j.lines.length c) j.lines.length (lins j.lines) ∧ ∀ j', parseJ s = some j' → ok = true ∧ j = j' := by
  have hl : j.lines.length = (splitL 32 s).length - 5 := by have := h.own.1; rw [lins_len] at this; omega
  refine ⟨by rw [hl]; exact h.box, by rw [hl]; exact h.own, fun j' hj => ?_⟩
  obtain ⟨e1, e2⟩ := h.star j' hj
  refine ⟨e1, e2.trans ?_⟩
  have : (splitL 32 s).length - 5 = j'.lines.length := by rw [star_parts hj, partsJ_len]; omega
  rw [this, List.take_of_length_le (Nat.le_refl _)]

noncomputable def rpMid : Code := subCode [1, 1, 1, 1, 1, 1] (Tryd.f8.body.getD .skip)

set_option maxRecDepth 100000 in
set_option maxHeartbeats 8000000 in
theorem rpMid_any (s2 s3 s5 s7 s9 s12 s13 s14 s15 s16 s17 s18 s19 s20 s21 s22 s23 s24 s25 s26 s27 s28 s29 s30 s31 s32 s33 s34 s35 s36 s37 s38 s39 s40 s41 s42 s43 s44 s45 s46 s47 s48 s49 s50 s51 s52 s53 s54 s55 s56 s57 s58 s59 s60 s61 s62 s63 s64 s65 s66 s67 s68 s69 s70 s71 s72 s73 s74 s75 s76 s77 s78 s79 s80 s81 s82 s83 s84 s85 s86 s87 s88 s89 s90 s91 s92 s93 s94 s95 s96 s97 s98 s99 s100 s101 s102 s103 s104 s105 s106 s107 s108 s109 s110 s111 s112 s113 s114 s115 s116 s117 s118 s119 s120 s121 s122 s123 s124 s125 s126 s127 s128 s129 s130 s131 s132 s133 s134 s135 s136 s137 s138 s139 s140 s141 : Value) (s p2 p3 p4 : List UInt8) (v0 v1 : Int) (b0 b1 : Bool) (g cap jb : Nat) (w wr : World) (hs : s.length ≤ 1000) (hN7 : 7 ≤ (splitL 32 s).length) (hN : (splitL 32 s).length ≤ 13)
    (bel : Below w.heap.size w wr) (res : JAt wr w.heap.size zeroJ none 0 0) (row : wr.ownsRow w.heap.size 9 1 (.slice (some ⟨g, 0, none⟩) (splitL 32 s).length cap) (splitL 32 s).length (strs (splitL 32 s))) (box : JAt wr jb ⟨v0, v1, readV p2, bs p3, [], voidOf p4⟩ none 0 0) (low : w.heap.size < jb) (star : Star s 0 (b0 && b1) (frontJ v0 v1 p2 p3 p4)) :
    Code.wp Tryd.prog rpMid (bodyPost Tryd.prog Tryd.f8 (RefParsed w s)) ⟨#[.string (bs s), .int .u8 32, s2, s3, .pointer (some ⟨w.heap.size, 0, none⟩), s5, .slice (some ⟨g, 0, none⟩) (splitL 32 s).length cap, s7, .bool b0, s9, .bool b1, .pointer (some ⟨jb, 0, none⟩), s12, s13, s14, s15, s16, s17, s18, s19, s20, s21, s22, s23, s24, s25, s26, s27, s28, s29, s30, s31, s32, s33, s34, s35, s36, s37, s38, s39, s40, s41, s42, s43, s44, s45, s46, s47, s48, s49, s50, s51, s52, s53, s54, s55, s56, s57, s58, s59, s60, s61, s62, s63, s64, s65, s66, s67, s68, s69, s70, s71, s72, s73, s74, s75, s76, s77, s78, s79, s80, s81, s82, s83, s84, s85, s86, s87, s88, s89, s90, s91, s92, s93, s94, s95, s96, s97, s98, s99, s100, s101, s102, s103, s104, s105, s106, s107, s108, s109, s110, s111, s112, s113, s114, s115, s116, s117, s118, s119, s120, s121, s122, s123, s124, s125, s126, s127, s128, s129, s130, s131, s132, s133, s134, s135, s136, s137, s138, s139, s140, s141], []⟩ wr := by
  have z3 := (six_cells box).2.2.2.1
  dsimp only at z3
  have f3 := warm_of box 3
  have hjlt := lt_of_blk box
  by_cases h45 : p3 = [45]
  · have t1 : ((bs p3).toList == [45]) = true := by rw [ByteArray.toList_eq, bs_list, h45]; rfl
    have hset : ∀ q, q ≠ jb → (wr.setCell ⟨jb, 3, none⟩ (.string ⟨#[]⟩)).heap[q]? = wr.heap[q]? := fun q hq => Below.heap_setCell _ _ _ _ hq
    have HP : Hid (PLoop s w (wr.setCell ⟨jb, 3, none⟩ (.string ⟨#[]⟩)) g cap jb 0 (b0 && b1) (frontJ v0 v1 p2 p3 p4) none 0) := by
      refine ⟨bel.setCell (p := ⟨jb, 3, none⟩) (Nat.le_of_lt low) _, (hset _ (by omega)).trans res, own_kept row fun q _ hq => hset q (fun e => own_ne row box (by decide) (by rw [← e]; exact hq)), ?_, low, World.ownsRow_nil _ _ _ _, star⟩
      have : refOf p3 = [] := by unfold refOf; rw [if_pos h45]
      unfold frontJ
      rw [this]
      exact set_here box
    clear h45 bel res row box star hset
    cases b0
    · skip
      conv => arg 2; whnf
      conv => arg 4; dsimp only
      go_wp2_with fail
      refine rpLoop_any _ _ _ _ _ _ _ _ _ _ _ _ _ _ _ _ _ _ _ _ _ _ _ _ _ _ _ _ _ _ _ _ _ _ _ _ _ _ _ _ _ _ _ _ _ _ _ _ _ _ _ _ _ _ _ _ _ _ _ _ _ _ _ _ _ _ _ _ _ _ _ _ _ _ _ _ _ _ _ _ _ _ _ _ _ _ _ _ _ _ _ _ _ _ _ _ _ _ _ _ _ _ _ _ _ _ _ _ _ _ _ _ _ _ _ _ _ _ _ _ _ _ _ _ _ _ _ _ _ _ _ _ _ _ _ _ s g cap jb _ _ _ _ w _ hs hN7 hN HP.out ?_ ?_
      · intro u5 u13 u14 u15 u16 u17 u18 u19 u20 u69 u70 u71 u72 u73 u74 u75 u76 u77 u78 u79 u80 u81 u82 u83 u84 u85 u86 u87 u88 u89 u90 u91 u92 u93 u94 u95 u96 u97 u98 u99 u100 u101 u102 u103 u104 u105 u106 u107 u108 u109 u110 u111 u112 u113 u114 u115 u116 u117 u118 u119 u120 u121 u122 u123 ok' j' A' c' w' hp'
        obtain ⟨q1, q2, q3⟩ := hp'.fin
        rename_i K hK
        refine hK _ _ ?_
        exact rpTail_any _ _ _ _ _ _ _ _ _ _ _ _ _ _ _ _ _ _ _ _ _ _ _ _ _ _ _ _ _ _ _ _ _ _ _ _ _ _ _ _ _ _ _ _ _ _ _ _ _ _ _ _ _ _ _ _ _ _ _ _ _ _ _ _ _ _ _ _ _ _ _ _ _ _ _ _ _ _ _ _ _ _ _ _ _ _ _ _ _ _ _ _ _ _ _ _ _ _ _ _ _ _ _ _ _ _ _ _ _ _ _ _ _ _ _ _ _ _ _ _ _ _ _ _ _ _ _ _ _ _ _ _ _ _ _ _ _ s j' A' c' jb ok' w w' hp'.bel hp'.res q1 hp'.low q2 q3
      · intro a w' hr
        exact hr
    · skip
      conv => arg 2; whnf
      conv => arg 4; dsimp only
      go_wp2_with fail
      refine rpLoop_any _ _ _ _ _ _ _ _ _ _ _ _ _ _ _ _ _ _ _ _ _ _ _ _ _ _ _ _ _ _ _ _ _ _ _ _ _ _ _ _ _ _ _ _ _ _ _ _ _ _ _ _ _ _ _ _ _ _ _ _ _ _ _ _ _ _ _ _ _ _ _ _ _ _ _ _ _ _ _ _ _ _ _ _ _ _ _ _ _ _ _ _ _ _ _ _ _ _ _ _ _ _ _ _ _ _ _ _ _ _ _ _ _ _ _ _ _ _ _ _ _ _ _ _ _ _ _ _ _ _ _ _ _ _ _ _ s g cap jb _ _ _ _ w _ hs hN7 hN HP.out ?_ ?_
      · intro u5 u13 u14 u15 u16 u17 u18 u19 u20 u69 u70 u71 u72 u73 u74 u75 u76 u77 u78 u79 u80 u81 u82 u83 u84 u85 u86 u87 u88 u89 u90 u91 u92 u93 u94 u95 u96 u97 u98 u99 u100 u101 u102 u103 u104 u105 u106 u107 u108 u109 u110 u111 u112 u113 u114 u115 u116 u117 u118 u119 u120 u121 u122 u123 ok' j' A' c' w' hp'
        obtain ⟨q1, q2, q3⟩ := hp'.fin
        rename_i K hK
        refine hK _ _ ?_
        exact rpTail_any _ _ _ _ _ _ _ _ _ _ _ _ _ _ _ _ _ _ _ _ _ _ _ _ _ _ _ _ _ _ _ _ _ _ _ _ _ _ _ _ _ _ _ _ _ _ _ _ _ _ _ _ _ _ _ _ _ _ _ _ _ _ _ _ _ _ _ _ _ _ _ _ _ _ _ _ _ _ _ _ _ _ _ _ _ _ _ _ _ _ _ _ _ _ _ _ _ _ _ _ _ _ _ _ _ _ _ _ _ _ _ _ _ _ _ _ _ _ _ _ _ _ _ _ _ _ _ _ _ _ _ _ _ _ _ _ _ s j' A' c' jb ok' w w' hp'.bel hp'.res q1 hp'.low q2 q3
      · intro a w' hr
        exact hr
  · have t1 : ((bs p3).toList == [45]) = false := by rw [ByteArray.toList_eq, bs_list, beq_eq_false_iff_ne]; exact h45
    have HP : Hid (PLoop s w wr g cap jb 0 (b0 && b1) (frontJ v0 v1 p2 p3 p4) none 0) := by
      refine ⟨bel, res, row, ?_, low, World.ownsRow_nil _ _ _ _, star⟩
      have : refOf p3 = p3 := by unfold refOf; rw [if_neg h45]
      unfold frontJ
      rw [this]
      exact box
    clear h45 bel res row box star
    cases b0
    · skip
      conv => arg 2; whnf
      conv => arg 4; dsimp only
      go_wp2_with fail
      refine rpLoop_any _ _ _ _ _ _ _ _ _ _ _ _ _ _ _ _ _ _ _ _ _ _ _ _ _ _ _ _ _ _ _ _ _ _ _ _ _ _ _ _ _ _ _ _ _ _ _ _ _ _ _ _ _ _ _ _ _ _ _ _ _ _ _ _ _ _ _ _ _ _ _ _ _ _ _ _ _ _ _ _ _ _ _ _ _ _ _ _ _ _ _ _ _ _ _ _ _ _ _ _ _ _ _ _ _ _ _ _ _ _ _ _ _ _ _ _ _ _ _ _ _ _ _ _ _ _ _ _ _ _ _ _ _ _ _ _ s g cap jb _ _ _ _ w _ hs hN7 hN HP.out ?_ ?_
      · intro u5 u13 u14 u15 u16 u17 u18 u19 u20 u69 u70 u71 u72 u73 u74 u75 u76 u77 u78 u79 u80 u81 u82 u83 u84 u85 u86 u87 u88 u89 u90 u91 u92 u93 u94 u95 u96 u97 u98 u99 u100 u101 u102 u103 u104 u105 u106 u107 u108 u109 u110 u111 u112 u113 u114 u115 u116 u117 u118 u119 u120 u121 u122 u123 ok' j' A' c' w' hp'
        obtain ⟨q1, q2, q3⟩ := hp'.fin
        rename_i K hK
        refine hK _ _ ?_
        exact rpTail_any _ _ _ _ _ _ _ _ _ _ _ _ _ _ _ _ _ _ _ _ _ _ _ _ _ _ _ _ _ _ _ _ _ _ _ _ _ _ _ _ _ _ _ _ _ _ _ _ _ _ _ _ _ _ _ _ _ _ _ _ _ _ _ _ _ _ _ _ _ _ _ _ _ _ _ _ _ _ _ _ _ _ _ _ _ _ _ _ _ _ _ _ _ _ _ _ _ _ _ _ _ _ _ _ _ _ _ _ _ _ _ _ _ _ _ _ _ _ _ _ _ _ _ _ _ _ _ _ _ _ _ _ _ _ _ _ _ s j' A' c' jb ok' w w' hp'.bel hp'.res q1 hp'.low q2 q3
      · intro a w' hr
        exact hr
    · skip
      conv => arg 2; whnf
      conv => arg 4; dsimp only
      go_wp2_with fail
      refine rpLoop_any _ _ _ _ _ _ _ _ _ _ _ _ _ _ _ _ _ _ _ _ _ _ _ _ _ _ _ _ _ _ _ _ _ _ _ _ _ _ _ _ _ _ _ _ _ _ _ _ _ _ _ _ _ _ _ _ _ _ _ _ _ _ _ _ _ _ _ _ _ _ _ _ _ _ _ _ _ _ _ _ _ _ _ _ _ _ _ _ _ _ _ _ _ _ _ _ _ _ _ _ _ _ _ _ _ _ _ _ _ _ _ _ _ _ _ _ _ _ _ _ _ _ _ _ _ _ _ _ _ _ _ _ _ _ _ _ s g cap jb _ _ _ _ w _ hs hN7 hN HP.out ?_ ?_
      · intro u5 u13 u14 u15 u16 u17 u18 u19 u20 u69 u70 u71 u72 u73 u74 u75 u76 u77 u78 u79 u80 u81 u82 u83 u84 u85 u86 u87 u88 u89 u90 u91 u92 u93 u94 u95 u96 u97 u98 u99 u100 u101 u102 u103 u104 u105 u106 u107 u108 u109 u110 u111 u112 u113 u114 u115 u116 u117 u118 u119 u120 u121 u122 u123 ok' j' A' c' w' hp'
        obtain ⟨q1, q2, q3⟩ := hp'.fin
        rename_i K hK
        refine hK _ _ ?_
        exact rpTail_any _ _ _ _ _ _ _ _ _ _ _ _ _ _ _ _ _ _ _ _ _ _ _ _ _ _ _ _ _ _ _ _ _ _ _ _ _ _ _ _ _ _ _ _ _ _ _ _ _ _ _ _ _ _ _ _ _ _ _ _ _ _ _ _ _ _ _ _ _ _ _ _ _ _ _ _ _ _ _ _ _ _ _ _ _ _ _ _ _ _ _ _ _ _ _ _ _ _ _ _ _ _ _ _ _ _ _ _ _ _ _ _ _ _ _ _ _ _ _ _ _ _ _ _ _ _ _ _ _ _ _ _ _ _ _ _ _ s j' A' c' jb ok' w w' hp'.bel hp'.res q1 hp'.low q2 q3
      · intro a w' hr
        exact hr
end Go.Proofs.YtakjiehncoankaaDoor
