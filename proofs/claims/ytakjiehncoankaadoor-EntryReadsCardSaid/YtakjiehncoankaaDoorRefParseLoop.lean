/-
  The reference's Parse: its loop over lines.
-/
import Derived.Test.YtakjiehncoankaaDoorRefParse
namespace Go.Proofs.YtakjiehncoankaaDoor
open Go.RowKit Go.Sort

theorem split_len (c : UInt8) : ∀ (l : List UInt8), ∀ p ∈ splitL c l, p.length ≤ l.length
  | [], p, hp => by simp [splitL] at hp; subst hp; simp
  | b :: l, p, hp => by
    rw [splitL] at hp
    split at hp
    · rcases List.mem_cons.1 hp with rfl | hp
      · simp
      · have := split_len c l p hp; simp; omega
    · cases hq : splitL c l with
      | nil => exact absurd hq (split_ne c l)
      | cons q qs =>
        rw [hq] at hp
        rcases List.mem_cons.1 hp with rfl | hp
        · have := split_len c l q (by rw [hq]; simp)
          simp; omega
        · have := split_len c l p (by rw [hq]; simp [hp])
          simp; omega
/-- The journal so far, held against the one that the text may be of. -/
def Star (s : List UInt8) (k : Nat) (ok : Bool) (j : Jrn) : Prop := ∀ j', parseJ s = some j' → ok = true ∧ j = ⟨j'.id, j'.ent, j'.per, j'.ref, j'.lines.take k, j'.void⟩
theorem star_parts {s : List UInt8} {j' : Jrn} (h : parseJ s = some j') : splitL 32 s = partsJ j' := by
  obtain ⟨h1, h2⟩ := parseJ_is h
  rw [← h2]
  exact split_join 32 _ (by simp [partsJ]) (parts_free h1)
theorem line_64 {j' : Jrn} (h : checkE j' = 0) {x : Lin} (hx : x ∈ j'.lines) : (1 ≤ x.acct ∧ x.acct ≤ 9999) ∧ (-1000000000000000 ≤ x.amt ∧ x.amt ≤ 1000000000000000) ∧ (0 ≤ x.part ∧ x.part ≤ 9) := by
  obtain ⟨_, h2, h3, _⟩ := checkE_ok h
  have ha := fits1_iff.1 (List.all_eq_true.1 h3 x hx)
  unfold linesOk at h2
  rw [Bool.and_eq_true] at h2
  have hl := List.all_eq_true.1 h2.2 x hx
  unfold lineOk at hl
  simp only [Bool.and_eq_true] at hl
  exact ⟨inB_iff.1 hl.1.1.1, ha, inB_iff.1 hl.1.2⟩
theorem Star.part {s : List UInt8} {k : Nat} {ok : Bool} {j j' : Jrn} {p : List UInt8} (_h : Star s k ok j) (hp : (splitL 32 s)[k + 5]? = some p) (hj : parseJ s = some j') : ∃ x, j'.lines[k]? = some x ∧ p = lineT x := by
  rw [star_parts hj] at hp
  have : (partsJ j')[k + 5]? = (j'.lines.map lineT)[k]? := by simp [partsJ]
  rw [this, List.getElem?_map] at hp
  cases hq : j'.lines[k]? with
  | none => rw [hq] at hp; cases hp
  | some x =>
    rw [hq] at hp
    exact ⟨x, rfl, by injection hp with hp; exact hp.symm⟩
theorem Star.three {s : List UInt8} {k : Nat} {ok : Bool} {j : Jrn} {p : List UInt8} (h : Star s k ok j) (hp : (splitL 32 s)[k + 5]? = some p) (hne : (splitL 58 p).length ≠ 3) : parseJ s = none := by
  cases hj : parseJ s with
  | none => rfl
  | some j' =>
    obtain ⟨x, _, rfl⟩ := h.part hp hj
    rw [lineT_split] at hne
    exact absurd rfl hne
/-- One number of the line that was read. -/
def Got (q : List UInt8) (v : Int) (b : Bool) : Prop := ∀ n : Int, numOf q = some n → -1000000000000000000 < n → n < 1000000000000000000 → b = true ∧ v = n
theorem Star.next {s : List UInt8} {k : Nat} {ok b0 b1 b2 : Bool} {j : Jrn} {p q0 q1 q2 : List UInt8} {v0 v1 v2 : Int} (h : Star s k ok j) (hp : (splitL 32 s)[k + 5]? = some p) (hq : splitL 58 p = [q0, q1, q2]) (g0 : Got q0 v0 b0) (g1 : Got q1 v1 b1) (g2 : Got q2 v2 b2) :
    Star s (k + 1) (ok && b0 && b1 && b2) ⟨j.id, j.ent, j.per, j.ref, j.lines ++ [⟨v0, v1, v2⟩], j.void⟩ := by
  intro j' hj
  obtain ⟨x, hx, rfl⟩ := h.part hp hj
  obtain ⟨e1, e2⟩ := h j' hj
  rw [lineT_split] at hq
  injection hq with a0 hq
  injection hq with a1 hq
  injection hq with a2 hq
  subst a0 a1 a2
  have hE := (parseJ_is hj).1
  obtain ⟨n0, n1, n2⟩ := line_64 hE (List.mem_of_getElem? hx)
  have nn : ∀ n : Int, -1000000000000000000 < n → n < 1000000000000000000 → numOf (Lib.itoa n) = some n := fun n a b => numOf_iff.2 ⟨⟨by omega, by omega⟩, rfl⟩
  obtain ⟨f0, f1⟩ := g0 x.acct (nn _ (by omega) (by omega)) (by omega) (by omega)
  obtain ⟨f2, f3⟩ := g1 x.amt (nn _ (by omega) (by omega)) (by omega) (by omega)
  obtain ⟨f4, f5⟩ := g2 x.part (nn _ (by omega) (by omega)) (by omega) (by omega)
  subst f0 f1 f2 f3 f4 f5 e1 e2
  refine ⟨rfl, ?_⟩
  obtain ⟨hk, rfl⟩ := List.getElem?_eq_some_iff.1 hx
  rw [List.take_succ_eq_append_getElem hk]

/-- The head of the loop. -/
structure PLoop (s : List UInt8) (w wr : World) (g cap jb k : Nat) (ok : Bool) (j : Jrn) (A : Option Addr) (c : Nat) : Prop where
  bel : Below w.heap.size w wr
  res : JAt wr w.heap.size zeroJ none 0 0
  row : wr.ownsRow w.heap.size 9 1 (.slice (some ⟨g, 0, none⟩) (splitL 32 s).length cap) (splitL 32 s).length (strs (splitL 32 s))
  box : JAt wr jb j A k c
  low : w.heap.size < jb
  own : wr.ownsRow w.heap.size 39 3 (.slice A k c) k (lins j.lines)
  star : Star s k ok j
theorem PLoop.below {s : List UInt8} {w wr w' : World} {g cap jb k : Nat} {ok : Bool} {j : Jrn} {A : Option Addr} {c : Nat} (h : PLoop s w wr g cap jb k ok j A c) (hb : Below wr.heap.size wr w') : PLoop s w w' g cap jb k ok j A c :=
  ⟨h.bel.trans (hb.mono h.bel.size), (hb.block _ (lt_of_blk h.res)).trans h.res, own_kept h.row fun q hq _ => hb.block q hq, (hb.block _ (lt_of_blk h.box)).trans h.box, h.low, own_kept h.own fun q hq _ => hb.block q hq, h.star⟩

theorem PLoop.add {s : List UInt8} {w wr : World} {g cap jb k : Nat} {ok : Bool} {j : Jrn} {A : Option Addr} {c : Nat} (h : PLoop s w wr g cap jb k ok j A c) (v0 v1 v2 : Int) (hk : k ≤ 100) :
    ∃ A' c' w5, (Builtin.append_ #[22, 22] 22 #[.slice A k c, .slice (some ⟨wr.heap.size, 0, none⟩) 1 1]).run Tryd.prog (wr.alloc (.cells #[.int .i64 v0, .int .i64 v1, .int .i64 v2] 39)) = .ok (.slice A' (k + 1) c') w5 ∧ w5.cell? ⟨jb, 4, none⟩ = some (.slice A k c) ∧ w5.frozen? ⟨jb, 4, none⟩ = false ∧
      ∀ ok', Star s (k + 1) ok' ⟨j.id, j.ent, j.per, j.ref, j.lines ++ [⟨v0, v1, v2⟩], j.void⟩ → PLoop s w (w5.setCell ⟨jb, 4, none⟩ (.slice A' (k + 1) c')) g cap jb (k + 1) ok' ⟨j.id, j.ent, j.per, j.ref, j.lines ++ [⟨v0, v1, v2⟩], j.void⟩ A' c' := by
  have hz := h.bel.size
  have hrd : Rd (wr.alloc (.cells #[.int .i64 v0, .int .i64 v1, .int .i64 v2] 39)) (wr.heap.size + 1) 3 (some ⟨wr.heap.size, 0, none⟩) 1 (lins [⟨v0, v1, v2⟩]) := ⟨rfl, fun _ => ⟨_, rfl, by simp, cells_new wr [.int .i64 v0, .int .i64 v1, .int .i64 v2] _⟩⟩
  obtain ⟨v5, w5, hrun, hown5, hg5, _⟩ := append_fresh (P := Tryd.prog) (ty := 22) (c := 1) infoLin Tryd.underlying22 rfl (by omega) w.heap.size (.slice A k c) k _ (own_kept h.own fun q hq _ => Below.heap_alloc _ _ _ hq) hrd (linsOne _) (by unfold maxLen; omega) (by omega) (by simp; omega)
  rw [← lins_append] at hown5
  obtain ⟨A5, c5, rfl⟩ := own_form hown5
  have keep : ∀ q, q < wr.heap.size → (Value.slice A k c).ownBlock ≠ some q → w5.heap[q]? = wr.heap[q]? := fun q hq hne => by
    have h1 := hg5.block q (by simp; omega) (fun e => hne e.symm)
    exact h1.trans (Below.heap_alloc _ _ _ hq)
  have hj5 : JAt w5 jb j A k c := (keep jb (lt_of_blk h.box) (own_ne h.own h.box (by decide))).trans h.box
  have hr5 : JAt w5 w.heap.size zeroJ none 0 0 := (keep _ (lt_of_blk h.res) (own_ne h.own h.res (by decide))).trans h.res
  have hrow5 : w5.ownsRow w.heap.size 9 1 (.slice (some ⟨g, 0, none⟩) (splitL 32 s).length cap) (splitL 32 s).length (strs (splitL 32 s)) := own_kept h.row fun q hq hq2 => keep q hq (own_own_ne h.row h.own (by decide) q hq2)
  have hb5 : Below w.heap.size w w5 := (h.bel.alloc hz _).grown hg5 (by simp; omega) (fun q hq => own_ge h.own q hq)
  have hset : ∀ q, q ≠ jb → (w5.setCell ⟨jb, 4, none⟩ (.slice A5 (k + 1) c5)).heap[q]? = w5.heap[q]? := fun q hq => Below.heap_setCell _ _ _ _ hq
  refine ⟨A5, c5, w5, hrun, (six_cells hj5).2.2.2.2.1, warm_of hj5 4, fun ok' hst => ⟨hb5.setCell (p := ⟨jb, 4, none⟩) (Nat.le_of_lt h.low) _, (hset _ (by have := h.low; omega)).trans hr5, own_kept hrow5 fun q _ hq => hset q (fun e => own_ne hrow5 hj5 (by decide) (by rw [← e]; exact hq)), ?_, h.low, own_kept hown5 fun q _ hq => hset q (fun e => own_ne hown5 hj5 (by decide) (by rw [← e]; exact hq)), hst⟩⟩
  exact set_here hj5

noncomputable def rpBody : Code := subCode [1, 1, 1, 1, 1, 1, 1, 1, 0, 1, 0, 0, 1, 0, 0] (Tryd.f8.body.getD .skip)

set_option maxRecDepth 100000 in
set_option maxHeartbeats 8000000 in
theorem rpBody_any (s2 s3 s5 s7 s8 s9 s10 s14 s15 s16 s17 s18 s19 s20 s21 s22 s23 s24 s25 s26 s27 s28 s29 s30 s31 s32 s33 s34 s35 s36 s37 s38 s39 s40 s41 s42 s43 s44 s45 s46 s47 s48 s49 s50 s51 s52 s53 s54 s55 s56 s57 s58 s59 s60 s61 s62 s63 s64 s65 s66 s67 s68 s69 s70 s71 s72 s73 s74 s75 s76 s77 s78 s79 s80 s81 s82 s83 s84 s85 s86 s87 s88 s89 s90 s91 s92 s93 s94 s95 s96 s97 s98 s99 s100 s101 s102 s103 s104 s105 s106 s107 s108 s109 s110 s111 s112 s113 s114 s115 s116 s117 s118 s119 s120 s121 s122 s123 s124 s125 s126 s127 s128 s129 s130 s131 s132 s133 s134 s135 s136 s137 s138 s139 s140 s141 : Value) (Q0 : Exit → Act → World → Prop) (s : List UInt8) (g cap jb k : Nat) (ok : Bool) (j : Jrn) (A : Option Addr) (c : Nat) (w wr : World) (hs : s.length ≤ 1000) (hk : k + 5 < (splitL 32 s).length) (hN : (splitL 32 s).length ≤ 13) (h : PLoop s w wr g cap jb k ok j A c)
    (hK : ∀ (u5 u14 u15 u16 u17 u18 u19 u20 u75 u76 u77 u78 u79 u80 u81 u82 u83 u84 u85 u86 u87 u88 u89 u90 u91 u92 u93 u94 u95 u96 u97 u98 u99 u100 u101 u102 u103 u104 u105 u106 u107 u108 u109 u110 u111 u112 u113 u114 u115 u116 u117 u118 u119 u120 u121 u122 u123 : Value) (ok' : Bool) (j' : Jrn) (A' : Option Addr) (c' : Nat) (w' : World), PLoop s w w' g cap jb (k + 1) ok' j' A' c' → Q0 .normal ⟨#[.string (bs s), .int .u8 32, s2, s3, .pointer (some ⟨w.heap.size, 0, none⟩), u5, .slice (some ⟨g, 0, none⟩) (splitL 32 s).length cap, s7, s8, s9, s10, .pointer (some ⟨jb, 0, none⟩), .bool ok', .int .i64 ((k : Int) + 5), u14, u15, u16, u17, u18, u19, u20, s21, s22, s23, s24, s25, s26, s27, s28, s29, s30, s31, s32, s33, s34, s35, s36, s37, s38, s39, s40, s41, s42, s43, s44, s45, s46, s47, s48, s49, s50, s51, s52, s53, s54, s55, s56, s57, s58, s59, s60, s61, s62, s63, s64, s65, s66, s67, s68, s69, s70, s71, s72, s73, s74, u75, u76, u77, u78, u79, u80, u81, u82, u83, u84, u85, u86, u87, u88, u89, u90, u91, u92, u93, u94, u95, u96, u97, u98, u99, u100, u101, u102, u103, u104, u105, u106, u107, u108, u109, u110, u111, u112, u113, u114, u115, u116, u117, u118, u119, u120, u121, u122, u123, s124, s125, s126, s127, s128, s129, s130, s131, s132, s133, s134, s135, s136, s137, s138, s139, s140, s141], []⟩ w')
    (hR : ∀ a w', bodyPost Tryd.prog Tryd.f8 (RefParsed w s) .ret a w' → Q0 .ret a w') :
    Code.wp Tryd.prog rpBody Q0 ⟨#[.string (bs s), .int .u8 32, s2, s3, .pointer (some ⟨w.heap.size, 0, none⟩), s5, .slice (some ⟨g, 0, none⟩) (splitL 32 s).length cap, s7, s8, s9, s10, .pointer (some ⟨jb, 0, none⟩), .bool ok, .int .i64 ((k : Int) + 5), s14, s15, s16, s17, s18, s19, s20, s21, s22, s23, s24, s25, s26, s27, s28, s29, s30, s31, s32, s33, s34, s35, s36, s37, s38, s39, s40, s41, s42, s43, s44, s45, s46, s47, s48, s49, s50, s51, s52, s53, s54, s55, s56, s57, s58, s59, s60, s61, s62, s63, s64, s65, s66, s67, s68, s69, s70, s71, s72, s73, s74, s75, s76, s77, s78, s79, s80, s81, s82, s83, s84, s85, s86, s87, s88, s89, s90, s91, s92, s93, s94, s95, s96, s97, s98, s99, s100, s101, s102, s103, s104, s105, s106, s107, s108, s109, s110, s111, s112, s113, s114, s115, s116, s117, s118, s119, s120, s121, s122, s123, s124, s125, s126, s127, s128, s129, s130, s131, s132, s133, s134, s135, s136, s137, s138, s139, s140, s141], []⟩ wr := by
  have HK := Lib.hid hK
  have HRT := Lib.hid hR
  have H := Lib.hid h
  have hz := h.bel.size
  obtain ⟨p, hp⟩ : ∃ p, (splitL 32 s)[k + 5]? = some p := ⟨_, List.getElem?_eq_getElem hk⟩
  have HP := Lib.hid hp
  have hpl : p.length ≤ 1000 := Nat.le_trans (split_len 32 s p (List.mem_of_getElem? hp)) hs
  have pc : wr.cell? ⟨g, k + 5, none⟩ = some (.string (bs p)) := own_cell h.row (by unfold strs; rw [List.getElem?_map, hp]; rfl)
  have kc := Lib.hid (refCut_any p 58 wr hpl)
  have hkI : (k : Int) + 5 < ((splitL 32 s).length : Int) := by omega
  have hk0 : (0 : Int) ≤ (k : Int) + 5 := by omega
  have hkt : ((k : Int) + 5).toNat = k + 5 := by omega
  have HLEN : Hid ((splitL 32 s).length ≤ 13) := hN
  generalize hNN : (splitL 32 s).length = N at *
  clear hK h hp hR
  conv => arg 2; whnf
  conv => arg 4; dsimp only
  go_wp2_with fail
  refine kc.out.mono ?_
  rintro e w1 ⟨A1, cap1, rfl, ho1, hb1⟩
  by_cases h3 : (splitL 58 p).length = 3
  rotate_left
  · have t1 : (((splitL 58 p).length : Int) != 3) = true := by simp; omega
    have HN := Lib.hid (H.out.star.three HP.out h3)
    have h1 := H.out.below hb1
    obtain ⟨r0, r1, r2, r3, r4, r5⟩ := six_cells h1.res
    have rf := fun o => warm_of h1.res o
    have HB1 := Lib.hid h1.bel
    clear h1 hb1 ho1 kc
    generalize (splitL 58 p).length = M at *
    go_wp2_with fail
    refine HRT.out _ _ ?_
    refine bodyPost_ret (v := .tuple #[.agg #[.int .i64 0, .int .i64 0, .int .i64 0, .string ⟨#[]⟩, .slice none 0 0, .bool false], .bool false]) (by simp [results, Tryd.results8, go_sem, r0, r1, r2, r3, r4, r5]) rfl ?_
    exact RefParsed.no HN.out (below_six HB1.out (Nat.le_refl _) _ _ _ _ _ _)
  · obtain ⟨q0, q1, q2, hq⟩ : ∃ q0 q1 q2, splitL 58 p = [q0, q1, q2] := by
      match hl : splitL 58 p, h3 with
      | [a, b, d], _ => exact ⟨a, b, d, rfl⟩
    have HQ := Lib.hid hq
    have hql : ∀ q ∈ splitL 58 p, q.length ≤ 1000 := fun q hm => Nat.le_trans (split_len 58 p q hm) hpl
    rw [hq] at ho1 hql ⊢
    rw [show ([q0, q1, q2] : List (List UInt8)).length = 3 from rfl] at ho1 ⊢
    obtain ⟨h', cap', hv1, _⟩ := ho1.form (by omega)
    obtain rfl : A1 = some ⟨h', 0, none⟩ := by injection hv1
    have d0 : w1.cell? ⟨h', 0, none⟩ = some (.string (bs q0)) := own_cell ho1 rfl
    have d1 : w1.cell? ⟨h', 1, none⟩ = some (.string (bs q1)) := own_cell ho1 rfl
    have d2 : w1.cell? ⟨h', 2, none⟩ = some (.string (bs q2)) := own_cell ho1 rfl
    have hlt := own_lt ho1 h' rfl
    have HB1 := Lib.hid hb1
    have l0 := hql q0 (by simp)
    have l1 := hql q1 (by simp)
    have l2 := hql q2 (by simp)
    have kn0 := Lib.hid (refNumber_any q0 w1 l0)
    clear hv1 ho1 hb1 kc hq h3 hql pc
    go_wp2_with fail
    refine kn0.out.mono ?_
    rintro e w2 ⟨v0, b0, rfl, _, g0, hb2⟩
    have hz1 := HB1.out.size
    have hz2 := hb2.size
    have d1' := (hb2.cell (p := ⟨h', 1, none⟩) hlt).trans d1
    have d2' := (hb2.cell (p := ⟨h', 2, none⟩) hlt).trans d2
    have HB2 : Hid (Below wr.heap.size wr w2) := HB1.out.trans (hb2.mono hz1)
    have hlt2 : h' < w2.heap.size := by omega
    have G0 : Hid (Got q0 v0 b0) := g0
    have kn1 := Lib.hid (refNumber_any q1 w2 l1)
    clear hb2 g0 kn0 d0 d1 d2
    go_wp2_with fail
    refine kn1.out.mono ?_
    rintro e w3 ⟨v1, b1, rfl, _, g1, hb3⟩
    have hz3 := hb3.size
    have d2 := (hb3.cell (p := ⟨h', 2, none⟩) hlt2).trans d2'
    have HB3 : Hid (Below wr.heap.size wr w3) := HB2.out.trans (hb3.mono HB2.out.size)
    have G1 : Hid (Got q1 v1 b1) := g1
    have kn2 := Lib.hid (refNumber_any q2 w3 l2)
    clear hb3 g1 kn1 d1' d2'
    go_wp2_with fail
    refine kn2.out.mono ?_
    rintro e w4 ⟨v2, b2, rfl, _, g2, hb4⟩
    have HB4 : Hid (Below wr.heap.size wr w4) := HB3.out.trans (hb4.mono HB3.out.size)
    have hst := H.out.star.next HP.out HQ.out G0.out G1.out g2
    have hp4 := H.out.below HB4.out
    obtain ⟨A5, c5, w5, hrun, e4, f4, hnext⟩ := hp4.add v0 v1 v2 (by omega)
    have z4 := (six_cells hp4.box).2.2.2.2.1
    have hjlt := lt_of_blk hp4.box
    have HR := Lib.hid hrun
    have HNX := Lib.hid (hnext _ hst)
    clear hb4 g2 kn2 d2 hst hp4 hrun hnext G0 G1 HQ HP H
    cases ok <;> cases b0 <;> cases b1
    all_goals
      go_wp2_with (at_builtin; refine wpList_append_run rfl _ _ _ rfl _ _ _ _ rfl rfl HR.out ?_)
      exact HK.out _ _ _ _ _ _ _ _ _ _ _ _ _ _ _ _ _ _ _ _ _ _ _ _ _ _ _ _ _ _ _ _ _ _ _ _ _ _ _ _ _ _ _ _ _ _ _ _ _ _ _ _ _ _ _ _ _ _ _ _ _ _ HNX.out

noncomputable def rpTest : Code := subCode [1, 1, 1, 1, 1, 1, 1, 1, 0, 1, 0, 0, 0] (Tryd.f8.body.getD .skip)
noncomputable def rpR12 : Code := subCode [1, 1, 1, 1, 1, 1, 1, 1, 0, 1, 0, 0, 1, 1] (Tryd.f8.body.getD .skip)

set_option maxRecDepth 100000 in
set_option maxHeartbeats 8000000 in
theorem rpLoop_any (s2 s3 s5 s7 s8 s9 s10 s14 s15 s16 s17 s18 s19 s20 s21 s22 s23 s24 s25 s26 s27 s28 s29 s30 s31 s32 s33 s34 s35 s36 s37 s38 s39 s40 s41 s42 s43 s44 s45 s46 s47 s48 s49 s50 s51 s52 s53 s54 s55 s56 s57 s58 s59 s60 s61 s62 s63 s64 s65 s66 s67 s68 s69 s70 s71 s72 s73 s74 s75 s76 s77 s78 s79 s80 s81 s82 s83 s84 s85 s86 s87 s88 s89 s90 s91 s92 s93 s94 s95 s96 s97 s98 s99 s100 s101 s102 s103 s104 s105 s106 s107 s108 s109 s110 s111 s112 s113 s114 s115 s116 s117 s118 s119 s120 s121 s122 s123 s124 s125 s126 s127 s128 s129 s130 s131 s132 s133 s134 s135 s136 s137 s138 s139 s140 s141 : Value) (Q0 : Exit → Act → World → Prop) (s : List UInt8) (g cap jb : Nat) (ok : Bool) (j : Jrn) (A : Option Addr) (c : Nat) (w wr : World) (hs : s.length ≤ 1000) (hN7 : 7 ≤ (splitL 32 s).length) (hN : (splitL 32 s).length ≤ 13) (h : PLoop s w wr g cap jb 0 ok j A c)
    (hQ : ∀ (u5 u13 u14 u15 u16 u17 u18 u19 u20 u69 u70 u71 u72 u73 u74 u75 u76 u77 u78 u79 u80 u81 u82 u83 u84 u85 u86 u87 u88 u89 u90 u91 u92 u93 u94 u95 u96 u97 u98 u99 u100 u101 u102 u103 u104 u105 u106 u107 u108 u109 u110 u111 u112 u113 u114 u115 u116 u117 u118 u119 u120 u121 u122 u123 : Value) (ok' : Bool) (j' : Jrn) (A' : Option Addr) (c' : Nat) (w' : World), PLoop s w w' g cap jb ((splitL 32 s).length - 5) ok' j' A' c' → Q0 (.exit 0) ⟨#[.string (bs s), .int .u8 32, s2, s3, .pointer (some ⟨w.heap.size, 0, none⟩), u5, .slice (some ⟨g, 0, none⟩) (splitL 32 s).length cap, s7, s8, s9, s10, .pointer (some ⟨jb, 0, none⟩), .bool ok', u13, u14, u15, u16, u17, u18, u19, u20, s21, s22, s23, s24, s25, s26, s27, s28, s29, s30, s31, s32, s33, s34, s35, s36, s37, s38, s39, s40, s41, s42, s43, s44, s45, s46, s47, s48, s49, s50, s51, s52, s53, s54, s55, s56, s57, s58, s59, s60, s61, s62, s63, s64, s65, s66, s67, s68, u69, u70, u71, u72, u73, u74, u75, u76, u77, u78, u79, u80, u81, u82, u83, u84, u85, u86, u87, u88, u89, u90, u91, u92, u93, u94, u95, u96, u97, u98, u99, u100, u101, u102, u103, u104, u105, u106, u107, u108, u109, u110, u111, u112, u113, u114, u115, u116, u117, u118, u119, u120, u121, u122, u123, s124, s125, s126, s127, s128, s129, s130, s131, s132, s133, s134, s135, s136, s137, s138, s139, s140, s141], []⟩ w')
    (hR : ∀ a w', bodyPost Tryd.prog Tryd.f8 (RefParsed w s) .ret a w' → Q0 .ret a w') :
    Code.wp Tryd.prog (Code.loop (Code.seq rpTest (Code.seq (Code.block 1 rpBody) rpR12))) Q0 ⟨#[.string (bs s), .int .u8 32, s2, s3, .pointer (some ⟨w.heap.size, 0, none⟩), s5, .slice (some ⟨g, 0, none⟩) (splitL 32 s).length cap, s7, s8, s9, s10, .pointer (some ⟨jb, 0, none⟩), .bool ok, .int .i64 5, s14, s15, s16, s17, s18, s19, s20, s21, s22, s23, s24, s25, s26, s27, s28, s29, s30, s31, s32, s33, s34, s35, s36, s37, s38, s39, s40, s41, s42, s43, s44, s45, s46, s47, s48, s49, s50, s51, s52, s53, s54, s55, s56, s57, s58, s59, s60, s61, s62, s63, s64, s65, s66, s67, s68, s69, s70, s71, s72, s73, s74, s75, s76, s77, s78, s79, s80, s81, s82, s83, s84, s85, s86, s87, s88, s89, s90, s91, s92, s93, s94, s95, s96, s97, s98, s99, s100, s101, s102, s103, s104, s105, s106, s107, s108, s109, s110, s111, s112, s113, s114, s115, s116, s117, s118, s119, s120, s121, s122, s123, s124, s125, s126, s127, s128, s129, s130, s131, s132, s133, s134, s135, s136, s137, s138, s139, s140, s141], []⟩ wr := by
  have HQ := Lib.hid hQ
  have HRT := Lib.hid hR
  clear hQ hR
  refine wp_loop (fun a w' => ∃ (u5 u14 u15 u16 u17 u18 u19 u20 u69 u70 u71 u72 u73 u74 u75 u76 u77 u78 u79 u80 u81 u82 u83 u84 u85 u86 u87 u88 u89 u90 u91 u92 u93 u94 u95 u96 u97 u98 u99 u100 u101 u102 u103 u104 u105 u106 u107 u108 u109 u110 u111 u112 u113 u114 u115 u116 u117 u118 u119 u120 u121 u122 u123 : Value) (k : Nat) (i : Int) (ok' : Bool) (j' : Jrn) (A' : Option Addr) (c' : Nat), (k + 5 ≤ (splitL 32 s).length ∧ i = (k : Int) + 5 ∧ PLoop s w w' g cap jb k ok' j' A' c') ∧ a = ⟨#[.string (bs s), .int .u8 32, s2, s3, .pointer (some ⟨w.heap.size, 0, none⟩), u5, .slice (some ⟨g, 0, none⟩) (splitL 32 s).length cap, s7, s8, s9, s10, .pointer (some ⟨jb, 0, none⟩), .bool ok', .int .i64 i, u14, u15, u16, u17, u18, u19, u20, s21, s22, s23, s24, s25, s26, s27, s28, s29, s30, s31, s32, s33, s34, s35, s36, s37, s38, s39, s40, s41, s42, s43, s44, s45, s46, s47, s48, s49, s50, s51, s52, s53, s54, s55, s56, s57, s58, s59, s60, s61, s62, s63, s64, s65, s66, s67, s68, u69, u70, u71, u72, u73, u74, u75, u76, u77, u78, u79, u80, u81, u82, u83, u84, u85, u86, u87, u88, u89, u90, u91, u92, u93, u94, u95, u96, u97, u98, u99, u100, u101, u102, u103, u104, u105, u106, u107, u108, u109, u110, u111, u112, u113, u114, u115, u116, u117, u118, u119, u120, u121, u122, u123, s124, s125, s126, s127, s128, s129, s130, s131, s132, s133, s134, s135, s136, s137, s138, s139, s140, s141], []⟩) (fun a _ => (splitL 32 s).length - (intOf (a.tmps.getD 13 undef)).toNat) ⟨_, _, _, _, _, _, _, _, _, _, _, _, _, _, _, _, _, _, _, _, _, _, _, _, _, _, _, _, _, _, _, _, _, _, _, _, _, _, _, _, _, _, _, _, _, _, _, _, _, _, _, _, _, _, _, _, _, _, _, _, _, _, _, 0, 5, ok, j, A, c, ⟨by omega, rfl, h⟩, rfl⟩ ?_
  intro a w' hI
  obtain ⟨u5, hI⟩ := hI
  obtain ⟨u14, hI⟩ := hI
  obtain ⟨u15, hI⟩ := hI
  obtain ⟨u16, hI⟩ := hI
  obtain ⟨u17, hI⟩ := hI
  obtain ⟨u18, hI⟩ := hI
  obtain ⟨u19, hI⟩ := hI
  obtain ⟨u20, hI⟩ := hI
  obtain ⟨u69, hI⟩ := hI
  obtain ⟨u70, hI⟩ := hI
  obtain ⟨u71, hI⟩ := hI
  obtain ⟨u72, hI⟩ := hI
  obtain ⟨u73, hI⟩ := hI
  obtain ⟨u74, hI⟩ := hI
  obtain ⟨u75, hI⟩ := hI
  obtain ⟨u76, hI⟩ := hI
  obtain ⟨u77, hI⟩ := hI
  obtain ⟨u78, hI⟩ := hI
  obtain ⟨u79, hI⟩ := hI
  obtain ⟨u80, hI⟩ := hI
  obtain ⟨u81, hI⟩ := hI
  obtain ⟨u82, hI⟩ := hI
  obtain ⟨u83, hI⟩ := hI
  obtain ⟨u84, hI⟩ := hI
  obtain ⟨u85, hI⟩ := hI
  obtain ⟨u86, hI⟩ := hI
  obtain ⟨u87, hI⟩ := hI
  obtain ⟨u88, hI⟩ := hI
  obtain ⟨u89, hI⟩ := hI
  obtain ⟨u90, hI⟩ := hI
  obtain ⟨u91, hI⟩ := hI
  obtain ⟨u92, hI⟩ := hI
  obtain ⟨u93, hI⟩ := hI
  obtain ⟨u94, hI⟩ := hI
  obtain ⟨u95, hI⟩ := hI
  obtain ⟨u96, hI⟩ := hI
  obtain ⟨u97, hI⟩ := hI
  obtain ⟨u98, hI⟩ := hI
  obtain ⟨u99, hI⟩ := hI
  obtain ⟨u100, hI⟩ := hI
  obtain ⟨u101, hI⟩ := hI
  obtain ⟨u102, hI⟩ := hI
  obtain ⟨u103, hI⟩ := hI
  obtain ⟨u104, hI⟩ := hI
  obtain ⟨u105, hI⟩ := hI
  obtain ⟨u106, hI⟩ := hI
  obtain ⟨u107, hI⟩ := hI
  obtain ⟨u108, hI⟩ := hI
  obtain ⟨u109, hI⟩ := hI
  obtain ⟨u110, hI⟩ := hI
  obtain ⟨u111, hI⟩ := hI
  obtain ⟨u112, hI⟩ := hI
  obtain ⟨u113, hI⟩ := hI
  obtain ⟨u114, hI⟩ := hI
  obtain ⟨u115, hI⟩ := hI
  obtain ⟨u116, hI⟩ := hI
  obtain ⟨u117, hI⟩ := hI
  obtain ⟨u118, hI⟩ := hI
  obtain ⟨u119, hI⟩ := hI
  obtain ⟨u120, hI⟩ := hI
  obtain ⟨u121, hI⟩ := hI
  obtain ⟨u122, hI⟩ := hI
  obtain ⟨u123, hI⟩ := hI
  obtain ⟨k, i, ok', j', A', c', ⟨hk, rfl, hp⟩, rfl⟩ := hI
  have HP := Lib.hid hp
  clear hp h
  refine wp_seq ?_
  conv => arg 2; whnf
  conv => arg 4; dsimp only
  by_cases hmn : k + 5 < (splitL 32 s).length
  · have hmI : (k : Int) + 5 < ((splitL 32 s).length : Int) := by omega
    go_wp2_with fail
    refine rpBody_any _ _ _ _ _ _ _ _ _ _ _ _ _ _ _ _ _ _ _ _ _ _ _ _ _ _ _ _ _ _ _ _ _ _ _ _ _ _ _ _ _ _ _ _ _ _ _ _ _ _ _ _ _ _ _ _ _ _ _ _ _ _ _ _ _ _ _ _ _ _ _ _ _ _ _ _ _ _ _ _ _ _ _ _ _ _ _ _ _ _ _ _ _ _ _ _ _ _ _ _ _ _ _ _ _ _ _ _ _ _ _ _ _ _ _ _ _ _ _ _ _ _ _ _ _ _ _ _ _ _ _ _ _ _ _ _ s g cap jb k ok' j' A' c' w w' hs hmn hN HP.out ?_ ?_
    · intro u5 u14 u15 u16 u17 u18 u19 u20 u75 u76 u77 u78 u79 u80 u81 u82 u83 u84 u85 u86 u87 u88 u89 u90 u91 u92 u93 u94 u95 u96 u97 u98 u99 u100 u101 u102 u103 u104 u105 u106 u107 u108 u109 u110 u111 u112 u113 u114 u115 u116 u117 u118 u119 u120 u121 u122 u123 ok2 j2 A2 c2 w6 hp6
      have HP6 := Lib.hid hp6
      clear hp6
      rename_i K hK
      refine hK _ _ ?_
      conv => arg 2; whnf
      conv => arg 4; dsimp only
      go_wp2
      refine ⟨⟨_, _, _, _, _, _, _, _, _, _, _, _, _, _, _, _, _, _, _, _, _, _, _, _, _, _, _, _, _, _, _, _, _, _, _, _, _, _, _, _, _, _, _, _, _, _, _, _, _, _, _, _, _, _, _, _, _, _, _, _, _, _, _, k + 1, (k : Int) + 5 + 1, ok2, j2, A2, c2, ⟨by omega, by omega, HP6.out⟩, rfl⟩, by simp [intOf]; omega⟩
    · intro a w6 hret
      exact HRT.out a w6 hret
  · have hk2 : k = (splitL 32 s).length - 5 := by omega
    have hmI : ¬ (k : Int) + 5 < ((splitL 32 s).length : Int) := by omega
    have HF : Hid (PLoop s w w' g cap jb ((splitL 32 s).length - 5) ok' j' A' c') := by rw [← hk2]; exact HP.out
    clear hk2 HP
    go_wp2
    exact HQ.out _ _ _ _ _ _ _ _ _ _ _ _ _ _ _ _ _ _ _ _ _ _ _ _ _ _ _ _ _ _ _ _ _ _ _ _ _ _ _ _ _ _ _ _ _ _ _ _ _ _ _ _ _ _ _ _ _ _ _ _ _ _ _ _ _ _ _ _ _ HF.out
end Go.Proofs.YtakjiehncoankaaDoor
