/-
  Several texts, one behind the other: what each holds stands ahead of it.
-/
import Derived.Test.YtafloaabjinkfaaGreatMany10
import Derived.Test.YtafloaabjinkfaaGreatMany25
import Derived.Test.YtafloaabjinkfaaGreatRefPut
import Derived.Test.YtafloaabjinkfaaGreatMany16

/-
  Contracts of the statements' Of and Fit.
-/
namespace Go.Proofs.YtafloaabjinkfaaGreat
open Go.RowKit

set_option maxRecDepth 100000 in
set_option maxHeartbeats 1000000 in
theorem lawOf_any (l : List JR) (A : Option Addr) (n cap B : Nat) (w : World) (h : JlRd w B A n l) (hB : B ≤ w.heap.size) (hn : n ≤ maxLen) (hE : ofE [] (l.map JR.j) = 0) :
    Calls Tryz.prog 13 #[.slice A n cap] w fun e w' => e = .returned (.pointer (some ⟨w.heap.size, 0, none⟩)) ∧ TomeIn (fun k => k < w.heap.size + 1 ∧ k ≠ w.heap.size) (w.alloc (.cells #[.slice none 0 0] 62)) w.heap.size w.heap.size (ofM [] (l.map JR.j)) w' := by
  have ko := Lib.hid (of_any l A n cap B w h hB hn)
  have HE := Lib.hid hE
  clear h hE
  go_enter Tryz.func13, Tryz.ntmps13
  go_wp2_with fail
  refine ko.out.mono ?_
  rintro e w1 ⟨hq, _, _⟩
  obtain ⟨he, h1⟩ := hq HE.out
  clear hq
  subst he
  have H1 := Lib.hid h1
  clear h1
  go_wp2_with fail
  go_ret
  exact ⟨rfl, H1.out⟩

/-- A list that came of Put. -/
theorem PutEnd.jl {w w' : World} {l : List JR} {j : Jrn} {v : Value} {B n : Nat} {A : Option Addr} (h : PutEnd w l j v w') (hl : JlRd w B A n l) (hB : B ≤ w.heap.size) (hok : checkE j = 0) : ∃ A2 c2 A3 c3, v = .slice A3 (putK JR.id l ⟨j, A2, c2⟩).length c3 ∧ JlRd w' w'.heap.size A3 (putK JR.id l ⟨j, A2, c2⟩).length (putK JR.id l ⟨j, A2, c2⟩) ∧ Below w.heap.size w w' := by
  obtain ⟨A2, c2, h1, h2, h3⟩ := h
  obtain ⟨A3, c3, rfl⟩ := own_form h1
  have hz := h3.size
  refine ⟨A2, c2, A3, c3, rfl, ⟨rd_of_own h1, fun a ha => ?_, fun a ha => ?_, fun a ha => ?_⟩, h3⟩
  · rcases mem_put ha with rfl | ha
    · exact rd_of_own h2
    · exact ((hl.lines a ha).far h3 hB).wide (by omega)
  · rcases mem_put ha with rfl | ha
    · exact own_nil h2
    · exact hl.nil a ha
  · rcases mem_put ha with rfl | ha
    · exact checkE_max hok
    · exact hl.size a ha

set_option maxRecDepth 100000 in
set_option maxHeartbeats 4000000 in
theorem fitN_any (m : Nat) (hm : m ≤ 100) (l : List JR) (A : Option Addr) (n c B : Nat) (w : World) (h : JlRd w B A n l) (hB : B ≤ w.heap.size) (hn : n ≤ maxLen) :
    Calls Tryz.prog 39 #[.slice A n c, .int .i64 (m : Int)] w fun e w' => ∃ A' c' X, e = .returned (.slice A' X.length c') ∧ JlRd w' w'.heap.size A' X.length X ∧ GoodM (X.map JR.j) ∧ X.length ≤ m ∧ X.length ≤ n ∧ Below w.heap.size w w' := by
  unfold maxLen at hn
  have HJ := Lib.hid h
  clear h
  go_enter Tryz.func39, Tryz.ntmps39
  go_wp2_with fail
  go_loopw [5, 6] (fun ov iv wr => ∃ (k : Nat) (A' : Option Addr) (c' : Nat) (X : List JR), k ≤ n ∧ iv = .int .i64 k ∧ ov = .slice A' X.length c' ∧ JlRd wr wr.heap.size A' X.length X ∧ GoodM (X.map JR.j) ∧ X.length ≤ m ∧ X.length ≤ k ∧ Below w.heap.size w wr) (fun _ iv _ => n - (intOf iv).toNat)
  case atStart => exact ⟨0, none, 0, [], Nat.zero_le _, rfl, rfl, ⟨Rd.nil_, by simp, by simp, by simp⟩, GoodM.nil, by simp, by simp, Below.refl _ _⟩
  case round =>
    obtain ⟨k, A', c', X, hk, rfl, rfl, hX, hG, hX20, hXk, hbel⟩ := hrel
    have hzr := hbel.size
    by_cases hgo : k < n ∧ X.length < m
    · obtain ⟨hlt, hxl⟩ := hgo
      have hkn : (k : Int) < (n : Int) := by omega
      have hxI : (X.length : Int) < (m : Int) := by omega
      have hJ := HJ.out.far hbel hB
      obtain ⟨ad, b, rfl, hb1, hx, p1, p2, p3, p4, p5, p6⟩ := hJ.rd.jr hlt
      have hmem := List.mem_of_getElem? hx
      have hl63 := (HJ.out.size b hmem).2
      unfold maxLen at hl63
      by_cases h8 : b.j.lines.length ≤ 8
      · have h8I : (b.j.lines.length : Int) ≤ 8 := by omega
        have KP := Lib.hid (refPost_any X b.j A' b.A X.length c' b.j.lines.length b.c _ _ wr hX.rd (Nat.le_refl _) (by omega) (hJ.lines b hmem) (by omega))
        have KQ : Hid (∀ w1, Below wr.heap.size wr w1 → Calls Tryz.prog 59 #[.slice A' X.length c', b.j.val b.A b.j.lines.length b.c] w1 fun e w' => ∃ v, e = .returned v ∧ PutEnd w1 X b.j v w') := fun w1 hb1 => refPut_any X b.j A' b.A X.length c' b.c wr.heap.size B w1 (hX.rd.far hb1 (Nat.le_refl _)) hb1.size (by omega) (rise_jr hG.rise) ((hJ.lines b hmem).far hb1 (by omega)) (by have := hb1.size; omega) (by omega)
        have HR2 : Hid (∀ w1, Below wr.heap.size wr w1 → Rd w1 B 6 (some ad) n (jrs l)) := fun w1 hb => hJ.rd.far hb (by omega)
        have HX2 : Hid (∀ w1, Below wr.heap.size wr w1 → JlRd w1 w1.heap.size A' X.length X) := fun w1 hb => (hX.far hb (Nat.le_refl _)).wide hb.size
        have HB2 : Hid (∀ w1, Below wr.heap.size wr w1 → Below w.heap.size w w1) := fun w1 hb => hbel.trans (hb.mono hzr)
        have HG := Lib.hid hG
        have HXB := Lib.hid hx
        have HPUT : Hid (∀ w1 w2 v, Below wr.heap.size wr w1 → PutEnd w1 X b.j v w2 → checkE b.j = 0 → ∃ A2 c2 A3 c3, v = .slice A3 (putK JR.id X ⟨b.j, A2, c2⟩).length c3 ∧ JlRd w2 w2.heap.size A3 (putK JR.id X ⟨b.j, A2, c2⟩).length (putK JR.id X ⟨b.j, A2, c2⟩) ∧ Below w1.heap.size w1 w2) := fun w1 w2 v hb hp hok => hp.jl (hX.far hb (Nat.le_refl _)) hb.size hok
        unfold Jrn.val at KP KQ
        clear hx hX hG hbel hJ hmem
        by_cases hP : postE (X.map JR.j) b.j = 0
        · rw [hP] at KP
          have HP := Lib.hid hP
          have hblt : ad.block < wr.heap.size := by omega
          clear hP
          go_wp2_with fail
          refine KP.out.mono ?_
          rintro e w1 ⟨rfl, hb1⟩
          obtain ⟨ad', b', had, hb1', hx', q1, q2, q3, q4, q5, q6⟩ := (HR2.out w1 hb1).jr hlt
          injection had with had
          subst had
          obtain rfl : b' = b := by have := HXB.out; rw [hx'] at this; injection this
          have HB1 := Lib.hid hb1
          clear hb1 hx' p1 p2 p3 p4 p5 p6
          go_wp2_with fail
          refine (KQ.out w1 HB1.out).mono ?_
          rintro e w2 ⟨v, rfl, hpe⟩
          obtain ⟨A2, c2, A3, c3, rfl, hj2, hb2⟩ := HPUT.out w1 w2 v HB1.out hpe (postE_zero HP.out).1
          have HJ2 := Lib.hid hj2
          have HB3 := Lib.hid (HB2.out w2 (HB1.out.trans (hb2.mono HB1.out.size)))
          have hlen2 : (putK JR.id X ⟨b'.j, A2, c2⟩).length ≤ m := by
            rw [putK_len (rise_jr HG.out.rise)]
            split <;> omega
          have hlen3 : (putK JR.id X ⟨b'.j, A2, c2⟩).length ≤ k + 1 := by
            rw [putK_len (rise_jr HG.out.rise)]
            split <;> omega
          have HL3 := Lib.hid hlen3
          have HL2 := Lib.hid hlen2
          clear hj2 hb2 hpe q1 q2 q3 q4 q5 q6 hlen2 hlen3
          generalize hY : putK JR.id X ⟨b'.j, A2, c2⟩ = Y at *
          have HY := Lib.hid hY
          clear hY
          go_wp2_with fail
          refine ⟨⟨k + 1, A3, c3, Y, by omega, by go_num, rfl, HJ2.out, ?_, HL2.out, HL3.out, HB3.out⟩, by simp [intOf]; omega⟩
          rw [← HY.out, put_jr]
          exact HG.out.put HP.out
        · have ht : (postE (X.map JR.j) b.j == 0) = false := by simpa using hP
          clear hP
          generalize postE (X.map JR.j) b.j = E at *
          go_wp2_with fail
          refine KP.out.mono ?_
          rintro e w1 ⟨rfl, hb1⟩
          have HB1 := Lib.hid hb1
          clear hb1 p1 p2 p3 p4 p5 p6
          go_wp2_with fail
          exact ⟨⟨k + 1, A', c', X, by omega, by go_num, rfl, HX2.out w1 HB1.out, HG.out, by omega, by omega, HB2.out w1 HB1.out⟩, by simp [intOf]; omega⟩
      · have h8I : ¬ (b.j.lines.length : Int) ≤ 8 := by omega
        have HX := Lib.hid hX
        have HG := Lib.hid hG
        have HB := Lib.hid hbel
        clear hx hX hG hbel hJ hmem
        go_wp2_with fail
        exact ⟨⟨k + 1, A', c', X, by omega, by go_num, rfl, HX.out, HG.out, by omega, by omega, HB.out⟩, by simp [intOf]; omega⟩
    · have HX := Lib.hid hX
      have HG := Lib.hid hG
      have HB := Lib.hid hbel
      clear hX hG hbel
      by_cases h1 : k < n
      · have hkn : (k : Int) < (n : Int) := by omega
        have hxI : ¬ (X.length : Int) < (m : Int) := by omega
        go_wp2_with fail
        go_ret
        exact ⟨A', c', X, rfl, HX.out, HG.out, by omega, by omega, HB.out⟩
      · have hkn : ¬ (k : Int) < (n : Int) := by omega
        go_wp2_with fail
        go_ret
        exact ⟨A', c', X, rfl, HX.out, HG.out, by omega, by omega, HB.out⟩
theorem fit_any (l : List JR) (A : Option Addr) (n c B : Nat) (w : World) (h : JlRd w B A n l) (hB : B ≤ w.heap.size) (hn : n ≤ maxLen) :
    Calls Tryz.prog 39 #[.slice A n c, .int .i64 20] w fun e w' => ∃ A' c' X, e = .returned (.slice A' X.length c') ∧ JlRd w' w'.heap.size A' X.length X ∧ GoodM (X.map JR.j) ∧ X.length ≤ 20 ∧ Below w.heap.size w w' :=
  (fitN_any 20 (by omega) l A n c B w h hB hn).mono fun e w' hh => by
    obtain ⟨A', c', X, k1, k2, k3, k4, _, k5⟩ := hh
    exact ⟨A', c', X, k1, k2, k3, k4, k5⟩
end Go.Proofs.YtafloaabjinkfaaGreat

/-
  A world that is made: the program's chart and book of the reference's lists.
-/
namespace Go.Proofs.YtafloaabjinkfaaGreat
open Go.RowKit

set_option maxRecDepth 100000 in
set_option maxHeartbeats 400000 in
theorem law3Make_any (C : List Acc) (A : Option Addr) (n c B : Nat) (w : World) (h : Rd w B 3 A n (accs C)) (hB : B ≤ w.heap.size) (hn : n ≤ 1000) (hg : GoodA C) :
    Calls Tryz.prog 31 #[.slice A n c] w fun e w' => ∃ v, e = .returned (.pointer (some ⟨w.heap.size, 0, none⟩)) ∧ ChartAt w' w.heap.size w.heap.size v C ∧ Below w.heap.size w w' := by
  have kn := new_any C A n c B w h hB (by omega)
  unfold NewPost at kn
  obtain ⟨h1, h2⟩ := new_good hg
  rw [h1, h2] at kn
  have KN := Lib.hid kn
  have z0 : ((0 : Int) != 0) = false := rfl
  clear kn h hg h1 h2
  go_enter Tryz.func31, Tryz.ntmps31
  go_wp2_with fail
  refine KN.out.mono ?_
  rintro e w1 ⟨hb, hx⟩
  rcases hx with ⟨h0, _⟩ | ⟨_, rfl, v, hC⟩
  · exact absurd rfl h0
  have HB := Lib.hid hb; have HC := Lib.hid hC
  clear hb hC
  go_wp2_with fail
  go_ret
  exact ⟨v, rfl, HC.out, HB.out⟩
theorem law6Of_any (r : List JR) (A : Option Addr) (n cap B : Nat) (w : World) (h : JlRd w B A n r) (hB : B ≤ w.heap.size) (hn : n ≤ maxLen) (hg : GoodM (r.map JR.j)) :
    Calls Tryz.prog 13 #[.slice A n cap] w fun e w' => ∃ v l, e = .returned (.pointer (some ⟨w.heap.size, 0, none⟩)) ∧ TomeAt w' w.heap.size w.heap.size v l ∧ l.map JR.j = r.map JR.j ∧ Below w.heap.size w w' := by
  obtain ⟨h1, h2⟩ := GoodM.of (r.map JR.j) [] (by simpa using hg)
  refine (lawOf_any r A n cap B w h hB hn h1).mono fun e w' hh => ?_
  obtain ⟨he, ht⟩ := hh
  have hb := ht.below w ((Below.refl _ _).alloc (Nat.le_refl _) _) fun k hk => ⟨by omega, by omega⟩
  obtain ⟨v, l, k1, k2, _⟩ := ht
  rw [h2] at k2
  exact ⟨v, l, he, k1, by simpa using k2, hb⟩

/-- A row whose first cell is a number does not lie in a block of slices: it stays where that one is written. -/
theorem rd_off {w : World} {rb B size n : Nat} {A : Option Addr} {xs : List Value} {T : TypeId} {a1 a2 a3 : Option Addr} {m1 m2 m3 k1 k2 k3 : Nat} (hr : w.heap[rb]? = some (.cells #[.slice a1 m1 k1, .slice a2 m2 k2, .slice a3 m3 k3] T (0, 0))) (h : Rd w B size A n xs) (h0 : 0 < n → ∃ x, xs[0]? = some (.int .i64 x)) (i : Nat) (u : Value) : Rd (w.setCell ⟨rb, i, none⟩ u) B size A n xs := by
  refine ⟨h.1, fun hn => ?_⟩
  obtain ⟨ad, e, hb, hc⟩ := h.2 hn
  obtain ⟨x, hx⟩ := h0 hn
  have c0 := hc 0 _ hx
  have hne : ad.block ≠ rb := by
    intro e2
    obtain ⟨bl, off, sp⟩ := ad
    dsimp only at e2
    subst e2
    simp only [Addr.add, if_pos] at c0
    cases sp <;> simp [World.cell?, hr] at c0
    match off, c0 with
    | 0, c0 => simp at c0
    | 1, c0 => simp at c0
    | 2, c0 => simp at c0
    | q + 3, c0 => simp at c0
  refine ⟨ad, e, hb, fun j v hv => ?_⟩
  rw [← hc j v hv]
  have hh : (w.setCell ⟨rb, i, none⟩ u).heap[(ad.add j).block]? = w.heap[(ad.add j).block]? := Below.heap_setCell _ _ _ _ (by rw [add_block]; exact hne)
  unfold World.cell?
  rw [hh]
theorem jl_off {w : World} {rb B n : Nat} {A : Option Addr} {r : List JR} {T : TypeId} {a1 a2 a3 : Option Addr} {m1 m2 m3 k1 k2 k3 : Nat} (hr : w.heap[rb]? = some (.cells #[.slice a1 m1 k1, .slice a2 m2 k2, .slice a3 m3 k3] T (0, 0))) (h : JlRd w B A n r) (i : Nat) (u : Value) : JlRd (w.setCell ⟨rb, i, none⟩ u) B A n r := by
  refine ⟨rd_off hr h.rd (fun hn => ?_) i u, fun a ha => rd_off hr (h.lines a ha) (fun hn => ?_) i u, h.nil, h.size⟩
  · have := h.rd.jrs_len
    match r, this with
    | [], h0 => simp at h0; omega
    | b :: r, _ => exact ⟨b.j.id, rfl⟩
  · match hl : a.j.lines with
    | [] => rw [hl] at hn; simp at hn
    | x :: L => exact ⟨x.acct, rfl⟩

noncomputable def mkR20 : Code := subCode [1, 1, 1, 1, 1, 1, 0] (Tryz.f10.body.getD .skip)
set_option maxRecDepth 100000 in
set_option maxHeartbeats 2000000 in
theorem mkR20_any (s0 s1 s2 s3 s4 s6 s7 s8 s9 s10 s11 s12 s13 s14 s15 s16 s17 s18 s19 s20 s21 s22 s23 s24 s25 s26 s27 s28 s29 s30 s31 s32 s33 s34 s35 s36 s37 s38 s39 s40 s41 s42 s43 s44 s45 s46 s47 s48 s49 s50 s51 s52 s53 s54 s55 s56 s57 s58 s59 s60 s61 s62 s63 s64 s65 s66 s67 s68 s69 s70 s71 s72 s73 s74 s75 s76 s77 s78 s79 s80 s81 s82 s83 s84 s85 s86 s87 s88 s89 s90 s91 s92 s93 s94 s95 s96 s97 s98 s99 s100 s101 s102 s103 s104 s105 s106 s107 s108 s109 s110 s111 s112 s113 s114 s115 s116 s117 s118 s119 s120 s121 s122 s123 s124 s125 s126 s127 s128 s129 s130 : Value) (Q0 : Exit → Act → World → Prop) (C : List Acc) (r : List JR) (Ac Ab : Option Addr) (nc nb cc cb rb : Nat) (w : World) (r0 : w.cell? ⟨rb, 0, none⟩ = some (.slice Ac nc cc)) (r2 : w.cell? ⟨rb, 2, none⟩ = some (.slice Ab nb cb))
    (hC : Rd w w.heap.size 3 Ac nc (accs C)) (hJ : JlRd w w.heap.size Ab nb r) (hg : GoodA C) (hgm : GoodM (r.map JR.j)) (hn1 : nc ≤ 1000) (hn2 : nb ≤ maxLen)
    (hQ : ∀ (u114 u115 u116 u117 u118 u119 : Value) (c1 b1 : Nat) (v1 v2 : Value) (l : List JR) (w2 : World), ChartAt w2 c1 c1 v1 C → TomeAt w2 b1 b1 v2 l → l.map JR.j = r.map JR.j → w.heap.size ≤ c1 → w.heap.size ≤ b1 → Below w.heap.size w w2 → Q0 .normal ⟨#[s0, s1, s2, s3, s4, .pointer (some ⟨rb, 0, none⟩), s6, s7, s8, s9, s10, s11, s12, s13, .pointer (some ⟨c1, 0, none⟩), .pointer (some ⟨b1, 0, none⟩), s16, s17, s18, s19, s20, s21, s22, s23, s24, s25, s26, s27, s28, s29, s30, s31, s32, s33, s34, s35, s36, s37, s38, s39, s40, s41, s42, s43, s44, s45, s46, s47, s48, s49, s50, s51, s52, s53, s54, s55, s56, s57, s58, s59, s60, s61, s62, s63, s64, s65, s66, s67, s68, s69, s70, s71, s72, s73, s74, s75, s76, s77, s78, s79, s80, s81, s82, s83, s84, s85, s86, s87, s88, s89, s90, s91, s92, s93, s94, s95, s96, s97, s98, s99, s100, s101, s102, s103, s104, s105, s106, s107, s108, s109, s110, s111, s112, s113, u114, u115, u116, u117, u118, u119, s120, s121, s122, s123, s124, s125, s126, s127, s128, s129, s130], []⟩ w2) :
    Code.wp Tryz.prog mkR20 Q0 ⟨#[s0, s1, s2, s3, s4, .pointer (some ⟨rb, 0, none⟩), s6, s7, s8, s9, s10, s11, s12, s13, s14, s15, s16, s17, s18, s19, s20, s21, s22, s23, s24, s25, s26, s27, s28, s29, s30, s31, s32, s33, s34, s35, s36, s37, s38, s39, s40, s41, s42, s43, s44, s45, s46, s47, s48, s49, s50, s51, s52, s53, s54, s55, s56, s57, s58, s59, s60, s61, s62, s63, s64, s65, s66, s67, s68, s69, s70, s71, s72, s73, s74, s75, s76, s77, s78, s79, s80, s81, s82, s83, s84, s85, s86, s87, s88, s89, s90, s91, s92, s93, s94, s95, s96, s97, s98, s99, s100, s101, s102, s103, s104, s105, s106, s107, s108, s109, s110, s111, s112, s113, s114, s115, s116, s117, s118, s119, s120, s121, s122, s123, s124, s125, s126, s127, s128, s129, s130], []⟩ w := by
  have hrw : rb < w.heap.size := block_of_cell r0
  have kc : Hid (∀ w1, Below w.drew.heap.size w.drew w1 → Calls Tryz.prog 31 #[.slice Ac nc cc] w1 fun e w' => ∃ v, e = .returned (.pointer (some ⟨w1.heap.size, 0, none⟩)) ∧ ChartAt w' w1.heap.size w1.heap.size v C ∧ Below w1.heap.size w1 w') := fun w1 hb =>
    law3Make_any C Ac nc cc w.heap.size w1 ((hC.below (Below.refl _ _).drew).below hb) hb.size hn1 hg
  have kb : Hid (∀ w1, Below w.drew.heap.size w.drew w1 → Calls Tryz.prog 13 #[.slice Ab nb cb] w1 fun e w' => ∃ v l, e = .returned (.pointer (some ⟨w1.heap.size, 0, none⟩)) ∧ TomeAt w' w1.heap.size w1.heap.size v l ∧ l.map JR.j = r.map JR.j ∧ Below w1.heap.size w1 w') := fun w1 hb =>
    law6Of_any r Ab nb cb w.heap.size w1 ((hJ.far (Below.refl w.heap.size w).drew (Nat.le_refl _)).far hb (Nat.le_refl _)) hb.size hn2 hgm
  have HQ := Lib.hid hQ
  clear hQ hC hJ hg hgm
  refine wp_onEnd ?_
  conv => arg 2; whnf
  conv => arg 4; dsimp only
  go_region_law (first
    | (go_simp; go_at_call 31; refine (kc.out _ HB1.out).mono ?_; rintro e w2 ⟨v1, rfl, hC, hb2⟩)
    | (go_simp; go_at_call 13; refine (kb.out _ HB1.out).mono ?_; rintro e w2 ⟨v2, l, rfl, hT, hm, hb2⟩)
    | (go_simp; go_at_call 31; refine (kc.out _ (Below.refl _ _)).mono ?_; rintro e w1 ⟨v1, rfl, hC, hb1⟩; have q2 := (hb1.cell (p := ⟨rb, 2, none⟩) (by exact hrw)).trans r2; have HB1 := Lib.hid hb1; clear hb1)
    | (go_simp; go_at_call 13; refine (kb.out _ (Below.refl _ _)).mono ?_; rintro e w1 ⟨v2, l, rfl, hT, hm, hb1⟩; have q0 := (hb1.cell (p := ⟨rb, 0, none⟩) (by exact hrw)).trans r0; have HB1 := Lib.hid hb1; clear hb1))
  all_goals go_simp
  all_goals first
    | exact HQ.out _ _ _ _ _ _ w.heap.size w1.heap.size v1 v2 l w2 (hC.below hb2) hT hm (Nat.le_refl _) HB1.out.size ((Below.refl _ w).drew.trans (HB1.out.trans (hb2.mono HB1.out.size)))
    | exact HQ.out _ _ _ _ _ _ w1.heap.size w.heap.size v1 v2 l w2 hC (hT.below hb2) hm HB1.out.size (Nat.le_refl _) ((Below.refl _ w).drew.trans (HB1.out.trans (hb2.mono HB1.out.size)))
end Go.Proofs.YtafloaabjinkfaaGreat
