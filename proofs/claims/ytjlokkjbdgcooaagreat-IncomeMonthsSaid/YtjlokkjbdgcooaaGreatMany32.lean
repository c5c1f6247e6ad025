/-
  Several texts, one behind the other: what each holds stands ahead of it.
-/
import Derived.Test.YtjlokkjbdgcooaaGreatRefBook
import Derived.Test.YtjlokkjbdgcooaaGreatMany11
import Derived.Test.YtjlokkjbdgcooaaGreatRefPut

/-
  Contracts of the reference's Post, Voided.
-/
namespace Go.Proofs.YtjlokkjbdgcooaaGreat
open Go.RowKit

theorem postE_eqs (M : List Jrn) (j : Jrn) : (checkE j ≠ 0 ∧ postE M j = checkE j) ∨ (checkE j = 0 ∧ hasId M j.id = true ∧ postE M j = 7) ∨ (checkE j = 0 ∧ hasId M j.id = false ∧ takenJ M j = true ∧ postE M j = 8) ∨ (checkE j = 0 ∧ hasId M j.id = false ∧ takenJ M j = false ∧ 200 ≤ M.length ∧ postE M j = 13) ∨ (checkE j = 0 ∧ hasId M j.id = false ∧ takenJ M j = false ∧ ¬ 200 ≤ M.length ∧ postE M j = 0) := by
  unfold postE
  by_cases h1 : checkE j = 0
  · cases h2 : hasId M j.id
    · cases h3 : takenJ M j
      · by_cases h4 : 200 ≤ M.length
        · simp [h1, h4]
        · simp [h1, h4]
      · simp [h1]
    · simp [h1]
  · simp [h1]
/-- The reference's Get, whatever is found: the one that the book's Post asks. -/
theorem refGet_has (l : List JR) (x : Int) (A : Option Addr) (n c B : Nat) (w : World) (h : Rd w B 6 A n (jrs l)) (hB : B ≤ w.heap.size) (hn : n ≤ 1000000) :
    Calls Tryz.prog 201 #[.slice A n c, .int .i64 x] w fun e w' => (∃ (a0 a1 a2 : Int) (a3 : ByteArray) (a4 : Option Addr × Nat × Nat) (a5 : Bool), e = .returned (.tuple #[.agg #[.int .i64 a0, .int .i64 a1, .int .i64 a2, .string a3, .slice a4.1 a4.2.1 a4.2.2, .bool a5], .bool (hasId (l.map JR.j) x)])) ∧ Below w.heap.size w w' := by
  rw [hasId_map]
  cases hf : findK JR.id l x with
  | none => exact (refGet_none l x A n c B w h hB hn hf).mono fun e w' hh => ⟨⟨0, 0, 0, ⟨#[]⟩, (none, 0, 0), false, hh.1⟩, hh.2⟩
  | some a => exact (refGet_some l x a A n c B w h hB hn hf).mono fun e w' hh => ⟨⟨a.j.id, a.j.ent, a.j.per, a.j.ref, (a.A, a.j.lines.length, a.c), a.j.void, hh.1⟩, hh.2⟩

set_option maxRecDepth 100000 in
set_option maxHeartbeats 4000000 in
theorem refPost_any (l : List JR) (j : Jrn) (A A2 : Option Addr) (n c n2 c2 B B2 : Nat) (w : World) (h : Rd w B 6 A n (jrs l)) (hB : B ≤ w.heap.size) (hn : n ≤ 1000000) (h2 : Rd w B2 3 A2 n2 (lins j.lines)) (hB2 : B2 ≤ w.heap.size) :
    Calls Tryz.prog 165 #[.slice A n c, j.val A2 n2 c2] w fun e w' => e = .returned (.int .i64 (postE (l.map JR.j) j)) ∧ Below w.heap.size w w' := by
  obtain ⟨W, hW⟩ : ∃ W, w.alloc (.cells #[.int .i64 j.id, .int .i64 j.ent, .int .i64 j.per, .string j.ref, .slice A2 n2 c2, .bool j.void] 111) = W := ⟨_, rfl⟩
  have hbW : Below w.heap.size w W := by rw [← hW]; exact (Below.refl _ _).alloc (Nat.le_refl _) _
  have hzW : W.heap.size = w.heap.size + 1 := by rw [← hW]; simp
  have HW := Lib.hid hW
  have HBW := Lib.hid hbW
  have HR : Hid (∀ w1, Below W.heap.size W w1 → Rd w1 B 6 A n (jrs l)) := fun w1 hb => h.far (hbW.trans (hb.mono hbW.size)) hB
  have HFIN : Hid (∀ w1, Below W.heap.size W w1 → Below w.heap.size w w1) := fun w1 hb => hbW.trans (hb.mono hbW.size)
  have kc := Lib.hid (refCheck_any j A2 n2 c2 B2 W (h2.far hbW hB2) (by omega))
  have kg : Hid (∀ w1, Below W.heap.size W w1 → Calls Tryz.prog 201 #[.slice A n c, .int .i64 j.id] w1 fun e w' => (∃ (a0 a1 a2 : Int) (a3 : ByteArray) (a4 : Option Addr × Nat × Nat) (a5 : Bool), e = .returned (.tuple #[.agg #[.int .i64 a0, .int .i64 a1, .int .i64 a2, .string a3, .slice a4.1 a4.2.1 a4.2.2, .bool a5], .bool (hasId (l.map JR.j) j.id)])) ∧ Below w1.heap.size w1 w') := fun w1 hb => refGet_has l j.id A n c B w1 (HR.out w1 hb) (by have := hb.size; omega) hn
  have kt : Hid (∀ w1, Below W.heap.size W w1 → Calls Tryz.prog 202 #[.slice A n c, j.val A2 n2 c2] w1 fun e w' => e = .returned (.bool (takenJ (l.map JR.j) j)) ∧ Below w1.heap.size w1 w') := fun w1 hb => refTakenR_any l j A A2 n c n2 c2 B w1 (HR.out w1 hb) (by have := hb.size; omega) hn
  have hlen : (l.map JR.j).length = n := by rw [List.length_map]; exact h.jrs_len
  have HC := Lib.hid (postE_eqs (l.map JR.j) j)
  rw [hlen] at HC
  clear h h2 hW hbW hlen
  generalize postE (l.map JR.j) j = E at *
  generalize checkE j = K at *
  generalize hasId (l.map JR.j) j.id = G at *
  generalize takenJ (l.map JR.j) j = T at *
  obtain ⟨id, ent, per, ref, L, void⟩ := j
  unfold Jrn.val at *
  dsimp only at *
  rcases HC.out with ⟨h1, rfl⟩ | ⟨rfl, rfl, rfl⟩ | ⟨rfl, rfl, rfl, rfl⟩ | ⟨rfl, rfl, rfl, h4, rfl⟩ | ⟨rfl, rfl, rfl, h4, rfl⟩
  all_goals
    clear HC
    try have ht : (E != 0) = true := by simpa using h1
    try have hI : (200 : Int) ≤ (n : Int) := by omega
    try have hI : ¬ (200 : Int) ≤ (n : Int) := by omega
    go_enter Tryz.func165, Tryz.ntmps165
    go_wp2_with fail
    rw [HW.out]
    refine kc.out.mono ?_
    rintro e w1 ⟨rfl, hb1⟩
    have HB1 := Lib.hid hb1
    obtain ⟨b0, b1, b2, b3, b4, b5⟩ := box6 HW.out hb1
    clear hb1
    go_wp2_with fail
    refine (kg.out w1 HB1.out).mono ?_
    rintro e w2 ⟨⟨a0, a1, a2, a3, a4, a5, rfl⟩, hb2⟩
    have HB2 : Hid (Below W.heap.size W w2) := HB1.out.trans (hb2.mono HB1.out.size)
    clear hb2 b0 b1 b2 b3 b4 b5
    obtain ⟨x4, x5, x6⟩ := a4
    dsimp only
    have HB3 : Hid (∀ o, Below W.heap.size W (w2.alloc o)) := fun o => HB2.out.alloc HB2.out.size o
    obtain ⟨b0, b1, b2, b3, b4, b5⟩ := box6 HW.out HB2.out
    have hlt2 : w.heap.size < w2.heap.size := by have := HB2.out.size; omega
    go_wp2_with fail
    first
      | (go_ret; exact ⟨rfl, HFIN.out _ (HB3.out _)⟩)
      | (refine (kt.out _ (HB3.out _)).mono ?_
         rintro e w3 ⟨rfl, hb3⟩
         have HB4 := Lib.hid (HFIN.out _ ((HB3.out _).trans (hb3.mono (HB3.out _).size)))
         clear hb3 b0 b1 b2 b3 b4 b5
         go_wp2_with fail
         go_ret
         exact ⟨rfl, HB4.out⟩)
end Go.Proofs.YtjlokkjbdgcooaaGreat

/-
  Contracts of the statements' Of and Fit.
-/
namespace Go.Proofs.YtjlokkjbdgcooaaGreat
open Go.RowKit

set_option maxRecDepth 100000 in
set_option maxHeartbeats 1000000 in
theorem lawOf_any (l : List JR) (A : Option Addr) (n cap B : Nat) (w : World) (h : JlRd w B A n l) (hB : B ≤ w.heap.size) (hn : n ≤ maxLen) (hE : ofE [] (l.map JR.j) = 0) :
    Calls Tryz.prog 109 #[.slice A n cap] w fun e w' => e = .returned (.pointer (some ⟨w.heap.size, 0, none⟩)) ∧ TomeIn (fun k => k < w.heap.size + 1 ∧ k ≠ w.heap.size) (w.alloc (.cells #[.slice none 0 0] 270)) w.heap.size w.heap.size (ofM [] (l.map JR.j)) w' := by
  have ko := Lib.hid (of_any l A n cap B w h hB hn)
  have HE := Lib.hid hE
  clear h hE
  go_enter Tryz.func109, Tryz.ntmps109
  go_wp2_with fail
  refine ko.out.mono ?_
  rintro e w1 ⟨hq, _, _⟩
  obtain ⟨he, h1⟩ := hq HE.out
  clear hq
  subst he
  have H1 := Lib.hid h1
  clear h1
  go_wp2_with fail
  go_ret
  exact ⟨rfl, H1.out⟩

/-- A list that came of Put. -/
theorem PutEnd.jl {w w' : World} {l : List JR} {j : Jrn} {v : Value} {B n : Nat} {A : Option Addr} (h : PutEnd w l j v w') (hl : JlRd w B A n l) (hB : B ≤ w.heap.size) (hok : checkE j = 0) : ∃ A2 c2 A3 c3, v = .slice A3 (putK JR.id l ⟨j, A2, c2⟩).length c3 ∧ JlRd w' w'.heap.size A3 (putK JR.id l ⟨j, A2, c2⟩).length (putK JR.id l ⟨j, A2, c2⟩) ∧ Below w.heap.size w w' := by
  obtain ⟨A2, c2, h1, h2, h3⟩ := h
  obtain ⟨A3, c3, rfl⟩ := own_form h1
  have hz := h3.size
  refine ⟨A2, c2, A3, c3, rfl, ⟨rd_of_own h1, fun a ha => ?_, fun a ha => ?_, fun a ha => ?_⟩, h3⟩
  · rcases mem_put ha with rfl | ha
    · exact rd_of_own h2
    · exact ((hl.lines a ha).far h3 hB).wide (by omega)
  · rcases mem_put ha with rfl | ha
    · exact own_nil h2
    · exact hl.nil a ha
  · rcases mem_put ha with rfl | ha
    · exact checkE_max hok
    · exact hl.size a ha

set_option maxRecDepth 100000 in
set_option maxHeartbeats 4000000 in
theorem fitN_any (m : Nat) (hm : m ≤ 100) (l : List JR) (A : Option Addr) (n c B : Nat) (w : World) (h : JlRd w B A n l) (hB : B ≤ w.heap.size) (hn : n ≤ maxLen) :
    Calls Tryz.prog 111 #[.slice A n c, .int .i64 (m : Int)] w fun e w' => ∃ A' c' X, e = .returned (.slice A' X.length c') ∧ JlRd w' w'.heap.size A' X.length X ∧ GoodM (X.map JR.j) ∧ X.length ≤ m ∧ X.length ≤ n ∧ Below w.heap.size w w' := by
  unfold maxLen at hn
  have HJ := Lib.hid h
  clear h
  go_enter Tryz.func111, Tryz.ntmps111
  go_wp2_with fail
  go_loopw [5, 6] (fun ov iv wr => ∃ (k : Nat) (A' : Option Addr) (c' : Nat) (X : List JR), k ≤ n ∧ iv = .int .i64 k ∧ ov = .slice A' X.length c' ∧ JlRd wr wr.heap.size A' X.length X ∧ GoodM (X.map JR.j) ∧ X.length ≤ m ∧ X.length ≤ k ∧ Below w.heap.size w wr) (fun _ iv _ => n - (intOf iv).toNat)
  case atStart => exact ⟨0, none, 0, [], Nat.zero_le _, rfl, rfl, ⟨Rd.nil_, by simp, by simp, by simp⟩, GoodM.nil, by simp, by simp, Below.refl _ _⟩
  case round =>
    obtain ⟨k, A', c', X, hk, rfl, rfl, hX, hG, hX20, hXk, hbel⟩ := hrel
    have hzr := hbel.size
    by_cases hgo : k < n ∧ X.length < m
    · obtain ⟨hlt, hxl⟩ := hgo
      have hkn : (k : Int) < (n : Int) := by omega
      have hxI : (X.length : Int) < (m : Int) := by omega
      have hJ := HJ.out.far hbel hB
      obtain ⟨ad, b, rfl, hb1, hx, p1, p2, p3, p4, p5, p6⟩ := hJ.rd.jr hlt
      have hmem := List.mem_of_getElem? hx
      have hl63 := (HJ.out.size b hmem).2
      unfold maxLen at hl63
      by_cases h8 : b.j.lines.length ≤ 8
      · have h8I : (b.j.lines.length : Int) ≤ 8 := by omega
        have KP := Lib.hid (refPost_any X b.j A' b.A X.length c' b.j.lines.length b.c _ _ wr hX.rd (Nat.le_refl _) (by omega) (hJ.lines b hmem) (by omega))
        have KQ : Hid (∀ w1, Below wr.heap.size wr w1 → Calls Tryz.prog 166 #[.slice A' X.length c', b.j.val b.A b.j.lines.length b.c] w1 fun e w' => ∃ v, e = .returned v ∧ PutEnd w1 X b.j v w') := fun w1 hb1 => refPut_any X b.j A' b.A X.length c' b.c wr.heap.size B w1 (hX.rd.far hb1 (Nat.le_refl _)) hb1.size (by omega) (rise_jr hG.rise) ((hJ.lines b hmem).far hb1 (by omega)) (by have := hb1.size; omega) (by omega)
        have HR2 : Hid (∀ w1, Below wr.heap.size wr w1 → Rd w1 B 6 (some ad) n (jrs l)) := fun w1 hb => hJ.rd.far hb (by omega)
        have HX2 : Hid (∀ w1, Below wr.heap.size wr w1 → JlRd w1 w1.heap.size A' X.length X) := fun w1 hb => (hX.far hb (Nat.le_refl _)).wide hb.size
        have HB2 : Hid (∀ w1, Below wr.heap.size wr w1 → Below w.heap.size w w1) := fun w1 hb => hbel.trans (hb.mono hzr)
        have HG := Lib.hid hG
        have HXB := Lib.hid hx
        have HPUT : Hid (∀ w1 w2 v, Below wr.heap.size wr w1 → PutEnd w1 X b.j v w2 → checkE b.j = 0 → ∃ A2 c2 A3 c3, v = .slice A3 (putK JR.id X ⟨b.j, A2, c2⟩).length c3 ∧ JlRd w2 w2.heap.size A3 (putK JR.id X ⟨b.j, A2, c2⟩).length (putK JR.id X ⟨b.j, A2, c2⟩) ∧ Below w1.heap.size w1 w2) := fun w1 w2 v hb hp hok => hp.jl (hX.far hb (Nat.le_refl _)) hb.size hok
        unfold Jrn.val at KP KQ
        clear hx hX hG hbel hJ hmem
        by_cases hP : postE (X.map JR.j) b.j = 0
        · rw [hP] at KP
          have HP := Lib.hid hP
          have hblt : ad.block < wr.heap.size := by omega
          clear hP
          go_wp2_with fail
          refine KP.out.mono ?_
          rintro e w1 ⟨rfl, hb1⟩
          obtain ⟨ad', b', had, hb1', hx', q1, q2, q3, q4, q5, q6⟩ := (HR2.out w1 hb1).jr hlt
          injection had with had
          subst had
          obtain rfl : b' = b := by have := HXB.out; rw [hx'] at this; injection this
          have HB1 := Lib.hid hb1
          clear hb1 hx' p1 p2 p3 p4 p5 p6
          go_wp2_with fail
          refine (KQ.out w1 HB1.out).mono ?_
          rintro e w2 ⟨v, rfl, hpe⟩
          obtain ⟨A2, c2, A3, c3, rfl, hj2, hb2⟩ := HPUT.out w1 w2 v HB1.out hpe (postE_zero HP.out).1
          have HJ2 := Lib.hid hj2
          have HB3 := Lib.hid (HB2.out w2 (HB1.out.trans (hb2.mono HB1.out.size)))
          have hlen2 : (putK JR.id X ⟨b'.j, A2, c2⟩).length ≤ m := by
            rw [putK_len (rise_jr HG.out.rise)]
            split <;> omega
          have hlen3 : (putK JR.id X ⟨b'.j, A2, c2⟩).length ≤ k + 1 := by
            rw [putK_len (rise_jr HG.out.rise)]
            split <;> omega
          have HL3 := Lib.hid hlen3
          have HL2 := Lib.hid hlen2
          clear hj2 hb2 hpe q1 q2 q3 q4 q5 q6 hlen2 hlen3
          generalize hY : putK JR.id X ⟨b'.j, A2, c2⟩ = Y at *
          have HY := Lib.hid hY
          clear hY
          go_wp2_with fail
          refine ⟨⟨k + 1, A3, c3, Y, by omega, by go_num, rfl, HJ2.out, ?_, HL2.out, HL3.out, HB3.out⟩, by simp [intOf]; omega⟩
          rw [← HY.out, put_jr]
          exact HG.out.put HP.out
        · have ht : (postE (X.map JR.j) b.j == 0) = false := by simpa using hP
          clear hP
          generalize postE (X.map JR.j) b.j = E at *
          go_wp2_with fail
          refine KP.out.mono ?_
          rintro e w1 ⟨rfl, hb1⟩
          have HB1 := Lib.hid hb1
          clear hb1 p1 p2 p3 p4 p5 p6
          go_wp2_with fail
          exact ⟨⟨k + 1, A', c', X, by omega, by go_num, rfl, HX2.out w1 HB1.out, HG.out, by omega, by omega, HB2.out w1 HB1.out⟩, by simp [intOf]; omega⟩
      · have h8I : ¬ (b.j.lines.length : Int) ≤ 8 := by omega
        have HX := Lib.hid hX
        have HG := Lib.hid hG
        have HB := Lib.hid hbel
        clear hx hX hG hbel hJ hmem
        go_wp2_with fail
        exact ⟨⟨k + 1, A', c', X, by omega, by go_num, rfl, HX.out, HG.out, by omega, by omega, HB.out⟩, by simp [intOf]; omega⟩
    · have HX := Lib.hid hX
      have HG := Lib.hid hG
      have HB := Lib.hid hbel
      clear hX hG hbel
      by_cases h1 : k < n
      · have hkn : (k : Int) < (n : Int) := by omega
        have hxI : ¬ (X.length : Int) < (m : Int) := by omega
        go_wp2_with fail
        go_ret
        exact ⟨A', c', X, rfl, HX.out, HG.out, by omega, by omega, HB.out⟩
      · have hkn : ¬ (k : Int) < (n : Int) := by omega
        go_wp2_with fail
        go_ret
        exact ⟨A', c', X, rfl, HX.out, HG.out, by omega, by omega, HB.out⟩
theorem fit_any (l : List JR) (A : Option Addr) (n c B : Nat) (w : World) (h : JlRd w B A n l) (hB : B ≤ w.heap.size) (hn : n ≤ maxLen) :
    Calls Tryz.prog 111 #[.slice A n c, .int .i64 20] w fun e w' => ∃ A' c' X, e = .returned (.slice A' X.length c') ∧ JlRd w' w'.heap.size A' X.length X ∧ GoodM (X.map JR.j) ∧ X.length ≤ 20 ∧ Below w.heap.size w w' :=
  (fitN_any 20 (by omega) l A n c B w h hB hn).mono fun e w' hh => by
    obtain ⟨A', c', X, k1, k2, k3, k4, _, k5⟩ := hh
    exact ⟨A', c', X, k1, k2, k3, k4, k5⟩
end Go.Proofs.YtjlokkjbdgcooaaGreat
