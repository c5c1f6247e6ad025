/-
  The walk of the statement BookOf.
-/
-- HOLE2: obtain ⟨fuel0, hf0⟩ := h0
-- obtain ⟨l0, q0, n0, m0, _⟩ := argJrns hf0
-- exact bookOf_walk l0 a0 len0 cap0 a1 W q0 n0 m0
import Derived.Test.YtjnlfecfpeedoaaTomeAlive
import Derived.Test.YtjnlfecfpeedoaaTomeFit
import Derived.Test.YtjnlfecfpeedoaaTomeTurn
import Derived.Test.YtjnlfecfpeedoaaTomeAll
import Derived.Test.YtjnlfecfpeedoaaLentJrns
import Derived.Test.YtjnlfecfpeedoaaRefFew
import Derived.Test.YtjnlfecfpeedoaaArgJrns
import Derived.Test.YtjnlfecfpeedoaaCodeSub
import Derived.Deep.RegionLaw
namespace Go.Proofs.Ytjnlfecfpeedoaa
open Go.RowKit

theorem jl_size {l m : List JR} (h : ∀ a ∈ l, a.j.ref.size ≤ maxLen ∧ a.j.lines.length ≤ maxLen) (he : m.map JR.j = l.map JR.j) : ∀ a ∈ m, a.j.ref.size ≤ maxLen ∧ a.j.lines.length ≤ maxLen := fun a ha => by
  have : a.j ∈ l.map JR.j := by rw [← he]; exact List.mem_map.2 ⟨a, ha, rfl⟩
  obtain ⟨b, hb, e⟩ := List.mem_map.1 this
  rw [← e]; exact h b hb
theorem Rd.jdrop {w : World} {B n k : Nat} {ad : Addr} {l : List JR} (h : Rd w B 6 (some ad) n (jrs l)) (hk : k < n) : Rd w B 6 (some (ad.add (k * 6))) (n - k) (jrs (l.drop k)) := by
  have hl := h.jrs_len
  refine ⟨by rw [Go.Proofs.Ytjnlfecfpeedoaa.jrs_len]; simp; omega, fun _ => ?_⟩
  obtain ⟨a2, e, hb, hc⟩ := h.2 (by omega)
  injection e with e
  subst e
  refine ⟨_, rfl, by rw [add_block]; exact hb, fun j u hu => ?_⟩
  rw [add_add]
  refine hc _ u ?_
  rw [← jrs_drop, List.getElem?_drop] at hu
  exact hu
theorem Rd.jtake {w : World} {B n k : Nat} {A : Option Addr} {l : List JR} (h : Rd w B 6 A n (jrs l)) (hk : k ≤ n) : Rd w B 6 A k (jrs (l.take k)) := by
  have hl := h.jrs_len
  refine ⟨by rw [Go.Proofs.Ytjnlfecfpeedoaa.jrs_len]; simp; omega, fun h0 => ?_⟩
  obtain ⟨a2, e, hb, hc⟩ := h.2 (by omega)
  refine ⟨a2, e, hb, fun j u hu => hc j u ?_⟩
  rw [← jrs_take, List.getElem?_take] at hu
  split at hu
  · exact hu
  · cases hu
theorem idxO_any (k : Int) {n : Nat} (hn : 0 < n) (h30 : n ≤ 1000) : ∃ i : Nat, i < n ∧ (wrap64 (k.tmod (n : Int) + n)).tmod (n : Int) = (i : Int) := by
  have h1 := Int.tmod_lt_of_pos k (b := (n : Int)) (by omega)
  have h2 : -(n : Int) < k.tmod n := by
    have := Int.lt_tmod_of_pos k (b := (n : Int)) (by omega)
    omega
  rw [show wrap64 (k.tmod (n : Int) + n) = k.tmod (n : Int) + n from by unfold wrap64; omega]
  refine ⟨((k.tmod (n : Int) + n).tmod (n : Int)).toNat, ?_, ?_⟩
  · have h3 := Int.tmod_lt_of_pos (k.tmod (n : Int) + n) (b := (n : Int)) (by omega)
    have h4 := Int.tmod_nonneg (a := k.tmod (n : Int) + n) (n : Int) (by omega)
    omega
  · have h4 := Int.tmod_nonneg (a := k.tmod (n : Int) + n) (n : Int) (by omega)
    omega
/-- What the reference has behind k journals. -/
def OfSt (w4 : World) (L : List Jrn) (k : Nat) (A' : Option Addr) (c' : Nat) (X : List JR) (bad : Int) (wr : World) : Prop :=
  ((bad = 0 ∧ ofE [] (L.take k) = 0 ∧ X.map JR.j = ofM [] (L.take k)) ∨ (bad ≠ 0 ∧ bad = ofE [] L)) ∧ JlRd wr wr.heap.size A' X.length X ∧ GoodM (X.map JR.j) ∧ Below w4.heap.size w4 wr

set_option maxRecDepth 100000 in
set_option maxHeartbeats 8000000 in
theorem bookOf_walk (l : List JR) (A : Option Addr) (n c : Nat) (turn : Int) (w : World) (h : JlRd w w.heap.size A n l) (hn : n ≤ maxLen) (hcap : n ≤ c) :
    Calls Try.prog 3 #[.slice A n c, .int .i64 turn] w fun e w' => e = .returned (.bool true) ∧ Below w.heap.size w w' := by
  have kf := Lib.hid (few_any l A n c _ w h.rd (Nat.le_refl _) hn h.size)
  have HJ := Lib.hid h
  have HL := Lib.hid h.len
  clear h
  go_enter Try.func3, Try.ntmps3
  go_wp2_with fail
  refine kf.out.mono ?_
  rintro e w1 ⟨z, rfl, hz, hb1⟩
  have HB1 := Lib.hid hb1
  clear hb1
  cases z
  · clear hz
    go_wp2_with fail
    refine (alive_any _).mono ?_
    rintro e w2 ⟨rfl, hb2⟩
    have HB2 := Lib.hid (HB1.out.trans (hb2.mono HB1.out.size))
    clear hb2
    go_wp2_with fail
    go_ret
    exact ⟨rfl, HB2.out⟩
  obtain ⟨hn30, hsh⟩ := hz rfl
  clear hz
  go_wp2_with fail
  refine (alive_any _).mono ?_
  rintro e w2 ⟨rfl, hb2⟩
  have HB2 := Lib.hid (HB1.out.trans (hb2.mono HB1.out.size))
  clear hb2 HB1
  have KLENT := Lib.hid (lentJournals_any l A n c w.heap.size w2 (HJ.out.far HB2.out (Nat.le_refl _)) HB2.out.size (by omega) (fun a ha => by have := hsh a ha; omega))
  have HSH := Lib.hid hsh
  clear hsh
  go_wp2_with fail
  refine KLENT.out.mono ?_
  rintro e w3 ⟨g, cap, l1, rfl, hm1, hlent, hc1, hc2, hb3⟩
  have HB3 := Lib.hid (HB2.out.trans (hb3.mono HB2.out.size))
  have hsz1 := jl_size HJ.out.size hm1
  have HSZ1 := Lib.hid hsz1
  have KOF := Lib.hid (of_any l1 (some ⟨g, 0, none⟩) n cap _ w3 (hlent.jl hsz1) (Nat.le_refl _) hn)
  rw [hm1] at KOF
  have HLENT := Lib.hid hlent
  have HM1 := Lib.hid hm1
  clear hlent hb3 hsz1 KLENT HB2 hm1
  go_wp2_with fail
  refine KOF.out.mono ?_
  rintro e w4 ⟨hy, hno, hb4⟩
  obtain ⟨b, E, he, hbE⟩ : ∃ b E, e = .returned (.tuple #[.pointer b, .int .i64 E]) ∧ Hid (E = ofE [] (l.map JR.j) ∧ ((b == none) = (E != 0)) ∧ (E = 0 → b = some ⟨w3.heap.size, 0, none⟩ ∧ TomeIn (fun k => k < w3.heap.size + 1 ∧ k ≠ w3.heap.size) (w3.alloc (.cells #[.slice none 0 0] 50)) w3.heap.size w3.heap.size (ofM [] (l.map JR.j)) w4)) := by
    by_cases h0 : ofE [] (l.map JR.j) = 0
    · obtain ⟨h1, h2⟩ := hy h0
      exact ⟨some ⟨w3.heap.size, 0, none⟩, 0, h1, h0.symm, rfl, fun _ => ⟨rfl, h2⟩⟩
    · exact ⟨none, _, hno h0, rfl, by simpa using h0, fun h => absurd h h0⟩
  subst he
  have HB4 := Lib.hid hb4
  have HJ4 := Lib.hid (HJ.out.far (HB3.out.trans (hb4.mono HB3.out.size)) (Nat.le_refl _))
  clear hy hno hb4 KOF
  obtain ⟨L, hL⟩ : ∃ L, L = l.map JR.j := ⟨_, rfl⟩
  have HLL := Lib.hid hL
  rw [← hL] at hbE
  have hLn : L.length = n := by rw [hL, List.length_map]; exact HL.out
  have HLN := Lib.hid hLn
  have hz4 : w.heap.size ≤ w4.heap.size := Nat.le_trans HB3.out.size HB4.out.size
  clear hL hLn
  unfold maxLen at hn
  go_wp2_with fail
  go_loopw [8, 9, 10] (fun rv bv iv wr => ∃ (k : Nat) (A' : Option Addr) (c' : Nat) (X : List JR) (bad : Int), k ≤ n ∧ iv = .int .i64 k ∧ rv = .slice A' X.length c' ∧ bv = .int .i64 bad ∧ Hid (OfSt w4 L k A' c' X bad wr)) (fun _ _ iv _ => n - (intOf iv).toNat)
  case atStart => exact ⟨0, none, 0, [], 0, Nat.zero_le _, rfl, rfl, rfl, ⟨.inl ⟨rfl, rfl, rfl⟩, ⟨Rd.nil_, by simp, by simp, by simp⟩, GoodM.nil, Below.refl _ _⟩⟩
  case round =>
    obtain ⟨k, A', c', X, bad, hk, rfl, rfl, rfl, hst⟩ := hrel
    obtain ⟨hor, hX, hG, hbel⟩ := hst.out
    have hzr := hbel.size
    have hXl : X.length ≤ 200 := by have := hG.len; rwa [List.length_map] at this
    by_cases hgo : k < n ∧ bad = 0
    · obtain ⟨hlt, rfl⟩ := hgo
      obtain ⟨hE0, hXm⟩ : ofE [] (L.take k) = 0 ∧ X.map JR.j = ofM [] (L.take k) := by
        rcases hor with ⟨_, h1, h2⟩ | ⟨h1, _⟩
        · exact ⟨h1, h2⟩
        · exact absurd rfl h1
      have hkn : (k : Int) < (n : Int) := by omega
      have hJ := HJ4.out.far hbel hz4
      obtain ⟨ad, x, rfl, hb1, hx, p1, p2, p3, p4, p5, p6⟩ := hJ.rd.jr hlt
      have hmem := List.mem_of_getElem? hx
      have hgx : L[k]? = some x.j := by rw [HLL.out, List.getElem?_map, hx]; rfl
      have hstep := ofM_step (M := []) L k x.j hgx hE0
      rw [← hXm] at hstep
      have KP := Lib.hid (refPost_any X x.j A' x.A X.length c' x.j.lines.length x.c _ _ wr hX.rd (Nat.le_refl _) (by omega) (hJ.lines x hmem) (by omega))
      have KQ : Hid (∀ w1, Below wr.heap.size wr w1 → Calls Try.prog 11 #[.slice A' X.length c', x.j.val x.A x.j.lines.length x.c] w1 fun e w' => ∃ v, e = .returned v ∧ PutEnd w1 X x.j v w') := fun w1 hb1 => refPut_any X x.j A' x.A X.length c' x.c wr.heap.size w.heap.size w1 (hX.rd.far hb1 (Nat.le_refl _)) hb1.size (by omega) (rise_jr hG.rise) ((hJ.lines x hmem).far hb1 (by omega)) (by have := hb1.size; omega) (by have := HSH.out x hmem; omega)
      have HR2 : Hid (∀ w1, Below wr.heap.size wr w1 → Rd w1 w.heap.size 6 (some ad) n (jrs l)) := fun w1 hb => hJ.rd.far hb (by omega)
      have HX2 : Hid (∀ w1, Below wr.heap.size wr w1 → JlRd w1 w1.heap.size A' X.length X) := fun w1 hb => (hX.far hb (Nat.le_refl _)).wide hb.size
      have HB2 : Hid (∀ w1, Below wr.heap.size wr w1 → Below w4.heap.size w4 w1) := fun w1 hb => hbel.trans (hb.mono hzr)
      have HG := Lib.hid hG
      have HXB := Lib.hid hx
      have HSTEP := Lib.hid hstep
      have HPUT : Hid (∀ w1 w2 v, Below wr.heap.size wr w1 → PutEnd w1 X x.j v w2 → checkE x.j = 0 → ∃ A2 c2 A3 c3, v = .slice A3 (putK JR.id X ⟨x.j, A2, c2⟩).length c3 ∧ JlRd w2 w2.heap.size A3 (putK JR.id X ⟨x.j, A2, c2⟩).length (putK JR.id X ⟨x.j, A2, c2⟩) ∧ Below w1.heap.size w1 w2) := fun w1 w2 v hb hp hok => hp.jl (hX.far hb (Nat.le_refl _)) hb.size hok
      unfold Jrn.val at KP KQ
      clear hx hX hG hbel hJ hmem hgx hor hst hstep
      by_cases hP : postE (X.map JR.j) x.j = 0
      · rw [hP] at KP
        have HP := Lib.hid hP
        clear hP
        go_wp2_with fail
        refine KP.out.mono ?_
        rintro e w5 ⟨rfl, hb5⟩
        obtain ⟨ad', x', had, hb1', hx', q1, q2, q3, q4, q5, q6⟩ := (HR2.out w5 hb5).jr hlt
        injection had with had
        subst had
        obtain rfl : x' = x := by have := HXB.out; rw [hx'] at this; injection this
        have HB5 := Lib.hid hb5
        clear hb5 hx' p1 p2 p3 p4 p5 p6
        go_wp2_with fail
        refine (KQ.out w5 HB5.out).mono ?_
        rintro e w6 ⟨v, rfl, hpe⟩
        obtain ⟨A2, c2, A3, c3, rfl, hj2, hb6⟩ := HPUT.out w5 w6 v HB5.out hpe (postE_zero HP.out).1
        have HB6 := Lib.hid (HB2.out w6 (HB5.out.trans (hb6.mono HB5.out.size)))
        have HNX : Hid (OfSt w4 L (k + 1) A3 c3 (putK JR.id X ⟨x'.j, A2, c2⟩) 0 w6) := by
          refine ⟨.inl ⟨rfl, ?_, ?_⟩, hj2, ?_, HB6.out⟩
          · rw [HSTEP.out.1]; exact HP.out
          · rw [HSTEP.out.2 HP.out, put_jr]
            unfold postL
            rw [if_pos HP.out]
          · rw [put_jr]; exact HG.out.put HP.out
        clear hj2 hb6 hpe q1 q2 q3 q4 q5 q6
        generalize putK JR.id X ⟨x'.j, A2, c2⟩ = Y at *
        go_wp2_with fail
        exact ⟨⟨k + 1, A3, c3, Y, 0, by omega, by go_num, rfl, rfl, HNX⟩, by simp [intOf]; omega⟩
      · have ht : (postE (X.map JR.j) x.j == 0) = false := by simpa using hP
        have HNX : Hid (∀ w5, Below wr.heap.size wr w5 → OfSt w4 L (k + 1) A' c' X (postE (X.map JR.j) x.j) w5) := fun w5 hb5 => ⟨.inr ⟨hP, by rw [← HSTEP.out.1]; exact (ofE_no L (k + 1) (by rw [HSTEP.out.1]; exact hP)).symm⟩, HX2.out w5 hb5, HG.out, HB2.out w5 hb5⟩
        clear hP
        generalize postE (X.map JR.j) x.j = P at *
        go_wp2_with fail
        refine KP.out.mono ?_
        rintro e w5 ⟨rfl, hb5⟩
        have HN5 := Lib.hid (HNX.out w5 hb5)
        clear hb5 p1 p2 p3 p4 p5 p6
        go_wp2_with fail
        exact ⟨⟨k + 1, A', c', X, P, by omega, by go_num, rfl, rfl, HN5⟩, by simp [intOf]; omega⟩
    · have hbad : bad = E := by
        rw [hbE.out.1]
        rcases hor with ⟨h1, h2, h3⟩ | ⟨_, h2⟩
        · have hkn : k = n := by omega
          rw [h1, ← h2, List.take_of_length_le (by rw [HLN.out]; omega)]
        · exact h2
      have hXm : E = 0 → X.map JR.j = ofM [] L := by
        intro h0
        rcases hor with ⟨h1, h2, h3⟩ | ⟨h1, _⟩
        · have hkn : k = n := by omega
          rw [h3, List.take_of_length_le (by rw [HLN.out]; omega)]
        · exact absurd (hbad.trans h0) h1
      subst hbad
      have t1 : (bad != bad) = false := by simp
      have hb3r : Below w3.heap.size w3 wr := HB4.out.trans (hbel.mono HB4.out.size)
      have ks := Lib.hid (staysJournals_any l l1 A g n cap c w.heap.size w2.heap.size wr (HLENT.out.kept hb3r) (HJ4.out.far hbel hz4) (by omega) (by omega) hc1 hc2 HSZ1.out HM1.out)
      have HXX := Lib.hid hX
      have HXM := Lib.hid hXm
      have HB3R : Hid (Below w.heap.size w wr) := HB3.out.trans (hb3r.mono HB3.out.size)
      have HB4R := Lib.hid hbel
      have hgo2 : ¬ ((k : Int) < (n : Int) ∧ bad = 0) := by omega
      clear hor hX hG hbel hst hgo hXm hb3r
      by_cases hE0 : bad = 0
      · subst hE0
        obtain ⟨hb, hT⟩ := hbE.out.2.2 rfl
        subst hb
        have hkn : ¬ (k : Int) < (n : Int) := by omega
        clear hgo2
        have HT := Lib.hid hT
        have HE0 : Hid (ofE [] L = 0) := hbE.out.1.symm
        clear hT hbE
        go_wp2_with fail
        refine ks.out.mono ?_
        rintro e w5 ⟨rfl, hb5⟩
        have HB5 := Lib.hid (HB3R.out.trans (hb5.mono HB3R.out.size))
        have HB45 : Hid (Below w4.heap.size w4 w5) := HB4R.out.trans (hb5.mono HB4R.out.size)
        have HX5 := Lib.hid ((HXX.out.far hb5 (Nat.le_refl _)).wide hb5.size)
        clear hb5 ks HXX
        by_cases hn0 : n = 0
        · have hz : ((n : Int) == 0) = true := by rw [beq_iff_eq]; omega
          go_wp2_with fail
          go_ret
          exact ⟨rfl, HB5.out⟩
        have hz : ((n : Int) == 0) = false := by rw [beq_eq_false_iff_ne]; omega
        have hJ5 := HJ.out.far HB5.out (Nat.le_refl _)
        obtain ⟨ad, rfl, hadb, _⟩ := hJ5.rd.2 (by omega)
        obtain ⟨i, hi, hidx⟩ := idxO_any turn (n := n) (by omega) (by omega)
        have hr2 : Rd w5.drew w.heap.size 6 (some ad) n (jrs l) := hJ5.rd
        have hrd := hr2.jdrop hi
        obtain ⟨v1, w6, hrun1, hown1, hg1, _⟩ := append_fresh (P := Try.prog) (w := w5.drew) (ty := 22) (c := c - i) infoJrn Try.underlying22 rfl (by omega) w5.heap.size (.slice none 0 0) 0 [] (World.ownsRow_nil _ _ _ _) hrd (jrs_one _) (by unfold maxLen; omega) (by omega) (Nat.le_refl _)
        have hB6 : Below w5.heap.size w5.drew w6 := (Below.refl _ _).grown hg1 (Nat.le_refl _) (fun k h => by cases h)
        rw [Nat.zero_add, List.nil_append] at hown1
        have hz5 := HB5.out.size
        have hrt := (hr2.below (hB6.mono hz5)).jtake (Nat.le_of_lt hi)
        obtain ⟨v2, w7, hrun2, hown2, hg2, _⟩ := append_fresh (P := Try.prog) (w := w6) (ty := 22) (c := c) infoJrn Try.underlying22 rfl (by omega) w5.heap.size v1 (n - i) _ hown1 hrt (jrs_one _) (by unfold maxLen; omega) (by omega) hg1.size
        obtain ⟨A2, c2, rfl⟩ := own_form hown2
        have hb57 : Below w5.heap.size w5 w7 := ((Below.refl _ w5).drew.trans hB6).grown hg2 hg1.size (fun q hq => own_ge hown1 q hq)
        have HN : Hid (n - i + i = n) := by unfold Hid; omega
        rw [HN.out, ← jrs_append] at hown2
        have hmem2 : ∀ a, a ∈ l.drop i ++ l.take i → a ∈ l := fun a ha => (List.mem_append.1 ha).elim List.mem_of_mem_drop List.mem_of_mem_take
        have hJ7 : JlRd w7 w7.heap.size A2 n (l.drop i ++ l.take i) := by
          have hz7 := hb57.size
          refine ⟨rd_of_own hown2, fun a ha => ?_, fun a ha => hJ5.nil a (hmem2 a ha), fun a ha => hJ5.size a (hmem2 a ha)⟩
          exact ((hJ5.lines a (hmem2 a ha)).far hb57 hz5).wide (by omega)
        have hmap2 : (l.drop i ++ l.take i).map JR.j = L.drop i ++ L.take i := by rw [HLL.out, List.map_append, List.map_drop, List.map_take]
        have hturn := of_turn (turn_perm L i) HE0.out
        have KO := Lib.hid (of_any (l.drop i ++ l.take i) A2 n c2 _ w7 hJ7 (Nat.le_refl _) (by unfold maxLen; omega))
        rw [hmap2, hturn.1, hturn.2] at KO
        have HB7 := Lib.hid (HB5.out.trans (hb57.mono hz5))
        have HB57 := Lib.hid hb57
        have HR1 := Lib.hid hrun1
        have HR2 := Lib.hid hrun2
        have hk1 : i ≤ n := Nat.le_of_lt hi
        have hk2 : i ≤ c := by omega
        have hkI : (i : Int) ≤ (n : Int) := by omega
        have hkc : ¬ c = i := by omega
        obtain ⟨v9, lb, hTb, hmb, _⟩ := HT.out
        have hb47 : Below w4.heap.size w4 w7 := HB45.out.trans (hb57.mono HB45.out.size)
        have HTB := Lib.hid (hTb.below hb47)
        have HMB := Lib.hid hmb
        have HX7 := Lib.hid ((HX5.out.far hb57 (Nat.le_refl _)).wide hb57.size)
        clear hJ5 hr2 hrd hrun1 hown1 hg1 hB6 hrt hrun2 hown2 hg2 hb57 hJ7 hmap2 hturn hTb hmb hb47 HT
        go_wp2_with fail
        go_region_law (first | (refine step_append_run rfl _ (.tmp 89) 22 rfl (.slice none 0 0) (.slice (some (ad.add (i * 6))) (n - i) (c - i)) v1 w6 rfl (by simp [Act.eval, Act.put]) HR1.out ?_) | (refine step_append_run rfl (.tmp 90) (.tmp 93) 22 rfl v1 (.slice (some ad) i c) _ w7 (by simp [Act.eval]) (by simp [Act.eval]) HR2.out ?_) | (go_simp; go_at_call 9; refine KO.out.mono ?_; rintro e w8 ⟨hy, hno, hb8⟩; obtain ⟨he, hTc⟩ := hy (by first | rfl | trivial); subst he; have HTC := Lib.hid hTc; have HB8 := Lib.hid hb8; clear hy hno hb8 hTc))
        all_goals
          obtain ⟨vc, lc, hTc, hmc, _⟩ := HTC.out
          have HTCC := Lib.hid hTc
          have HMC := Lib.hid hmc
          have HTB8 := Lib.hid (HTB.out.below HB8.out)
          have HX8 := Lib.hid ((HX7.out.far HB8.out (Nat.le_refl _)).wide HB8.out.size)
          have hlbX : lb.length = X.length := by
            have := congrArg List.length (HMB.out.trans (HXM.out (by first | rfl | trivial)).symm)
            rwa [List.length_map, List.length_map] at this
          clear HTC hTc hmc HTB HX7
          go_wp2_with fail
          refine (all_any _ _ _ _ w8 HTB8.out).mono ?_
          rintro e w9 ⟨A9, c9, l9, rfl, hm9, ho9, hb9⟩
          have hs9 : ∀ a ∈ l9, a.j.ref.size ≤ maxLen ∧ a.j.lines.length ≤ maxLen := jl_size (fun a ha => checkE_max (HTB8.out.ok a ha)) hm9
          have KS := Lib.hid (sameJournals_any l9 X A9 A' X.length c9 c' _ _ w9 (by have := ho9.rd hs9; rw [hlbX] at this; exact this) (HX8.out.far hb9 (Nat.le_refl _)) (Nat.le_refl _) hb9.size (by omega) (by rw [hm9, HMB.out, HXM.out (by first | rfl | trivial)]))
          rw [hlbX]
          have HTB9 := Lib.hid (HTB8.out.below hb9)
          have HTC9 := Lib.hid (HTCC.out.below hb9)
          have HB9 : Hid (Below w.heap.size w w9) := (HB7.out.trans (HB8.out.mono HB7.out.size)).trans (hb9.mono (Nat.le_trans HB7.out.size HB8.out.size))
          clear ho9 hb9 hs9 hm9
          go_wp2_with fail
          refine KS.out.mono ?_
          rintro e w10 ⟨rfl, hb10⟩
          have HTB10 := Lib.hid (HTB9.out.below hb10)
          have HTC10 := Lib.hid (HTC9.out.below hb10)
          have HB10 := Lib.hid (HB9.out.trans (hb10.mono HB9.out.size))
          clear hb10
          go_wp2_with fail
          refine (same_yes _ _ _ _ _ _ _ _ w10 HTB10.out HTC10.out (by rw [HMB.out, HMC.out])).mono ?_
          rintro e w11 ⟨rfl, hb11⟩
          have HTB11 := Lib.hid (HTB10.out.below hb11)
          have HTC11 := Lib.hid (HTC10.out.below hb11)
          have HB11 := Lib.hid (HB10.out.trans (hb11.mono HB10.out.size))
          clear hb11
          go_wp2_with fail
          refine (same_yes _ _ _ _ _ _ _ _ w11 HTC11.out HTB11.out (by rw [HMB.out, HMC.out])).mono ?_
          rintro e w12 ⟨rfl, hb12⟩
          have HB12 := Lib.hid (HB11.out.trans (hb12.mono HB11.out.size))
          clear hb12
          go_wp2_with fail
          go_ret
          exact ⟨rfl, HB12.out⟩
      · have hb : b = none := by
          have := hbE.out.2.1
          rw [show (bad != 0) = true by simpa using hE0] at this
          simpa using this
        subst hb
        have t2 : (bad != 0) = true := by simpa using hE0
        have t3 : (bad == 0) = false := by simpa using hE0
        have hkc : Hid ((k : Int) < (n : Int) ∨ ¬ (k : Int) < (n : Int)) := by unfold Hid; omega
        clear hE0 hgo2 hbE
        rcases hkc.out with hkn | hkn
        all_goals
          go_wp2_with fail
          refine ks.out.mono ?_
          rintro e w5 ⟨rfl, hb5⟩
          have HB5 := Lib.hid (HB3R.out.trans (hb5.mono HB3R.out.size))
          clear hb5
          go_wp2_with fail
          go_ret
          exact ⟨rfl, HB5.out⟩
end Go.Proofs.Ytjnlfecfpeedoaa
