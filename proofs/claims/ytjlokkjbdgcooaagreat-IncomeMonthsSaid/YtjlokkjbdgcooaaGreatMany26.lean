/-
  Several texts, one behind the other: what each holds stands ahead of it.
-/
import Derived.Test.YtjlokkjbdgcooaaGreatMany25
import Derived.Test.YtjlokkjbdgcooaaGreatMany13
import Derived.Test.YtjlokkjbdgcooaaGreatMany19

/-
  Contracts of slices.Clone over accounts, (*Chart).All, (*Chart).Kind.
-/
namespace Go.Proofs.YtjlokkjbdgcooaaGreat
open Go.RowKit

set_option maxRecDepth 100000 in
theorem kind_nil (A : Option Addr) (n c : Nat) (w : World) : Calls Tryz.prog 207 #[.pointer none, .slice A n c] w fun e w' => e = .returned (.slice none 0 0) ∧ w = w' := by
  go_enter Tryz.func207, Tryz.ntmps207
  go_wp2
  go_ret
  exact ⟨rfl, rfl⟩
theorem kindL_yes {l : List Acc} {ks : List Int} {j : Nat} {a : Acc} (ha : l[j]? = some a) (h : ks.contains a.kind = true) : kindL (l.take (j + 1)) ks = kindL (l.take j) ks ++ [a.code] := by
  obtain ⟨hl, rfl⟩ := List.getElem?_eq_some_iff.1 ha
  unfold kindL
  rw [List.take_succ_eq_append_getElem hl, List.filter_append]
  simp only [List.filter_cons, List.filter_nil]
  rw [if_pos h, List.map_append]
  rfl
theorem kindL_no {l : List Acc} {ks : List Int} {j : Nat} {a : Acc} (ha : l[j]? = some a) (h : ks.contains a.kind = false) : kindL (l.take (j + 1)) ks = kindL (l.take j) ks := by
  obtain ⟨hl, rfl⟩ := List.getElem?_eq_some_iff.1 ha
  unfold kindL
  rw [List.take_succ_eq_append_getElem hl, List.filter_append]
  simp only [List.filter_cons, List.filter_nil]
  rw [if_neg (by rw [h]; simp), List.append_nil]
theorem kindL_len (l : List Acc) (ks : List Int) : (kindL l ks).length ≤ l.length := by
  unfold kindL
  rw [List.length_map]
  exact List.length_filter_le _ _

/-- What stands at the loop's head. w1: the world behind questionsOf. -/
def KindRel (w1 : World) (l : List Acc) (ks : List Int) (j : Nat) (lv : Value) (wr : World) : Prop :=
  ∃ A c, lv = .slice A (kindL (l.take j) ks).length c ∧ wr.ownsRow w1.heap.size 3 1 (.slice A (kindL (l.take j) ks).length c) (kindL (l.take j) ks).length (ints .i64 (kindL (l.take j) ks)) ∧ Below w1.heap.size w1 wr

set_option maxRecDepth 100000 in
set_option maxHeartbeats 2000000 in
theorem kind_any (B c : Nat) (v : Value) (l : List Acc) (ks : List Int) (A : Option Addr) (n cp B0 : Nat) (w : World) (h : ChartAt w B c v l) (hr : Rd w B0 1 A n (ints .i64 ks)) (hB : B0 ≤ w.heap.size) (hn : n ≤ 1000000) :
    Calls Tryz.prog 207 #[.pointer (some ⟨c, 0, none⟩), .slice A n cp] w fun e w' => ∃ A' c', e = .returned (.slice A' (kindL l ks).length c') ∧ w'.ownsRow w.heap.size 3 1 (.slice A' (kindL l ks).length c') (kindL l ks).length (ints .i64 (kindL l ks)) ∧ Below w.heap.size w w' := by
  obtain ⟨i0, hi0, hz0, hz1, hz2⟩ := info_parts infoInt
  have hI := Lib.hid hi0; have hZ0 := Lib.hid hz0; have hZ1 := Lib.hid hz1; have hZ2 := Lib.hid hz2
  clear hi0 hz0 hz1 hz2
  have HC := Lib.hid h
  have hclt := h.lt
  have hlen := h.good.len
  have kq := Lib.hid (questionsOf_any ks A n cp B0 w hr hB hn)
  have hal := askedTo_len ks 5
  have HAI := Lib.hid (askedTo_in ks 5 (Nat.le_refl _))
  obtain ⟨A0, cap, rfl⟩ := h.form
  clear h hr
  go_enter Tryz.func207, Tryz.ntmps207
  go_wp2_with fail
  refine kq.out.mono ?_
  rintro e w1 ⟨A1, c1, rfl, hq1, hb1⟩
  have hz1 := hb1.size
  have HQ1 := Lib.hid (rd_of_own hq1)
  have HB1 := Lib.hid hb1
  have hC1 := HC.out.below hb1
  have hcc := hC1.cell
  have HC1 := Lib.hid hC1
  clear hq1 hb1 hC1
  generalize (askedTo ks 5).length = m at *
  go_wp2_with fail
  go_loopw [6, 18] (fun lv iv wr => ∃ j : Nat, j ≤ l.length ∧ iv = .int .i64 j ∧ KindRel w1 l ks j lv wr) (fun _ iv _ => l.length - (intOf iv).toNat)
  case atStart => exact ⟨0, Nat.zero_le _, rfl, none, 0, rfl, World.ownsRow_nil _ _ _ _, Below.refl _ _⟩
  case round =>
    obtain ⟨j, hj, rfl, A2, c2, rfl, hown, hbel⟩ := hrel
    have hzr := hbel.size
    have hkl : (kindL (l.take j) ks).length ≤ 9999 := by have := kindL_len (l.take j) ks; simp at this; omega
    have HO := Lib.hid hown
    have HB := Lib.hid hbel
    have HCr := Lib.hid (HC1.out.below hbel)
    have HQr := Lib.hid (HQ1.out.below hbel)
    clear hown hbel
    generalize hM : (kindL (l.take j) ks).length = M at *
    have HM := Lib.hid hM
    clear hM
    by_cases hlt : j < l.length
    · have hg : l[j]? = some l[j] := List.getElem?_eq_getElem hlt
      obtain ⟨g, cap', he, hjl, hgl, _, hc0, hc1, hc2, _⟩ := HCr.out.at hg
      injection he with he _ he2
      subst he he2
      have hk := okRow_t (HC.out.good.2 l[j] (List.getElem_mem hlt))
      have HAS := Lib.hid (asked_any ks l[j].kind (by omega) (by omega))
      have HYES := Lib.hid (kindL_yes (ks := ks) hg)
      have HNO := Lib.hid (kindL_no (ks := ks) hg)
      clear hg hk
      generalize l[j] = a at *
      obtain ⟨x1, x2, x3⟩ := a
      have hjI : (j : Int) < (l.length : Int) := by omega
      have ky := fun (w2 : World) (hb : Below wr.heap.size wr w2) => saysYes_any (askedTo ks 5) x2 A1 m c1 w1.heap.size w2 (HQr.out.below (hb.mono hzr)) HAI.out (by omega)
      rw [show ((askedTo ks 5).any fun q => x2 == (q : Int)) = ks.contains x2 from HAS.out] at ky
      have KY := Lib.hid ky
      clear ky
      generalize hT : ks.contains x2 = t at *
      go_wp2_with fail
      refine (KY.out _ (by first | exact ((Below.refl _ _).alloc (Nat.le_refl _) _) | exact ((((Below.refl _ _).alloc (Nat.le_refl _) _).setCell (by simp) _).setCell (by simp) _).setCell (by simp) _)).mono ?_
      rintro e w2 ⟨rfl, rfl⟩
      cases t
      · go_wp2
        have HN2 : Hid (kindL (l.take (j + 1)) ks = kindL (l.take j) ks) := HNO.out (by first | exact hT | trivial)
        refine ⟨⟨j + 1, by omega, by go_num, A2, c2, ?_, ?_, ?_⟩, by simp [intOf]; omega⟩
        · rw [HN2.out, HM.out]
        · rw [HN2.out, HM.out]
          exact own_kept HO.out fun q hq _ => Below.heap_alloc _ _ _ hq
        · exact HB.out.alloc (by omega) _
      · have HN2 : Hid (kindL (l.take (j + 1)) ks = kindL (l.take j) ks ++ [x1]) := HYES.out (by first | exact hT | trivial)
        obtain ⟨v3, w3, hrun, hown3, hg3, _⟩ := append_fresh (P := Tryz.prog) (w := (wr.alloc (.cells #[.int .i64 x1, .int .i64 x2, .bool x3] 165)).alloc (.cells #[.int .i64 x1] 3)) (ty := 22) (c := 1) infoInt Tryz.underlying22 rfl (by omega) w1.heap.size _ M _ (own_kept HO.out fun q hq _ => (Below.heap_alloc _ _ _ (by simp; omega)).trans (Below.heap_alloc _ _ _ hq)) (rd_one (wr.alloc (.cells #[.int .i64 x1, .int .i64 x2, .bool x3] 165)) (.int .i64 x1) 3) (by simp [Value.oneCell']) (by unfold maxLen; omega) (by omega) (by simp; omega)
        obtain ⟨A3, c3, rfl⟩ := own_form hown3
        rw [show (wr.alloc (.cells #[.int .i64 x1, .int .i64 x2, .bool x3] 165)).heap.size = wr.heap.size + 1 by simp] at hrun
        have HR3 : Hid ((Builtin.append_ #[22, 22] 22 #[.slice A2 M c2, .slice (some ⟨wr.heap.size + 1, 0, none⟩) 1 1]).run Tryz.prog ((wr.alloc (.cells #[.int .i64 x1, .int .i64 x2, .bool x3] 165)).alloc (.cells #[.int .i64 x1] 3)) = .ok (.slice A3 (M + 1) c3) w3) := hrun
        have HB3 : Hid (Below w1.heap.size w1 w3) := ((HB.out.alloc (by omega) _).alloc (by simp; omega) _).grown hg3 (by simp; omega) (own_ge HO.out)
        have HO3 := Lib.hid hown3
        clear hT hrun hown3 hg3
        go_wp2_with (at_builtin; refine wpList_append_run rfl _ _ _ rfl _ _ _ _ rfl rfl HR3.out ?_)
        refine ⟨⟨j + 1, by omega, by go_num, A3, c3, ?_, ?_, HB3.out⟩, by simp [intOf]; omega⟩
        · rw [HN2.out, List.length_append, HM.out]; rfl
        · rw [HN2.out, List.length_append, HM.out]
          have := HO3.out
          simpa [ints] using this
    · obtain rfl : j = l.length := by omega
      go_wp2
      go_ret
      have HE : Hid (kindL (l.take l.length) ks = kindL l ks) := by show kindL _ ks = _; rw [List.take_length]
      refine ⟨A2, c2, ?_, ?_, ?_⟩
      · rw [← HE.out, HM.out]; rfl
      · rw [← HE.out, HM.out]; exact own_base HO.out (by omega)
      · exact HB1.out.trans (HB.out.mono hz1)
end Go.Proofs.YtjlokkjbdgcooaaGreat

/-
  Contracts of cmp.Less, slices.isNaN, slices.BinarySearch over rising ints, trial's accounts' have, Pick.
-/
namespace Go.Proofs.YtjlokkjbdgcooaaGreat
open Go.RowKit

set_option maxRecDepth 100000 in
theorem lessP_any (a b : Int) (w : World) : Calls Tryz.prog 256 #[.int .i64 a, .int .i64 b] w fun e w' => e = .returned (.bool (decide (a < b))) ∧ w = w' := by
  have k1 := Lib.hid (isNaN_anyN a w)
  go_enter Tryz.func256, Tryz.ntmps256
  go_wp2_with fail
  refine k1.out.mono ?_
  rintro e w1 ⟨rfl, rfl⟩
  go_wp2_with fail
  go_ret
  exact ⟨rfl, rfl⟩
set_option maxRecDepth 100000 in
theorem isNaN_anyS (a : Int) (w : World) : Calls Tryz.prog 257 #[.int .i64 a] w fun e w' => e = .returned (.bool false) ∧ w = w' := by
  have h : (a != a) = false := by simp
  go_enter Tryz.func257, Tryz.ntmps257
  go_wp2
  go_ret
  exact ⟨rfl, rfl⟩

theorem rise_ltI {l : List Int} (h : l.Pairwise (· < ·)) {i j : Nat} {a b : Int} (hij : i < j) (hi : l[i]? = some a) (hj : l[j]? = some b) : a < b := by
  obtain ⟨h1, rfl⟩ := List.getElem?_eq_some_iff.1 hi
  obtain ⟨h2, rfl⟩ := List.getElem?_eq_some_iff.1 hj
  exact List.pairwise_iff_getElem.1 h i j h1 h2 hij
theorem contains_noI {l : List Int} {x : Int} (h : ∀ (k : Nat) (a : Int), l[k]? = some a → a ≠ x) : l.contains x = false := by
  rw [Bool.eq_false_iff]
  intro hc
  obtain ⟨k, hk⟩ := List.mem_iff_getElem?.1 (by simpa using hc : x ∈ l)
  exact h k x hk rfl
theorem contains_yesI {l : List Int} {x : Int} {k : Nat} (h : l[k]? = some x) : l.contains x = true := by
  simpa using List.mem_of_getElem? h
theorem Rd.intG {w : World} {B n i : Nat} {A : Option Addr} {k : IntKind} {l : List Int} (h : Rd w B 1 A n (ints k l)) (hi : i < n) :
    ∃ ad a, A = some ad ∧ ad.block < B ∧ l[i]? = some a ∧ w.cell? (ad.add i) = some (.int k a) := by
  have hl := h.ints_len
  obtain ⟨ad, e, hb, hc⟩ := h.int hi
  have hg : l[i]? = some l[i] := List.getElem?_eq_getElem (by omega)
  rw [hg] at hc
  exact ⟨ad, _, e, hb, hg, hc⟩

set_option maxRecDepth 100000 in
set_option maxHeartbeats 2000000 in
theorem searchI_any (l : List Int) (x : Int) (A : Option Addr) (n c B : Nat) (w : World) (h : Rd w B 1 A n (ints .i64 l)) (hn : n ≤ 1000000) (hs : l.Pairwise (· < ·)) :
    Calls Tryz.prog 238 #[.slice A n c, .int .i64 x] w fun e w' => (∃ p : Int, e = .returned (.tuple #[.int .i64 p, .bool (l.contains x)])) ∧ w = w' := by
  have HL := Lib.hid h.ints_len
  have HR := Lib.hid h
  have HS := Lib.hid hs
  obtain ⟨z, hz⟩ : ∃ z, l.contains x = z := ⟨_, rfl⟩
  rw [hz]
  have HZ := Lib.hid hz
  clear h hs hz
  go_enter Tryz.func238, Tryz.ntmps238
  go_wp2_with fail
  go_loopw [7, 8] (fun iv jv wr => ∃ i j : Nat, iv = .int .i64 i ∧ jv = .int .i64 j ∧ (i ≤ j ∧ j ≤ n ∧ (∀ (k : Nat) (a : Int), k < i → l[k]? = some a → a < x) ∧ (∀ (k : Nat) (a : Int), j ≤ k → l[k]? = some a → x ≤ a)) ∧ wr = w) (fun iv jv _ => (intOf jv).toNat - (intOf iv).toNat)
  case atStart => exact ⟨0, n, rfl, rfl, ⟨Nat.zero_le _, Nat.le_refl _, (fun k a hk => by omega), (fun k a hk ha => by have := (List.getElem?_eq_some_iff.1 ha).1; have := HL.out; omega)⟩, rfl⟩
  case round =>
    obtain ⟨i, j, rfl, rfl, ⟨hij, hjn, hlo, hhi⟩, rfl⟩ := hrel
    have HLO := Lib.hid hlo; have HHI := Lib.hid hhi
    clear hlo hhi
    by_cases hlt : i < j
    · obtain ⟨m, hmd⟩ : ∃ m, m = (i + j) / 2 := ⟨_, rfl⟩
      have him : i ≤ m := by omega
      have hmj : m < j := by omega
      have hm : ((i : Int) + (j : Int)) / 2 = (m : Int) := by omega
      clear hmd
      obtain ⟨ad, a, rfl, hb1, hx, p1⟩ := HR.out.intG (i := m) (by omega)
      have hmn : (m : Int) < (n : Int) := by omega
      have kc := Lib.hid (lessP_any a x wr)
      have HX := Lib.hid hx
      clear hx
      by_cases hc : a < x
      · rw [decide_eq_true hc] at kc
        go_wp2_with fail
        refine kc.out.mono ?_
        rintro e w' ⟨rfl, rfl⟩
        clear kc p1
        go_wp2_with fail
        refine ⟨⟨m + 1, j, by go_num, rfl, ⟨by omega, by omega, ?_, HHI.out⟩, by first | rfl | trivial⟩, by simp [intOf]; omega⟩
        intro k b hk hkb
        rcases Nat.lt_or_ge k m with h1 | h1
        · have := rise_ltI HS.out h1 hkb HX.out; omega
        · obtain rfl : k = m := by omega
          rw [HX.out] at hkb
          injection hkb with hkb
          rw [← hkb]; exact hc
      · rw [decide_eq_false hc] at kc
        go_wp2_with fail
        refine kc.out.mono ?_
        rintro e w' ⟨rfl, rfl⟩
        clear kc p1
        go_wp2_with fail
        refine ⟨⟨i, m, rfl, rfl, ⟨by omega, by omega, HLO.out, ?_⟩, by first | rfl | trivial⟩, by simp [intOf]; omega⟩
        intro k b hk hkb
        rcases Nat.lt_or_ge m k with h1 | h1
        · have := rise_ltI HS.out h1 HX.out hkb; omega
        · obtain rfl : k = m := by omega
          rw [HX.out] at hkb
          injection hkb with hkb
          rw [← hkb]; omega
    · obtain rfl : i = j := by omega
      by_cases hin : i < n
      · obtain ⟨ad, a, rfl, hb1, hx, p1⟩ := HR.out.intG hin
        have hinI : (i : Int) < (n : Int) := by omega
        by_cases hc : a = x
        · have HC : Hid (l.contains x = true) := contains_yesI (k := i) (by rw [hx, hc])
          have hcb : (a == x) = true := by simpa using hc
          have HX := Lib.hid hc
          clear hx hc
          go_wp2_with fail
          go_ret2
          exact ⟨⟨(i : Int), by have h := HC.out; rw [HZ.out] at h; rw [h]; first | done | rfl⟩, rfl⟩
        · have HC : Hid (l.contains x = false) := contains_noI fun k b hb => by
            rcases Nat.lt_or_ge k i with h1 | h1
            · have := HLO.out k b h1 hb; omega
            · rcases Nat.lt_or_ge i k with h2 | h2
              · have h3 := HHI.out i a (Nat.le_refl _) hx
                have h4 := rise_ltI HS.out h2 hx hb
                omega
              · obtain rfl : k = i := by omega
                rw [hx] at hb
                injection hb with hb
                rw [← hb]; exact hc
          have hcb : (a == x) = false := by simpa using hc
          have HX := Lib.hid hc
          have kn := Lib.hid (isNaN_anyS a wr)
          clear hx hc
          go_wp2_with fail
          refine kn.out.mono ?_
          rintro e w' ⟨rfl, rfl⟩
          go_wp2_with fail
          go_ret2
          exact ⟨⟨(i : Int), by have h := HC.out; rw [HZ.out] at h; rw [h]; first | done | rfl⟩, rfl⟩
      · have HC : Hid (l.contains x = false) := contains_noI fun k b hb => by
          have h0 := (List.getElem?_eq_some_iff.1 hb).1
          have := HLO.out k b (by have := HL.out; omega) hb
          omega
        have hinI : ¬ (i : Int) < (n : Int) := by omega
        go_wp2_with fail
        go_ret2
        exact ⟨⟨(i : Int), by have h := HC.out; rw [HZ.out] at h; rw [h]; first | done | rfl⟩, rfl⟩

set_option maxRecDepth 100000 in
set_option maxHeartbeats 1000000 in
theorem have_any (l : List Int) (x : Bal) (A : Option Addr) (n c B : Nat) (w : World) (h : Rd w B 1 A n (ints .i64 l)) (hB : B ≤ w.heap.size) (hn : n ≤ 1000000) (hs : l.Pairwise (· < ·)) :
    Calls Tryz.prog 208 #[.slice A n c, .agg #[.int .i64 x.acct, .int .i64 x.amt]] w fun e w' => e = .returned (.bool (l.contains x.acct)) ∧ Below w.heap.size w w' := by
  obtain ⟨W, hW⟩ : ∃ W, w.alloc (.cells #[.int .i64 x.acct, .int .i64 x.amt] 161) = W := ⟨_, rfl⟩
  have hb : Below w.heap.size w W := by rw [← hW]; exact (Below.refl _ _).alloc (Nat.le_refl _) _
  have ks := Lib.hid (searchI_any l x.acct A n c B W (h.far hb hB) hn hs)
  have HW := Lib.hid hW; have HB := Lib.hid hb
  clear hW hb h hs
  generalize l.contains x.acct = z at *
  obtain ⟨x1, x2⟩ := x
  dsimp only at *
  go_enter Tryz.func208, Tryz.ntmps208
  go_wp2_with fail
  rw [HW.out]
  refine ks.out.mono ?_
  rintro e w' ⟨⟨p, rfl⟩, rfl⟩
  go_wp2_with fail
  go_ret
  exact ⟨rfl, HB.out⟩
end Go.Proofs.YtjlokkjbdgcooaaGreat
