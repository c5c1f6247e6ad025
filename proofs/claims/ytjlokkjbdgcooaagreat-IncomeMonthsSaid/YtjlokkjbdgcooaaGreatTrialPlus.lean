/-
  Contract of trial.Plus.
-/
import Derived.Test.YtjlokkjbdgcooaaGreatMany19
namespace Go.Proofs.YtjlokkjbdgcooaaGreat
open Go.RowKit
open Mo

theorem bals_take : ∀ (l : List Bal) (k : Nat), (bals l).take (k * 2) = bals (l.take k)
  | [], k => by simp [bals]
  | a :: l, 0 => by simp [bals]
  | a :: l, k + 1 => by
    have := bals_take l k
    unfold bals at this ⊢
    rw [List.take_succ_cons, List.flatMap_cons, List.flatMap_cons, ← this, show (k + 1) * 2 = (Bal.cells a).length + k * 2 by simp [Bal.cells]; omega, List.take_length_add_append]
theorem bals_drop : ∀ (l : List Bal) (k : Nat), (bals l).drop (k * 2) = bals (l.drop k)
  | [], k => by simp [bals]
  | a :: l, 0 => by simp [bals]
  | a :: l, k + 1 => by
    have := bals_drop l k
    unfold bals at this ⊢
    rw [List.drop_succ_cons, List.flatMap_cons, ← this, show (k + 1) * 2 = (Bal.cells a).length + k * 2 by simp [Bal.cells]; omega, List.drop_length_add_append]
theorem Rd.balsTake {w : World} {B n k : Nat} {A : Option Addr} {l : List Bal} (h : Rd w B 2 A n (bals l)) (hk : k ≤ n) : Rd w B 2 A k (bals (l.take k)) := by
  have hl := h.bals_len
  refine ⟨by rw [Go.Proofs.YtjlokkjbdgcooaaGreat.bals_len, List.length_take]; omega, fun h0 => ?_⟩
  obtain ⟨ad, rfl, hb, hc⟩ := h.2 (by omega)
  refine ⟨ad, rfl, hb, fun j u hj => hc j u ?_⟩
  rw [← bals_take] at hj
  have hlt : j < k * 2 := by
    have := (List.getElem?_eq_some_iff.1 hj).1
    rw [List.length_take] at this
    omega
  rwa [List.getElem?_take_of_lt hlt] at hj
theorem Rd.balsDrop {w : World} {B n k : Nat} {ad : Addr} {l : List Bal} (h : Rd w B 2 (some ad) n (bals l)) (hk : k ≤ n) : Rd w B 2 (some (ad.add (k * 2))) (n - k) (bals (l.drop k)) := by
  have hl := h.bals_len
  refine ⟨by rw [Go.Proofs.YtjlokkjbdgcooaaGreat.bals_len, List.length_drop]; omega, fun h0 => ?_⟩
  obtain ⟨ad', e, hb, hc⟩ := h.2 (by omega)
  injection e with e
  subst e
  refine ⟨_, rfl, by rw [add_block]; exact hb, fun j u hj => ?_⟩
  rw [← bals_drop, List.getElem?_drop] at hj
  rw [add_add]
  exact hc _ u hj
theorem box_cell' {w : World} {cs : Array Value} {T : TypeId} (i : Nat) : (w.alloc (.cells cs T)).cell? ⟨w.heap.size, i, none⟩ = cs[i]? := cell_of (heap_new w _) i
def lenS : Value → Nat
  | .slice _ n _ => n
  | _ => 0
def PlusEnd (w : World) (l : List Bal) (e : Ending) (w' : World) : Prop :=
  Below w.heap.size w w' ∧ ((plusB l = false ∧ e = .returned (.tuple #[.slice none 0 0, .int .i64 2])) ∨ (plusB l = true ∧ ∃ A c R, PlusOf l R ∧ e = .returned (.tuple #[.slice A (List.length R) c, .int .i64 0]) ∧ w'.ownsRow w.heap.size 161 2 (.slice A (List.length R) c) (List.length R) (bals R)))
/-- The list sorted, as the loop reads it. -/
theorem sortB_rd {w : World} {B n c : Nat} {A : Option Addr} {l : List Bal} (h : w.ownsRow B 161 2 (.slice A n c) n (bals l)) (hn : n ≤ 1000000) (hB : B ≤ w.heap.size) :
    Calls Tryz.prog 171 #[.slice A n c, .func (.func 172) #[] #[]] w fun e w' => e = .returned (.tuple #[]) ∧ (∃ L, L.Perm l ∧ ByAcct L ∧ List.length L = n ∧ Rd w' w'.heap.size 2 A n (bals L)) ∧ Below B w w' := by
  have hl : l.length = n := by have := h.1; rw [bals_len] at this; omega
  rcases h.2 with ⟨hv, hn0⟩ | ⟨g, cap, cur, hv, _⟩
  · injection hv with h1 _ h3
    subst h1 h3
    subst hn0
    refine (sortB_nil _ w).mono ?_
    rintro e w' ⟨rfl, rfl⟩
    have : l = [] := List.eq_nil_of_length_eq_zero hl
    subst this
    exact ⟨rfl, ⟨[], .refl _, List.Pairwise.nil, rfl, Rd.nil_⟩, Below.refl _ _⟩
  · injection hv with h1 _ h3
    subst h1
    refine (sortB_any h hl hn).mono ?_
    rintro e w' ⟨he, ⟨L, hp, ho, hown⟩, hg⟩
    exact ⟨he, ⟨L, hp, ho, by rw [hp.length_eq, hl], rd_of_own hown⟩, (Below.refl _ _).grown hg hB (own_ge h)⟩
set_option maxRecDepth 100000 in
set_option maxHeartbeats 2000000 in
theorem plus_any (la lb : List Bal) (A1 A2 : Option Addr) (n1 n2 c1 c2 B : Nat) (w : World) (h1 : Rd w B 2 A1 n1 (bals la)) (h2 : Rd w B 2 A2 n2 (bals lb)) (hB : B ≤ w.heap.size) (hn : n1 + n2 ≤ 1000) :
    Calls Tryz.prog 120 #[.slice A1 n1 c1, .slice A2 n2 c2] w (PlusEnd w (la ++ lb)) := by
  obtain ⟨W1, hW1⟩ : ∃ W1, w.alloc (.cells #[.slice A1 n1 c1, .slice A2 n2 c2] 81) = W1 := ⟨_, rfl⟩
  have hb1 : Below w.heap.size w W1 := by rw [← hW1]; exact (Below.refl _ _).alloc (Nat.le_refl _) _
  have hz1 : W1.heap.size = w.heap.size + 1 := by rw [← hW1]; simp
  have kc := concat_any la lb A1 A2 n1 n2 c1 c2 B w.heap.size W1 (h1.far hb1 hB) (h2.far hb1 hB) (by omega) (by omega) (by omega) (by rw [← hW1]; exact box_cell' 0) (by rw [← hW1]; exact box_cell' 1) (by omega)
  have KC := Lib.hid kc
  have HB1 := Lib.hid hb1
  have HW1 := Lib.hid hW1
  clear kc hb1 hW1 h1 h2
  go_enter Tryz.func120, Tryz.ntmps120
  go_wp2_with fail
  rw [HW1.out]
  refine KC.out.mono ?_
  rintro e w2 ⟨A, c, rfl, hown, hb2⟩
  have HB2 : Hid (Below w.heap.size w w2) := HB1.out.trans (hb2.mono HB1.out.size)
  have hw2 := hb2.size
  have KS := Lib.hid (sortB_rd hown (by omega) hb2.size)
  have hcap : n1 + n2 ≤ c ∨ n1 + n2 = 0 := by
    rcases hown.2 with ⟨_, h⟩ | ⟨g, cap, cur, hv, _, _, hn2, _⟩
    · exact .inr h
    · injection hv with _ _ hv
      subst hv
      exact .inl hn2
  clear hown hb2 KC
  go_wp2_with fail
  refine KS.out.mono ?_
  rintro e w3 ⟨rfl, ⟨L, hperm, hby, hlen, hrd⟩, hb3⟩
  have HB3 : Hid (Below w.heap.size w w3) := HB2.out.trans (hb3.mono (by omega))
  have HP := Lib.hid hperm
  have HRD := Lib.hid hrd
  have HBY := Lib.hid hby
  have HLEN := Lib.hid hlen
  have hcap2 : n1 + n2 ≤ c := by
    rcases hcap with h | h
    · exact h
    · omega
  clear hperm hby hlen hrd hb3 KS hcap
  have HST : Hid (∃ P T, P ++ T = L ∧ T.length = n1 + n2 ∧ PlusSt P T []) := ⟨[], L, rfl, HLEN.out, PlusSt.start L⟩
  have hlen := HLEN.out
  go_wp2_with fail
  go_loopw [6, 7] (fun rv lv wr => ∃ A' c' P T A2 c2 R, rv = .slice A' (List.length T) c' ∧ lv = .slice A2 (List.length R) c2 ∧ P ++ T = L ∧ List.length T ≤ c' ∧ List.length R ≤ List.length P ∧ Hid (PlusSt P T R) ∧ Hid (ByAcct T) ∧ Rd wr w3.heap.size 2 A' (List.length T) (bals T) ∧ wr.ownsRow w3.heap.size 161 2 (.slice A2 (List.length R) c2) (List.length R) (bals R) ∧ Below w3.heap.size w3 wr) (fun rv _ _ => lenS rv)
  case atStart =>
    rw [← hlen] at hcap2 HRD ⊢
    exact ⟨A, c, [], L, none, 0, [], rfl, rfl, rfl, hcap2, Nat.le_refl _, PlusSt.start L, HBY.out, HRD.out, World.ownsRow_nil _ _ _ _, Below.refl _ _⟩
  case round =>
    obtain ⟨A', c', P, T, A2, c2, R, rfl, rfl, hPT, hTc, hRP, hst, hbT, hrd, hown, hbel⟩ := hrel
    have hPl : P.length + T.length = n1 + n2 := by rw [← hlen, ← hPT, List.length_append]
    have HBW : Hid (Below w.heap.size w wr) := HB3.out.trans (hbel.mono HB3.out.size)
    have hz3 := HB3.out.size
    have hzr := hbel.size
    by_cases hT0 : T.length = 0
    · have hTn : T = [] := List.eq_nil_of_length_eq_zero hT0
      subst hTn
      rw [List.append_nil] at hPT
      have HO := Lib.hid (own_base hown hz3)
      have HPT := Lib.hid hPT
      clear hown hrd hbel hPT hT0
      simp only [List.length_nil]
      go_wp2_with fail
      go_ret2
      obtain ⟨g1, g2⟩ := hst.out.done
      rw [HPT.out] at g1 g2
      exact ⟨HBW.out, .inr ⟨by rw [← plusB_perm HP.out]; exact g2, A2, c2, R, plusOf_perm g1 HP.out, rfl, HO.out⟩⟩
    · obtain ⟨m, hm⟩ : ∃ m, T.length = m := ⟨_, rfl⟩
      have HM := Lib.hid hm
      rw [hm] at hT0 hTc hrd hPl ⊢
      obtain ⟨ad, x0, rfl, hb0, hx0, z0, _⟩ := hrd.bal (i := 0) (by omega)
      simp only [Nat.zero_mul, addr_zero] at z0
      have KN := Lib.hid (count_any T (some ad) m c' w3.heap.size wr hrd hzr (by omega) (by omega))
      have HR := Lib.hid hrd
      have HO := Lib.hid hown
      have HBE := Lib.hid hbel
      have HX0 := Lib.hid hx0
      have HZ0 := Lib.hid z0
      have hmI : (0 : Int) < (m : Int) := by omega
      clear hrd hown hbel hx0 hm z0
      go_wp2_with fail
      refine KN.out.mono ?_
      rintro e w4 ⟨k, hcnt, rfl, hb4⟩
      have hk1 := hcnt.pos
      have hk2 := hcnt.le
      rw [HM.out] at hk2
      have HCN := Lib.hid hcnt
      have HB4 := Lib.hid (HBE.out.trans (hb4.mono hzr))
      have HR4 := Lib.hid ((HR.out.far hb4 hzr))
      have HO4 := Lib.hid (own_kept HO.out fun q hq _ => hb4.block q hq)
      have hz4 := HB4.out.size
      have ks := sumBals_any (T.take k) (some ad) k c' w3.heap.size w4 (HR4.out.balsTake hk2) hz4 (by omega)
      have KS := Lib.hid ks
      have HZ4 := Lib.hid ((hb4.cell (p := ad) (by omega)).trans HZ0.out)
      clear hcnt hb4 ks KN HR HO HBE HZ0
      go_wp2_with fail
      refine KS.out.mono ?_
      rintro e w5 ⟨rfl, hb5⟩
      have HB5 := Lib.hid (HB4.out.trans (hb5.mono hz4))
      have HR5 := Lib.hid (HR4.out.far hb5 hz4)
      have HO5 := Lib.hid (own_kept HO4.out fun q hq _ => hb5.block q hq)
      have hz5 := HB5.out.size
      have z5 := (hb5.cell (p := ad) (by omega)).trans HZ4.out
      have HBW5 : Hid (Below w.heap.size w w5) := HB3.out.trans (HB5.out.mono hz3)
      have HPT := Lib.hid hPT
      have hk0 : (0 : Int) ≤ (k : Int) := by omega
      have hkm : (k : Int) ≤ (m : Int) := by omega
      have hkc : (k : Int) ≤ (c' : Int) := by omega
      have hmc : (m : Int) ≤ (c' : Int) := by omega
      have hsub : ((m : Int) - (k : Int)) = ((m - k : Nat) : Int) := by omega
      have HDR := Lib.hid (HR5.out.balsDrop hk2)
      have HLT : Hid ((T.drop k).length = m - k) := by rw [Hid, List.length_drop, HM.out]
      have HLP : Hid ((P ++ T.take k).length = P.length + k) := by rw [Hid, List.length_append, List.length_take, HM.out, Nat.min_eq_left hk2]
      have HPK : Hid ((P ++ T.take k) ++ T.drop k = L) := by rw [Hid, List.append_assoc, List.take_append_drop]; exact HPT.out
      have HBT : Hid (ByAcct (T.drop k)) := List.Pairwise.sublist (List.drop_sublist k T) hbT.out
      clear hb5 KS HR4 HO4 HZ4 hPT
      by_cases hE : Mo.addE (amts (T.take k)) = 0
      · obtain ⟨g1, g2, g3⟩ := group_good hst.out hbT.out HCN.out HX0.out hE
        rw [hE, g1]
        have HG2 := Lib.hid g2; have HG3 := Lib.hid g3
        obtain ⟨V, hV⟩ : ∃ V, sumB x0.acct (P ++ T) = V := ⟨_, rfl⟩
        rw [hV] at HG2 HG3 ⊢
        clear g1 g2 g3 hE hV
        by_cases hV0 : V = 0
        · have HS := Lib.hid (HG2.out hV0)
          clear HG2 HG3
          subst hV0
          go_wp2_with fail
          have HRQ : Rd w5 w3.heap.size 2 (if c' = k then some ad else some (ad.add (k * 2))) (T.drop k).length (bals (T.drop k)) := by
            rw [HLT.out]
            by_cases hck : c' = k
            · rw [if_pos hck]
              have h0 : T.drop k = [] := List.eq_nil_of_length_eq_zero (by rw [HLT.out]; omega)
              rw [h0, show m - k = 0 by omega]
              exact Rd.nil_
            · rw [if_neg hck]
              exact HDR.out
          refine ⟨⟨_, c' - k, P ++ T.take k, T.drop k, A2, c2, R, by rw [HLT.out], rfl, HPK.out, by rw [HLT.out]; omega, by rw [HLP.out]; omega, HS.out, HBT.out, HRQ, HO5.out, HB5.out⟩, ?_⟩
          show m - k < m
          omega
        · have HS := Lib.hid (HG3.out hV0)
          have hVz : (V != 0) = true := by simpa using hV0
          have hown6 : (w5.alloc (.cells #[.int .i64 x0.acct, .int .i64 V] 161)).ownsRow w3.heap.size 161 2 (.slice A2 R.length c2) R.length (bals R) := own_kept HO5.out fun q hq _ => Below.heap_alloc w5 _ _ hq
          have hrd6 : Rd (w5.alloc (.cells #[.int .i64 x0.acct, .int .i64 V] 161)) (w5.heap.size + 1) 2 (some ⟨w5.heap.size, 0, none⟩) 1 (bals [⟨x0.acct, V⟩]) := ⟨rfl, fun _ => ⟨_, rfl, by simp, cells_new w5 (bals [⟨x0.acct, V⟩]) 161⟩⟩
          obtain ⟨v7, w7, hrun, hown7, hb7⟩ := append_bals (c := 1) hown6 hrd6 (by simp; omega) (by omega)
          obtain ⟨A7, c7, rfl⟩ := own_form hown7
          have HO7 := Lib.hid hown7
          have hb57 : Below w3.heap.size w5 w7 := ((Below.refl _ _).alloc hz5 _).trans hb7
          have HB7 := Lib.hid (HB5.out.trans hb57)
          have HD7 := Lib.hid (HDR.out.below hb57)
          clear hown6 hrd6 hown7 hb7 hb57 HG2 HG3
          go_wp2_with (at_builtin; refine Lib.wpList_append_run _ rfl _ _ _ _ rfl _ _ rfl rfl _ _ (hrun _) ?_)
          have HRQ : Rd w7 w3.heap.size 2 (if c' = k then some ad else some (ad.add (k * 2))) (T.drop k).length (bals (T.drop k)) := by
            rw [HLT.out]
            by_cases hck : c' = k
            · rw [if_pos hck]
              have h0 : T.drop k = [] := List.eq_nil_of_length_eq_zero (by rw [HLT.out]; omega)
              rw [h0, show m - k = 0 by omega]
              exact Rd.nil_
            · rw [if_neg hck]
              exact HD7.out
          have hRl : (R ++ [(⟨x0.acct, V⟩ : Bal)]).length = R.length + 1 := by simp
          refine ⟨⟨_, c' - k, P ++ T.take k, T.drop k, A7, c7, R ++ [(⟨x0.acct, V⟩ : Bal)], by rw [HLT.out], by rw [hRl], HPK.out, by rw [HLT.out]; omega, by rw [HLP.out, hRl]; omega, HS.out, HBT.out, HRQ, by rw [hRl]; exact HO7.out, HB7.out⟩, ?_⟩
          show m - k < m
          omega
      · obtain ⟨g1, g2⟩ := group_bad hst.out hbT.out HCN.out HX0.out hE
        rw [g1]
        rw [HPT.out] at g2
        have HG2 := Lib.hid g2
        clear g1 g2 hE
        go_wp2_with fail
        go_ret2
        exact ⟨HBW5.out, .inl ⟨by rw [← plusB_perm HP.out]; exact HG2.out, rfl⟩⟩
end Go.Proofs.YtjlokkjbdgcooaaGreat

