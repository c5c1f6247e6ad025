/-
  Several texts, one behind the other: what each holds stands ahead of it.
-/
import Derived.Test.YtjlokkjbdgcooaaGreatMany20
import Derived.Test.YtjlokkjbdgcooaaGreatMany13

/-
  Contract of trial.Plus.
-/
namespace Go.Proofs.YtjlokkjbdgcooaaGreat
open Go.RowKit
open Mo

theorem bals_take : ∀ (l : List Bal) (k : Nat), (bals l).take (k * 2) = bals (l.take k)
  | [], k => by simp [bals]
  | a :: l, 0 => by simp [bals]
  | a :: l, k + 1 => by
    have := bals_take l k
    unfold bals at this ⊢
    rw [List.take_succ_cons, List.flatMap_cons, List.flatMap_cons, ← this, show (k + 1) * 2 = (Bal.cells a).length + k * 2 by simp [Bal.cells]; omega, List.take_length_add_append]
theorem bals_drop : ∀ (l : List Bal) (k : Nat), (bals l).drop (k * 2) = bals (l.drop k)
  | [], k => by simp [bals]
  | a :: l, 0 => by simp [bals]
  | a :: l, k + 1 => by
    have := bals_drop l k
    unfold bals at this ⊢
    rw [List.drop_succ_cons, List.flatMap_cons, ← this, show (k + 1) * 2 = (Bal.cells a).length + k * 2 by simp [Bal.cells]; omega, List.drop_length_add_append]
theorem Rd.balsTake {w : World} {B n k : Nat} {A : Option Addr} {l : List Bal} (h : Rd w B 2 A n (bals l)) (hk : k ≤ n) : Rd w B 2 A k (bals (l.take k)) := by
  have hl := h.bals_len
  refine ⟨by rw [Go.Proofs.YtjlokkjbdgcooaaGreat.bals_len, List.length_take]; omega, fun h0 => ?_⟩
  obtain ⟨ad, rfl, hb, hc⟩ := h.2 (by omega)
  refine ⟨ad, rfl, hb, fun j u hj => hc j u ?_⟩
  rw [← bals_take] at hj
  have hlt : j < k * 2 := by
    have := (List.getElem?_eq_some_iff.1 hj).1
    rw [List.length_take] at this
    omega
  rwa [List.getElem?_take_of_lt hlt] at hj
theorem Rd.balsDrop {w : World} {B n k : Nat} {ad : Addr} {l : List Bal} (h : Rd w B 2 (some ad) n (bals l)) (hk : k ≤ n) : Rd w B 2 (some (ad.add (k * 2))) (n - k) (bals (l.drop k)) := by
  have hl := h.bals_len
  refine ⟨by rw [Go.Proofs.YtjlokkjbdgcooaaGreat.bals_len, List.length_drop]; omega, fun h0 => ?_⟩
  obtain ⟨ad', e, hb, hc⟩ := h.2 (by omega)
  injection e with e
  subst e
  refine ⟨_, rfl, by rw [add_block]; exact hb, fun j u hj => ?_⟩
  rw [← bals_drop, List.getElem?_drop] at hj
  rw [add_add]
  exact hc _ u hj
theorem box_cell' {w : World} {cs : Array Value} {T : TypeId} (i : Nat) : (w.alloc (.cells cs T)).cell? ⟨w.heap.size, i, none⟩ = cs[i]? := cell_of (heap_new w _) i
def lenS : Value → Nat
  | .slice _ n _ => n
  | _ => 0
def PlusEnd (w : World) (l : List Bal) (e : Ending) (w' : World) : Prop :=
  Below w.heap.size w w' ∧ ((plusB l = false ∧ e = .returned (.tuple #[.slice none 0 0, .int .i64 2])) ∨ (plusB l = true ∧ ∃ A c R, PlusOf l R ∧ e = .returned (.tuple #[.slice A (List.length R) c, .int .i64 0]) ∧ w'.ownsRow w.heap.size 161 2 (.slice A (List.length R) c) (List.length R) (bals R)))
/-- The list sorted, as the loop reads it. -/
theorem sortB_rd {w : World} {B n c : Nat} {A : Option Addr} {l : List Bal} (h : w.ownsRow B 161 2 (.slice A n c) n (bals l)) (hn : n ≤ 1000000) (hB : B ≤ w.heap.size) :
    Calls Tryz.prog 171 #[.slice A n c, .func (.func 172) #[] #[]] w fun e w' => e = .returned (.tuple #[]) ∧ (∃ L, L.Perm l ∧ ByAcct L ∧ List.length L = n ∧ Rd w' w'.heap.size 2 A n (bals L)) ∧ Below B w w' := by
  have hl : l.length = n := by have := h.1; rw [bals_len] at this; omega
  rcases h.2 with ⟨hv, hn0⟩ | ⟨g, cap, cur, hv, _⟩
  · injection hv with h1 _ h3
    subst h1 h3
    subst hn0
    refine (sortB_nil _ w).mono ?_
    rintro e w' ⟨rfl, rfl⟩
    have : l = [] := List.eq_nil_of_length_eq_zero hl
    subst this
    exact ⟨rfl, ⟨[], .refl _, List.Pairwise.nil, rfl, Rd.nil_⟩, Below.refl _ _⟩
  · injection hv with h1 _ h3
    subst h1
    refine (sortB_any h hl hn).mono ?_
    rintro e w' ⟨he, ⟨L, hp, ho, hown⟩, hg⟩
    exact ⟨he, ⟨L, hp, ho, by rw [hp.length_eq, hl], rd_of_own hown⟩, (Below.refl _ _).grown hg hB (own_ge h)⟩
set_option maxRecDepth 100000 in
set_option maxHeartbeats 2000000 in
theorem plus_any (la lb : List Bal) (A1 A2 : Option Addr) (n1 n2 c1 c2 B : Nat) (w : World) (h1 : Rd w B 2 A1 n1 (bals la)) (h2 : Rd w B 2 A2 n2 (bals lb)) (hB : B ≤ w.heap.size) (hn : n1 + n2 ≤ 1000) :
    Calls Tryz.prog 120 #[.slice A1 n1 c1, .slice A2 n2 c2] w (PlusEnd w (la ++ lb)) := by
  obtain ⟨W1, hW1⟩ : ∃ W1, w.alloc (.cells #[.slice A1 n1 c1, .slice A2 n2 c2] 81) = W1 := ⟨_, rfl⟩
  have hb1 : Below w.heap.size w W1 := by rw [← hW1]; exact (Below.refl _ _).alloc (Nat.le_refl _) _
  have hz1 : W1.heap.size = w.heap.size + 1 := by rw [← hW1]; simp
  have kc := concat_any la lb A1 A2 n1 n2 c1 c2 B w.heap.size W1 (h1.far hb1 hB) (h2.far hb1 hB) (by omega) (by omega) (by omega) (by rw [← hW1]; exact box_cell' 0) (by rw [← hW1]; exact box_cell' 1) (by omega)
  have KC := Lib.hid kc
  have HB1 := Lib.hid hb1
  have HW1 := Lib.hid hW1
  clear kc hb1 hW1 h1 h2
  go_enter Tryz.func120, Tryz.ntmps120
  go_wp2_with fail
  rw [HW1.out]
  refine KC.out.mono ?_
  rintro e w2 ⟨A, c, rfl, hown, hb2⟩
  have HB2 : Hid (Below w.heap.size w w2) := HB1.out.trans (hb2.mono HB1.out.size)
  have hw2 := hb2.size
  have KS := Lib.hid (sortB_rd hown (by omega) hb2.size)
  have hcap : n1 + n2 ≤ c ∨ n1 + n2 = 0 := by
    rcases hown.2 with ⟨_, h⟩ | ⟨g, cap, cur, hv, _, _, hn2, _⟩
    · exact .inr h
    · injection hv with _ _ hv
      subst hv
      exact .inl hn2
  clear hown hb2 KC
  go_wp2_with fail
  refine KS.out.mono ?_
  rintro e w3 ⟨rfl, ⟨L, hperm, hby, hlen, hrd⟩, hb3⟩
  have HB3 : Hid (Below w.heap.size w w3) := HB2.out.trans (hb3.mono (by omega))
  have HP := Lib.hid hperm
  have HRD := Lib.hid hrd
  have HBY := Lib.hid hby
  have HLEN := Lib.hid hlen
  have hcap2 : n1 + n2 ≤ c := by
    rcases hcap with h | h
    · exact h
    · omega
  clear hperm hby hlen hrd hb3 KS hcap
  have HST : Hid (∃ P T, P ++ T = L ∧ T.length = n1 + n2 ∧ PlusSt P T []) := ⟨[], L, rfl, HLEN.out, PlusSt.start L⟩
  have hlen := HLEN.out
  go_wp2_with fail
  go_loopw [6, 7] (fun rv lv wr => ∃ A' c' P T A2 c2 R, rv = .slice A' (List.length T) c' ∧ lv = .slice A2 (List.length R) c2 ∧ P ++ T = L ∧ List.length T ≤ c' ∧ List.length R ≤ List.length P ∧ Hid (PlusSt P T R) ∧ Hid (ByAcct T) ∧ Rd wr w3.heap.size 2 A' (List.length T) (bals T) ∧ wr.ownsRow w3.heap.size 161 2 (.slice A2 (List.length R) c2) (List.length R) (bals R) ∧ Below w3.heap.size w3 wr) (fun rv _ _ => lenS rv)
  case atStart =>
    rw [← hlen] at hcap2 HRD ⊢
    exact ⟨A, c, [], L, none, 0, [], rfl, rfl, rfl, hcap2, Nat.le_refl _, PlusSt.start L, HBY.out, HRD.out, World.ownsRow_nil _ _ _ _, Below.refl _ _⟩
  case round =>
    obtain ⟨A', c', P, T, A2, c2, R, rfl, rfl, hPT, hTc, hRP, hst, hbT, hrd, hown, hbel⟩ := hrel
    have hPl : P.length + T.length = n1 + n2 := by rw [← hlen, ← hPT, List.length_append]
    have HBW : Hid (Below w.heap.size w wr) := HB3.out.trans (hbel.mono HB3.out.size)
    have hz3 := HB3.out.size
    have hzr := hbel.size
    by_cases hT0 : T.length = 0
    · have hTn : T = [] := List.eq_nil_of_length_eq_zero hT0
      subst hTn
      rw [List.append_nil] at hPT
      have HO := Lib.hid (own_base hown hz3)
      have HPT := Lib.hid hPT
      clear hown hrd hbel hPT hT0
      simp only [List.length_nil]
      go_wp2_with fail
      go_ret2
      obtain ⟨g1, g2⟩ := hst.out.done
      rw [HPT.out] at g1 g2
      exact ⟨HBW.out, .inr ⟨by rw [← plusB_perm HP.out]; exact g2, A2, c2, R, plusOf_perm g1 HP.out, rfl, HO.out⟩⟩
    · obtain ⟨m, hm⟩ : ∃ m, T.length = m := ⟨_, rfl⟩
      have HM := Lib.hid hm
      rw [hm] at hT0 hTc hrd hPl ⊢
      obtain ⟨ad, x0, rfl, hb0, hx0, z0, _⟩ := hrd.bal (i := 0) (by omega)
      simp only [Nat.zero_mul, addr_zero] at z0
      have KN := Lib.hid (count_any T (some ad) m c' w3.heap.size wr hrd hzr (by omega) (by omega))
      have HR := Lib.hid hrd
      have HO := Lib.hid hown
      have HBE := Lib.hid hbel
      have HX0 := Lib.hid hx0
      have HZ0 := Lib.hid z0
      have hmI : (0 : Int) < (m : Int) := by omega
      clear hrd hown hbel hx0 hm z0
      go_wp2_with fail
      refine KN.out.mono ?_
      rintro e w4 ⟨k, hcnt, rfl, hb4⟩
      have hk1 := hcnt.pos
      have hk2 := hcnt.le
      rw [HM.out] at hk2
      have HCN := Lib.hid hcnt
      have HB4 := Lib.hid (HBE.out.trans (hb4.mono hzr))
      have HR4 := Lib.hid ((HR.out.far hb4 hzr))
      have HO4 := Lib.hid (own_kept HO.out fun q hq _ => hb4.block q hq)
      have hz4 := HB4.out.size
      have ks := sumBals_any (T.take k) (some ad) k c' w3.heap.size w4 (HR4.out.balsTake hk2) hz4 (by omega)
      have KS := Lib.hid ks
      have HZ4 := Lib.hid ((hb4.cell (p := ad) (by omega)).trans HZ0.out)
      clear hcnt hb4 ks KN HR HO HBE HZ0
      go_wp2_with fail
      refine KS.out.mono ?_
      rintro e w5 ⟨rfl, hb5⟩
      have HB5 := Lib.hid (HB4.out.trans (hb5.mono hz4))
      have HR5 := Lib.hid (HR4.out.far hb5 hz4)
      have HO5 := Lib.hid (own_kept HO4.out fun q hq _ => hb5.block q hq)
      have hz5 := HB5.out.size
      have z5 := (hb5.cell (p := ad) (by omega)).trans HZ4.out
      have HBW5 : Hid (Below w.heap.size w w5) := HB3.out.trans (HB5.out.mono hz3)
      have HPT := Lib.hid hPT
      have hk0 : (0 : Int) ≤ (k : Int) := by omega
      have hkm : (k : Int) ≤ (m : Int) := by omega
      have hkc : (k : Int) ≤ (c' : Int) := by omega
      have hmc : (m : Int) ≤ (c' : Int) := by omega
      have hsub : ((m : Int) - (k : Int)) = ((m - k : Nat) : Int) := by omega
      have HDR := Lib.hid (HR5.out.balsDrop hk2)
      have HLT : Hid ((T.drop k).length = m - k) := by rw [Hid, List.length_drop, HM.out]
      have HLP : Hid ((P ++ T.take k).length = P.length + k) := by rw [Hid, List.length_append, List.length_take, HM.out, Nat.min_eq_left hk2]
      have HPK : Hid ((P ++ T.take k) ++ T.drop k = L) := by rw [Hid, List.append_assoc, List.take_append_drop]; exact HPT.out
      have HBT : Hid (ByAcct (T.drop k)) := List.Pairwise.sublist (List.drop_sublist k T) hbT.out
      clear hb5 KS HR4 HO4 HZ4 hPT
      by_cases hE : Mo.addE (amts (T.take k)) = 0
      · obtain ⟨g1, g2, g3⟩ := group_good hst.out hbT.out HCN.out HX0.out hE
        rw [hE, g1]
        have HG2 := Lib.hid g2; have HG3 := Lib.hid g3
        obtain ⟨V, hV⟩ : ∃ V, sumB x0.acct (P ++ T) = V := ⟨_, rfl⟩
        rw [hV] at HG2 HG3 ⊢
        clear g1 g2 g3 hE hV
        by_cases hV0 : V = 0
        · have HS := Lib.hid (HG2.out hV0)
          clear HG2 HG3
          subst hV0
          go_wp2_with fail
          have HRQ : Rd w5 w3.heap.size 2 (if c' = k then some ad else some (ad.add (k * 2))) (T.drop k).length (bals (T.drop k)) := by
            rw [HLT.out]
            by_cases hck : c' = k
            · rw [if_pos hck]
              have h0 : T.drop k = [] := List.eq_nil_of_length_eq_zero (by rw [HLT.out]; omega)
              rw [h0, show m - k = 0 by omega]
              exact Rd.nil_
            · rw [if_neg hck]
              exact HDR.out
          refine ⟨⟨_, c' - k, P ++ T.take k, T.drop k, A2, c2, R, by rw [HLT.out], rfl, HPK.out, by rw [HLT.out]; omega, by rw [HLP.out]; omega, HS.out, HBT.out, HRQ, HO5.out, HB5.out⟩, ?_⟩
          show m - k < m
          omega
        · have HS := Lib.hid (HG3.out hV0)
          have hVz : (V != 0) = true := by simpa using hV0
          have hown6 : (w5.alloc (.cells #[.int .i64 x0.acct, .int .i64 V] 161)).ownsRow w3.heap.size 161 2 (.slice A2 R.length c2) R.length (bals R) := own_kept HO5.out fun q hq _ => Below.heap_alloc w5 _ _ hq
          have hrd6 : Rd (w5.alloc (.cells #[.int .i64 x0.acct, .int .i64 V] 161)) (w5.heap.size + 1) 2 (some ⟨w5.heap.size, 0, none⟩) 1 (bals [⟨x0.acct, V⟩]) := ⟨rfl, fun _ => ⟨_, rfl, by simp, cells_new w5 (bals [⟨x0.acct, V⟩]) 161⟩⟩
          obtain ⟨v7, w7, hrun, hown7, hb7⟩ := append_bals (c := 1) hown6 hrd6 (by simp; omega) (by omega)
          obtain ⟨A7, c7, rfl⟩ := own_form hown7
          have HO7 := Lib.hid hown7
          have hb57 : Below w3.heap.size w5 w7 := ((Below.refl _ _).alloc hz5 _).trans hb7
          have HB7 := Lib.hid (HB5.out.trans hb57)
          have HD7 := Lib.hid (HDR.out.below hb57)
          clear hown6 hrd6 hown7 hb7 hb57 HG2 HG3
          go_wp2_with (at_builtin; refine Lib.wpList_append_run _ rfl _ _ _ _ rfl _ _ rfl rfl _ _ (hrun _) ?_)
          have HRQ : Rd w7 w3.heap.size 2 (if c' = k then some ad else some (ad.add (k * 2))) (T.drop k).length (bals (T.drop k)) := by
            rw [HLT.out]
            by_cases hck : c' = k
            · rw [if_pos hck]
              have h0 : T.drop k = [] := List.eq_nil_of_length_eq_zero (by rw [HLT.out]; omega)
              rw [h0, show m - k = 0 by omega]
              exact Rd.nil_
            · rw [if_neg hck]
              exact HD7.out
          have hRl : (R ++ [(⟨x0.acct, V⟩ : Bal)]).length = R.length + 1 := by simp
          refine ⟨⟨_, c' - k, P ++ T.take k, T.drop k, A7, c7, R ++ [(⟨x0.acct, V⟩ : Bal)], by rw [HLT.out], by rw [hRl], HPK.out, by rw [HLT.out]; omega, by rw [HLP.out, hRl]; omega, HS.out, HBT.out, HRQ, by rw [hRl]; exact HO7.out, HB7.out⟩, ?_⟩
          show m - k < m
          omega
      · obtain ⟨g1, g2⟩ := group_bad hst.out hbT.out HCN.out HX0.out hE
        rw [g1]
        rw [HPT.out] at g2
        have HG2 := Lib.hid g2
        clear g1 g2 hE
        go_wp2_with fail
        go_ret2
        exact ⟨HBW5.out, .inl ⟨by rw [← plusB_perm HP.out]; exact HG2.out, rfl⟩⟩
end Go.Proofs.YtjlokkjbdgcooaaGreat

/-
  Contract of trial.Balances.
-/
namespace Go.Proofs.YtjlokkjbdgcooaaGreat
open Go.RowKit
open Mo

def balOf (x : Lin) : Bal := ⟨x.acct, x.amt⟩
def balsOf (l : List Lin) : List Bal := l.map balOf
theorem made_bals (n : Nat) : (madeCells (Value.agg #[.int .i64 0, .int .i64 0]).cells (n * 2)).toList = bals (List.replicate n ⟨0, 0⟩) := by
  apply List.ext_getElem?
  intro i
  by_cases hi : i < n * 2
  · have h0 := bals_at (List.replicate n ⟨0, 0⟩) (i / 2) ⟨0, 0⟩ (by rw [List.getElem?_replicate, if_pos (by omega)])
    unfold madeCells
    rw [Array.getElem?_toList, Array.getElem?_map, Array.getElem?_range, if_pos hi]
    simp only [Value.cells, Option.map_some]
    have h2 : i % 2 = 0 ∨ i % 2 = 1 := by omega
    rcases h2 with h | h
    · have := h0.1
      rw [show i / 2 * 2 = i by omega] at this
      rw [this]
      simp [h]
    · have := h0.2
      rw [show i / 2 * 2 + 1 = i by omega] at this
      rw [this]
      simp [h]
  · rw [List.getElem?_eq_none (by rw [Array.length_toList, size_madeCells]; omega), List.getElem?_eq_none (by rw [bals_len]; simp; omega)]
theorem make_bals {q : IntKind} {n : Nat} (hn : n ≤ 1000000) (w : World) : (Instr.makeSlice 81 (.int q (n : Int)) (.int q (n : Int))).run Tryz.prog w = .ok (.slice (some ⟨w.heap.size, 0, none⟩) n n) (w.alloc (.cells (bals (List.replicate n ⟨0, 0⟩)).toArray 161)) := by
  obtain ⟨i, hi, hz, h1, h2⟩ := info_parts infoBal
  have := run_make (P := Tryz.prog) w 81 161 i _ Tryz.underlying81 hi hz q q n n (by omega) (by omega) (by rw [h2]; omega) (by omega)
  rw [this, h1]
  simp only [Int.toNat_natCast]
  rw [← made_bals, Array.toArray_toList]
theorem own_makeB (w : World) (n : Nat) (hn : n ≤ 1000000) : (w.alloc (.cells (bals (List.replicate n ⟨0, 0⟩)).toArray 161)).ownsRow w.heap.size 161 2 (.slice (some ⟨w.heap.size, 0, none⟩) n n) n (bals (List.replicate n ⟨0, 0⟩)) :=
  ⟨by rw [bals_len]; simp, .inr ⟨w.heap.size, n, _, rfl, Nat.le_refl _, heap_new _ _, Nat.le_refl _, by unfold maxLen; omega, by rw [List.size_toArray, bals_len]; simp, by rw [List.take_of_length_le (by rw [bals_len]; simp)]⟩⟩
/-- A place gets its cells. -/
theorem put_bal {w : World} {B g n c k : Nat} {P : List Bal} (x : Bal) (h : w.ownsRow B 161 2 (.slice (some ⟨g, 0, none⟩) n c) n (bals (P ++ List.replicate (n - k) ⟨0, 0⟩))) (hP : P.length = k) (hk : k < n) :
    ((w.setCell ⟨g, k * 2, none⟩ (.int .i64 x.acct)).setCell ⟨g, k * 2 + 1, none⟩ (.int .i64 x.amt)).ownsRow B 161 2 (.slice (some ⟨g, 0, none⟩) n c) n (bals ((P ++ [x]) ++ List.replicate (n - (k + 1)) ⟨0, 0⟩)) := by
  have h1 := own_setL [.int .i64 x.acct, .int .i64 x.amt] w (k * 2) _ h
  have e : setL (bals (P ++ List.replicate (n - k) ⟨0, 0⟩)) (k * 2) [.int .i64 x.acct, .int .i64 x.amt] = bals ((P ++ [x]) ++ List.replicate (n - (k + 1)) ⟨0, 0⟩) := by
    obtain ⟨r, hr⟩ : ∃ r, n - k = r + 1 := ⟨n - k - 1, by omega⟩
    rw [show n - (k + 1) = r by omega, hr, List.replicate_succ, bals_append, setL_off (bals P) _ _ (by rw [bals_len, hP]) (by rw [bals_len]; simp; omega)]
    rw [bals_append, bals_append]
    simp [bals, Bal.cells]
  rw [e] at h1
  exact h1
/-- What Balances gives. -/
def BalEnd (w : World) (o : OfT) (M : List Jrn) (e : Ending) (w' : World) : Prop :=
  (mayO o = false ∧ e = .returned (.tuple #[.slice none 0 0, .int .i64 1]) ∧ Below w.heap.size w w') ∨ (mayO o = true ∧ PlusEnd w (balsOf (gathL (pkL o) M)) e w')
theorem PlusEnd.on {w w1 w' : World} {l : List Bal} {e : Ending} (h : PlusEnd w1 l e w') (hb : Below w.heap.size w w1) : PlusEnd w l e w' := by
  obtain ⟨h1, h2⟩ := h
  refine ⟨hb.trans (h1.mono hb.size), ?_⟩
  rcases h2 with h2 | ⟨h2, A, c, R, h3, h4, h5⟩
  · exact .inl h2
  · exact .inr ⟨h2, A, c, R, h3, h4, own_base h5 hb.size⟩
theorem balsOf_len (l : List Lin) : (balsOf l).length = l.length := by simp [balsOf]
set_option maxRecDepth 100000 in
set_option maxHeartbeats 2000000 in
theorem balances_any (o : OfT) (B c : Nat) (v : Value) (l : List JR) (w : World) (h : TomeAt w B c v l) (hl : l.length ≤ 100) :
    Calls Tryz.prog 34 #[.pointer (some ⟨c, 0, none⟩), o.val] w (BalEnd w o (l.map JR.j)) := by
  obtain ⟨W, hW⟩ : ∃ W, w.alloc (.cells #[.int .i64 o.ent, .int .i64 o.frm, .int .i64 o.til] 80) = W := ⟨_, rfl⟩
  have hb : Below w.heap.size w W := by rw [← hW]; exact (Below.refl _ _).alloc (Nat.le_refl _) _
  have x0 : W.cell? ⟨w.heap.size, 0, none⟩ = some (.int .i64 o.ent) := by rw [← hW]; exact box_cell 0
  have x1 : W.cell? ⟨w.heap.size, 1, none⟩ = some (.int .i64 o.frm) := by rw [← hW]; exact box_cell 1
  have x2 : W.cell? ⟨w.heap.size, 2, none⟩ = some (.int .i64 o.til) := by rw [← hW]; exact box_cell 2
  have hz : W.heap.size = w.heap.size + 1 := by rw [← hW]; simp
  have KM := Lib.hid (mayBe_any' o W)
  have KG : Hid (∀ w1, Below w.heap.size w w1 → Calls Tryz.prog 118 #[.pointer (some ⟨c, 0, none⟩), .func (.func 119) #[o.val] #[]] w1 fun e w' => ∃ A' c', e = .returned (.slice A' (gathL (pkL o) (l.map JR.j)).length c') ∧ w'.ownsRow w1.heap.size 113 3 (.slice A' (gathL (pkL o) (l.map JR.j)).length c') (gathL (pkL o) (l.map JR.j)).length (lins (gathL (pkL o) (l.map JR.j))) ∧ Below w1.heap.size w1 w') := fun w1 h1 =>
    gather_any _ (.inl rfl) o (pkL o) B c v l w1 (h.below h1) (pickL o) fun j hj => pkL_le8 hj
  have hgl : (gathL (pkL o) (l.map JR.j)).length ≤ 800 := by
    have := gathL_len (pk := pkL o) (l := l.map JR.j) fun j hj => by
      obtain ⟨a, ha, rfl⟩ := List.mem_map.1 hj
      exact pkL_le8 (h.ok a ha)
    rw [List.length_map] at this
    omega
  have HW := Lib.hid hW; have HB := Lib.hid hb
  have HM : Hid (∀ e w', ((mayO o = false ∧ e = .returned (.tuple #[.slice none 0 0, .int .i64 1]) ∧ Below w.heap.size w w') ∨ (mayO o = true ∧ PlusEnd w (balsOf (gathL (pkL o) (l.map JR.j))) e w')) → BalEnd w o (l.map JR.j) e w') := fun _ _ h => h
  clear hW hb h
  generalize gathL (pkL o) (l.map JR.j) = G at *
  generalize BalEnd w o (l.map JR.j) = END at *
  generalize mayO o = may at *
  unfold OfT.val at *
  go_enter Tryz.func34, Tryz.ntmps34
  go_wp2_with fail
  rw [HW.out]
  refine KM.out.mono ?_
  rintro e w3 ⟨rfl, hb3⟩
  have HB3 := Lib.hid (HB.out.trans (hb3.mono HB.out.size))
  have y0 := (hb3.cell (p := ⟨w.heap.size, 0, none⟩) (by show w.heap.size < W.heap.size; omega)).trans x0
  have y1 := (hb3.cell (p := ⟨w.heap.size, 1, none⟩) (by show w.heap.size < W.heap.size; omega)).trans x1
  have y2 := (hb3.cell (p := ⟨w.heap.size, 2, none⟩) (by show w.heap.size < W.heap.size; omega)).trans x2
  clear hb3 KM x0 x1 x2
  cases may
  · go_wp2_with fail
    exact HM.out _ _ (.inl ⟨trivial, rfl, HB3.out⟩)
  · go_wp2_with fail
    refine (KG.out w3 HB3.out).mono ?_
    rintro e w4 ⟨A4, c4, rfl, hown, hb4⟩
    have HB4 := Lib.hid (HB3.out.trans (hb4.mono HB3.out.size))
    have HR4 : Hid (Rd w4 w4.heap.size 3 A4 G.length (lins G)) := rd_of_own hown
    obtain ⟨n, hn⟩ : ∃ n, G.length = n := ⟨_, rfl⟩
    rw [hn] at HR4 hgl ⊢
    have HN := Lib.hid hn
    have hmk := make_bals (q := .i64) (n := n) (by omega) w4
    obtain ⟨W5, hW5⟩ : ∃ W5, w4.alloc (.cells (bals (List.replicate n ⟨0, 0⟩)).toArray 161) = W5 := ⟨_, rfl⟩
    have HO5 : Hid (W5.ownsRow w4.heap.size 161 2 (.slice (some ⟨w4.heap.size, 0, none⟩) n n) n (bals (List.replicate n ⟨0, 0⟩))) := by rw [← hW5]; exact own_makeB w4 n (by omega)
    have hb5 : Below w4.heap.size w4 W5 := by rw [← hW5]; exact (Below.refl _ _).alloc (Nat.le_refl _) _
    have HB5 := Lib.hid hb5
    have hz4 := HB4.out.size
    rw [hW5] at hmk
    clear hown hb4 KG hn hW5 hb5 y0 y1 y2
    go_wp2_with fail
    go_loopw [26] (fun iv wr => ∃ k : Nat, k ≤ n ∧ iv = .int .i64 k ∧ wr.ownsRow w4.heap.size 161 2 (.slice (some ⟨w4.heap.size, 0, none⟩) n n) n (bals (balsOf (G.take k) ++ List.replicate (n - k) ⟨0, 0⟩)) ∧ Below w4.heap.size w4 wr) (fun iv _ => n - (intOf iv).toNat)
    case atStart => exact ⟨0, Nat.zero_le _, rfl, HO5.out, HB5.out⟩
    case round =>
      obtain ⟨k, hk, rfl, hown, hbel⟩ := hrel
      have hzr := hbel.size
      by_cases hlt : k < n
      · obtain ⟨ad, x, rfl, hb0, hx, p0, p1, p2⟩ := (HR4.out.below hbel).lin hlt
        have p1' := cell_behind (j := 1) p1 (by omega)
        have p2' := cell_behind (j := 2) p2 (by omega)
        have hkI : (k : Int) < (n : Int) := by omega
        have HO := Lib.hid hown; have HBE := Lib.hid hbel
        have HX := Lib.hid hx
        have hlt0 := own_lt hown w4.heap.size rfl
        obtain ⟨q0, hq0⟩ : ∃ u, wr.cell? ⟨w4.heap.size, k * 2, none⟩ = some u := ⟨_, own_cell hown (List.getElem?_eq_getElem (by rw [bals_len]; simp [balsOf]; have := HN.out; omega))⟩
        obtain ⟨q1, hq1⟩ : ∃ u, wr.cell? ⟨w4.heap.size, k * 2 + 1, none⟩ = some u := ⟨_, own_cell hown (List.getElem?_eq_getElem (by rw [bals_len]; simp [balsOf]; have := HN.out; omega))⟩
        have f0 := own_warm hown (k * 2)
        have f1 := own_warm hown (k * 2 + 1)
        clear hx p1 p2 hb0 hown hbel
        go_wp2_with fail
        have hG : balsOf (G.take (k + 1)) = balsOf (G.take k) ++ [balOf x] := by
          obtain ⟨hk2, rfl⟩ := List.getElem?_eq_some_iff.1 HX.out
          unfold balsOf
          rw [List.take_succ_eq_append_getElem hk2, List.map_append]
          rfl
        have hput := put_bal (balOf x) HO.out (by rw [balsOf_len, List.length_take, HN.out]; omega) hlt
        rw [← hG] at hput
        refine ⟨⟨k + 1, by omega, by go_num, own_kept hput fun q hq _ => Below.heap_alloc _ _ _ hq, ((HBE.out.setCell (Nat.le_refl _) _).setCell (Nat.le_refl _) _).alloc (by simp; omega) _⟩, by simp [intOf]; omega⟩
      · obtain rfl : k = n := by omega
        have e : G.take k = G := List.take_of_length_le (by rw [HN.out]; omega)
        rw [e, Nat.sub_self, List.replicate_zero, List.append_nil] at hown
        have kp := plus_any (balsOf G) [] (some ⟨w4.heap.size, 0, none⟩) none k 0 k 0 wr.heap.size wr (rd_of_own hown) Rd.nil_ (Nat.le_refl _) (by omega)
        rw [List.append_nil] at kp
        have KP := Lib.hid kp
        have HBE := Lib.hid (HB4.out.trans (hbel.mono hz4))
        clear hown hbel e kp
        go_wp2_with fail
        refine KP.out.mono ?_
        rintro e w6 hpe
        have HPE := Lib.hid (PlusEnd.on hpe HBE.out)
        clear hpe KP
        obtain ⟨e1, he1, he2⟩ : ∃ v1 v2, e = .returned (.tuple #[v1, v2]) := by
          obtain ⟨_, ⟨_, h⟩ | ⟨_, A, c, R, _, h, _⟩⟩ := HPE.out
          · exact ⟨_, _, h⟩
          · exact ⟨_, _, h⟩
        subst he2
        go_wp2_with fail
        exact HM.out _ _ (.inr ⟨trivial, HPE.out⟩)
end Go.Proofs.YtjlokkjbdgcooaaGreat
