/-
  Several texts, one behind the other: what each holds stands ahead of it.
-/
import Derived.Test.YtjlokkjbdgcooaaGreatMany27
import Derived.Test.YtjlokkjbdgcooaaGreatMany26
import Derived.Test.YtjlokkjbdgcooaaGreatOwn

/-
  Contract of trial's Pick; a balance appended; which kinds' accounts there are.
-/
namespace Go.Proofs.YtjlokkjbdgcooaaGreat
open Go.RowKit

/-- A balance appended to a row of one's own. -/
theorem append_bal1 {w : World} {base m : Nat} {v : Value} {L : List Bal} (a : Bal) (h : w.ownsRow base 161 2 v m (bals L)) (hb : base ≤ w.heap.size) (hm : m ≤ 1000000) :
    ∃ v' w', (∀ ty, (Builtin.append_ #[81, 81] ty #[v, .slice (some ⟨w.heap.size, 0, none⟩) 1 1]).run Tryz.prog (w.alloc (.cells #[.int .i64 a.acct, .int .i64 a.amt] 161)) = .ok v' w') ∧ w'.ownsRow base 161 2 v' (m + 1) (bals (L ++ [a])) ∧ But (fun k => v.ownBlock = some k) w w' ∧ Below base w w' ∧ (v'.ownBlock = v.ownBlock ∨ v'.ownBlock = some (w.heap.size + 1)) := by
  have hR : Rd (w.alloc (.cells #[.int .i64 a.acct, .int .i64 a.amt] 161)) (w.heap.size + 1) 2 (some ⟨w.heap.size, 0, none⟩) 1 (bals [a]) := ⟨rfl, fun _ => ⟨_, rfl, by simp, cells_new w (bals [a]) 161⟩⟩
  have h1 : (w.alloc (.cells #[.int .i64 a.acct, .int .i64 a.amt] 161)).ownsRow base 161 2 v m (bals L) := own_kept h fun k hk _ => Below.heap_alloc w _ _ hk
  obtain ⟨v', w', hrun, hown, hg, hp⟩ := append_fresh (P := Tryz.prog) (ty := 0) (c := 1) infoBal Tryz.underlying81 rfl (by omega) base v m (bals L) h1 hR (balsOne _) (by unfold maxLen; omega) (by omega) (by simp; omega)
  refine ⟨v', w', fun ty => hrun, by rw [bals_append]; exact hown, ?_, ?_, ?_⟩
  · exact (But.of_below ((Below.refl _ _).alloc (Nat.le_refl _) _)).trans (But.of_grown hg)
  · exact ((Below.refl _ _).alloc hb _).grown hg (by simp; omega) (own_ge h)
  · simpa using hp

def pickB (ks : List Int) (l : List Bal) : List Bal := l.filter fun x => ks.contains x.acct
theorem filter_step {p : Bal → Bool} {l : List Bal} {k : Nat} {a : Bal} (h : l[k]? = some a) : (l.take (k + 1)).filter p = (l.take k).filter p ++ if p a = true then [a] else [] := by
  obtain ⟨hk, rfl⟩ := List.getElem?_eq_some_iff.1 h
  rw [List.take_succ_eq_append_getElem hk, List.filter_append]
  simp [List.filter_cons]
theorem filter_yes {p : Bal → Bool} {l : List Bal} {k : Nat} {a : Bal} (h : l[k]? = some a) (hp : p a = true) : (l.take (k + 1)).filter p = (l.take k).filter p ++ [a] := by rw [filter_step h, if_pos hp]
theorem filter_no {p : Bal → Bool} {l : List Bal} {k : Nat} {a : Bal} (h : l[k]? = some a) (hp : p a = false) : (l.take (k + 1)).filter p = (l.take k).filter p := by rw [filter_step h, if_neg (by rw [hp]; decide), List.append_nil]
theorem filter_len {p : Bal → Bool} (l : List Bal) (k : Nat) : ((l.take k).filter p).length ≤ k := Nat.le_trans (List.length_filter_le _ _) (by rw [List.length_take]; omega)

def PickEnd (w : World) (L : List Bal) (e : Ending) (w' : World) : Prop := ∃ A c, e = .returned (.slice A L.length c) ∧ w'.ownsRow w.heap.size 161 2 (.slice A L.length c) L.length (bals L) ∧ Below w.heap.size w w'
/-- What Kind gives. -/
def KindTo (cv : Value) (A2 : Option Addr) (n2 c2 : Nat) (ks : List Int) (w : World) : Prop :=
  Calls Tryz.prog 207 #[cv, .slice A2 n2 c2] w fun e w' => ∃ A' c', e = .returned (.slice A' ks.length c') ∧ Rd w' w'.heap.size 1 A' ks.length (ints .i64 ks) ∧ Below w.heap.size w w'
set_option maxRecDepth 100000 in
set_option maxHeartbeats 2000000 in
theorem pick_any (cv : Value) (hcv : cv = .pointer none ∨ ∃ g, cv = .pointer (some ⟨g, 0, none⟩)) (l : List Bal) (ks : List Int) (A A2 : Option Addr) (n c n2 c2 B : Nat) (w : World) (h : Rd w B 2 A n (bals l)) (hB : B ≤ w.heap.size) (hn : n ≤ 1000000)
    (hk : KindTo cv A2 n2 c2 ks w) (hs : ks.Pairwise (· < ·)) (hkl : ks.length ≤ 10000) :
    Calls Tryz.prog 178 #[cv, .slice A n c, .slice A2 n2 c2] w (PickEnd w (pickB ks l)) := by
  have HL := Lib.hid h.bals_len
  have HR := Lib.hid h
  have HS := Lib.hid hs
  unfold KindTo at hk
  have KK := Lib.hid hk
  clear h hs hk
  rcases hcv with rfl | ⟨g, rfl⟩
  all_goals
    go_enter Tryz.func178, Tryz.ntmps178
    go_wp2_with fail
    refine KK.out.mono ?_
    rintro e w1 ⟨A1, c1, rfl, hr1, hb1⟩
    have HB1 := Lib.hid hb1
    have hz1 := hb1.size
    have HK1 := Lib.hid hr1
    have HRR := Lib.hid (HR.out.far hb1 hB)
    clear hr1 hb1 KK
    obtain ⟨m, hm⟩ : ∃ m, ks.length = m := ⟨_, rfl⟩
    rw [hm] at HK1 hkl ⊢
    clear hm
    go_wp2_with fail
    go_loopw [8, 17] (fun lv iv wr => ∃ k : Nat, k ≤ n ∧ iv = .int .i64 k ∧ (∃ A' c', lv = .slice A' (pickB ks (l.take k)).length c' ∧ wr.ownsRow w1.heap.size 161 2 (.slice A' (pickB ks (l.take k)).length c') (pickB ks (l.take k)).length (bals (pickB ks (l.take k)))) ∧ Below w1.heap.size w1 wr) (fun _ iv _ => n - (intOf iv).toNat)
    case atStart => exact ⟨0, Nat.zero_le _, rfl, ⟨none, 0, rfl, World.ownsRow_nil _ _ _ _⟩, Below.refl _ _⟩
    case round =>
      obtain ⟨k, hk, rfl, ⟨A', c', rfl, hown⟩, hbel⟩ := hrel
      have hzr := hbel.size
      by_cases hlt : k < n
      · obtain ⟨ad, x, rfl, hb0, hx, p0, p1⟩ := (HRR.out.far hbel (by omega)).bal hlt
        have p1' := cell_behind (j := 1) p1 (by omega)
        have hkI : (k : Int) < (n : Int) := by omega
        have hpl : (pickB ks (l.take k)).length ≤ k := filter_len l k
        obtain ⟨W3, hW3⟩ : ∃ W3, wr.alloc (.cells #[.int .i64 x.acct, .int .i64 x.amt] 161) = W3 := ⟨_, rfl⟩
        have hz3 : W3.heap.size = wr.heap.size + 1 := by rw [← hW3]; simp
        have hb3 : Below wr.heap.size wr W3 := by rw [← hW3]; exact (Below.refl _ _).alloc (Nat.le_refl _) _
        have kh := have_any ks x A1 m c1 w1.heap.size W3 ((HK1.out.below hbel).far hb3 hzr) (by omega) (by omega) HS.out
        have KH := Lib.hid kh
        have hown3 := own_kept hown fun q hq _ => hb3.block q hq
        have HO3 := Lib.hid hown3
        have HB3 := Lib.hid (hbel.trans (hb3.mono hzr))
        have HW3 := Lib.hid hW3
        have HY := Lib.hid (filter_yes (p := fun x => ks.contains x.acct) hx)
        have HN := Lib.hid (filter_no (p := fun x => ks.contains x.acct) hx)
        have HP : Hid (∀ l', pickB ks l' = l'.filter fun x => ks.contains x.acct) := fun _ => rfl
        clear hown hbel hb3 hown3 kh hx hb0 hW3 p1
        obtain ⟨z, hz⟩ : ∃ z, ks.contains x.acct = z := ⟨_, rfl⟩
        rw [hz] at KH
        have HZ := Lib.hid hz
        clear hz
        obtain ⟨x1, x2⟩ := x
        dsimp only at *
        go_wp2_with fail
        rw [HW3.out]
        refine KH.out.mono ?_
        rintro e w4 ⟨rfl, hb4⟩
        have hown4 := own_kept HO3.out fun q hq _ => hb4.block q hq
        have hz4 := hb4.size
        have HB4 := Lib.hid (HB3.out.trans (hb4.mono (by omega)))
        have hc30 : W3.cell? ⟨wr.heap.size, 0, none⟩ = some (.int .i64 x1) := by rw [← HW3.out, cell_of (heap_new wr _)]; rfl
        have hc31 : W3.cell? ⟨wr.heap.size, 1, none⟩ = some (.int .i64 x2) := by rw [← HW3.out, cell_of (heap_new wr _)]; rfl
        have hc40 : w4.cell? ⟨wr.heap.size, 0, none⟩ = some (.int .i64 x1) := by rw [hb4.cell (by show wr.heap.size < _; omega)]; exact hc30
        have hc41 : w4.cell? ⟨wr.heap.size, 1, none⟩ = some (.int .i64 x2) := by rw [hb4.cell (by show wr.heap.size < _; omega)]; exact hc31
        have HO4 := Lib.hid hown4
        clear hb4 hc30 hc31 KH
        cases z
        · clear hown4
          have HN2 : Hid (pickB ks (l.take (k + 1)) = pickB ks (l.take k)) := by rw [Hid, HP.out, HP.out]; exact HN.out HZ.out
          go_wp2_with fail
          refine ⟨⟨k + 1, by omega, by go_num, ⟨A', c', ?_, ?_⟩, HB4.out⟩, by simp [intOf]; omega⟩
          · rw [HN2.out]
          · rw [HN2.out]; exact HO4.out
        · have HY2 : Hid (pickB ks (l.take (k + 1)) = pickB ks (l.take k) ++ [⟨x1, x2⟩]) := by rw [Hid, HP.out, HP.out]; exact HY.out HZ.out
          obtain ⟨v7, w7, hrun, hown7, _, hb7, _⟩ := append_bal1 ⟨x1, x2⟩ hown4 (by omega) (by omega)
          obtain ⟨A7, c7, rfl⟩ := own_form hown7
          have HO7 := Lib.hid hown7
          have HB7 := Lib.hid (HB4.out.trans hb7)
          have HLL : Hid ((pickB ks (l.take k) ++ [(⟨x1, x2⟩ : Bal)]).length = (pickB ks (l.take k)).length + 1) := by simp [Hid]
          dsimp only at hrun
          clear hown4 hown7 hb7
          go_wp2_with (at_builtin; refine Lib.wpList_append_run _ rfl _ _ _ _ rfl _ _ rfl rfl _ _ (hrun _) ?_)
          refine ⟨⟨k + 1, by omega, by go_num, ⟨A7, c7, ?_, ?_⟩, HB7.out⟩, by simp [intOf]; omega⟩
          · rw [HY2.out, HLL.out]
          · rw [HY2.out, HLL.out]; exact HO7.out
      · have hkn : k = n := by omega
        have e : l.take k = l := List.take_of_length_le (by rw [HL.out]; omega)
        rw [e] at hown ⊢
        have HO := Lib.hid (own_base hown hz1)
        have HBW := Lib.hid (HB1.out.trans (hbel.mono hz1))
        clear hown hbel e
        go_wp2_with fail
        go_ret
        exact ⟨A', c', rfl, HO.out, HBW.out⟩

/-- The kind of an account; 0: none. -/
def kindA (C : List Acc) (x : Int) : Int := ((findA C x).getD acc0).kind
theorem findA_some {C : List Acc} (hg : GoodA C) {a : Acc} (ha : a ∈ C) : findA C a.code = some a := by
  obtain ⟨k, hk⟩ := List.mem_iff_getElem?.1 ha
  cases hf : findA C a.code with
  | none =>
    unfold findA at hf
    rw [List.find?_eq_none] at hf
    have := hf a ha
    simp at this
  | some b =>
    have hb : b.code = a.code := by unfold findA at hf; simpa using List.find?_some hf
    have hbm : b ∈ C := by unfold findA at hf; exact List.mem_of_find?_eq_some hf
    obtain ⟨q, hq⟩ := List.mem_iff_getElem?.1 hbm
    rcases Nat.lt_trichotomy k q with h | h | h
    · have := rise_ltCh hg.1 h hk hq; omega
    · subst h; rw [hk] at hq; exact hq.symm
    · have := rise_ltCh hg.1 h hq hk; omega
theorem kindL_contains {C : List Acc} (hg : GoodA C) (ks : List Int) (x : Int) : (kindL C ks).contains x = (decide (0 < kindA C x) && ks.contains (kindA C x)) := by
  rw [Bool.eq_iff_iff]
  unfold kindL
  simp only [List.contains_iff_mem, List.mem_map, List.mem_filter, Bool.and_eq_true, decide_eq_true_eq]
  constructor
  · rintro ⟨a, ⟨ha, hk⟩, rfl⟩
    have hf := findA_some hg ha
    have ho := okRow_t (hg.2 a ha)
    unfold kindA
    rw [hf]
    exact ⟨by show 0 < a.kind; omega, hk⟩
  · rintro ⟨h0, hk⟩
    cases hf : findA C x with
    | none => unfold kindA at h0; rw [hf] at h0; exact absurd h0 (by decide)
    | some a =>
      have ha : a ∈ C := by unfold findA at hf; exact List.mem_of_find?_eq_some hf
      have hc : a.code = x := by unfold findA at hf; simpa using List.find?_some hf
      unfold kindA at hk
      rw [hf] at hk
      exact ⟨a, ⟨ha, hk⟩, hc⟩
theorem kindA_le {C : List Acc} (hg : GoodA C) (x : Int) : 0 ≤ kindA C x ∧ kindA C x ≤ 5 := by
  unfold kindA
  cases hf : findA C x with
  | none => exact ⟨Int.le_refl _, by decide⟩
  | some a =>
    have ha : a ∈ C := by unfold findA at hf; exact List.mem_of_find?_eq_some hf
    have ho := okRow_t (hg.2 a ha)
    exact ⟨by show 0 ≤ a.kind; omega, by show a.kind ≤ 5; omega⟩
theorem kindL_all5 {C : List Acc} (hg : GoodA C) (x : Int) : (kindL C [1, 2, 3, 4, 5]).contains x = decide (0 < kindA C x) := by
  rw [kindL_contains hg]
  obtain ⟨h0, h5⟩ := kindA_le hg x
  by_cases h : 0 < kindA C x
  · rw [decide_eq_true h]
    have : kindA C x = 1 ∨ kindA C x = 2 ∨ kindA C x = 3 ∨ kindA C x = 4 ∨ kindA C x = 5 := by omega
    rcases this with e | e | e | e | e <;> rw [e] <;> rfl
  · rw [decide_eq_false h]; rfl
theorem kindL_rise {C : List Acc} (hg : GoodA C) (ks : List Int) : (kindL C ks).Pairwise (· < ·) := by
  unfold kindL
  rw [List.pairwise_map]
  exact hg.1.sublist List.filter_sublist
end Go.Proofs.YtjlokkjbdgcooaaGreat

/-
  Lists of pairs, and the statements' helper over them: SamePairs.
-/
namespace Go.Proofs.YtjlokkjbdgcooaaGreat
open Go.RowKit

/-- An element. -/
structure Pair where
  x : Int
  y : Int
deriving DecidableEq
def Pair.cells (a : Pair) : List Value := [.int .i64 a.x, .int .i64 a.y]
def Pair.val (a : Pair) : Value := .agg #[.int .i64 a.x, .int .i64 a.y]
def pairs (l : List Pair) : List Value := l.flatMap Pair.cells
theorem pairs_len : ∀ l : List Pair, (pairs l).length = l.length * 2
  | [] => rfl
  | a :: l => by have := pairs_len l; unfold pairs at this ⊢; simp [Pair.cells, this]; omega
theorem pairs_append (l m : List Pair) : pairs (l ++ m) = pairs l ++ pairs m := by simp [pairs]
theorem pairs_at : ∀ (l : List Pair) (k : Nat) (a : Pair), l[k]? = some a → (pairs l)[k * 2]? = some (.int .i64 a.x) ∧ (pairs l)[k * 2 + 1]? = some (.int .i64 a.y)
  | [], k, a, h => by simp at h
  | b :: l, 0, a, h => by
    simp at h; subst h
    exact ⟨rfl, rfl⟩
  | b :: l, k + 1, a, h => by
    have := pairs_at l k a (by simpa using h)
    unfold pairs at this ⊢
    simp only [List.flatMap_cons, Pair.cells]
    rw [show (k + 1) * 2 = k * 2 + 2 by omega]
    simpa [List.getElem?_append_right] using this
theorem Rd.pairs_len {w : World} {B n : Nat} {A : Option Addr} {l : List Pair} (h : Rd w B 2 A n (pairs l)) : l.length = n := by
  have := h.1; rw [Go.Proofs.YtjlokkjbdgcooaaGreat.pairs_len] at this; omega
theorem Rd.pair {w : World} {B n i : Nat} {A : Option Addr} {l : List Pair} (h : Rd w B 2 A n (pairs l)) (hi : i < n) :
    ∃ ad a, A = some ad ∧ ad.block < B ∧ l[i]? = some a ∧ w.cell? (ad.add (i * 2)) = some (.int .i64 a.x) ∧ w.cell? (ad.add (i * 2 + 1)) = some (.int .i64 a.y) := by
  obtain ⟨ad, e, hb, hc⟩ := h.2 (by omega)
  have hl := h.pairs_len
  have hg : l[i]? = some l[i] := List.getElem?_eq_getElem (by omega)
  obtain ⟨h1, h2⟩ := pairs_at l i _ hg
  exact ⟨ad, _, e, hb, hg, hc _ _ h1, hc _ _ h2⟩

theorem infoPair : (Tryz.prog.info? 177).map (fun i => (i.zero, i.size, i.bytes)) = some (some (.agg #[.int .i64 0, .int .i64 0]), 2, 16) := by kernel_rfl
theorem pair_step {l m : List Pair} {k : Nat} (hk : k < l.length ∧ k < m.length) (h1 : l.take k = m.take k) (h2 : l[k]? = m[k]?) : l.take (k + 1) = m.take (k + 1) := by
  rw [List.take_succ_eq_append_getElem hk.1, List.take_succ_eq_append_getElem hk.2, h1]
  rw [List.getElem?_eq_getElem hk.1, List.getElem?_eq_getElem hk.2] at h2
  injection h2 with h2
  rw [h2]

set_option maxRecDepth 100000 in
set_option maxHeartbeats 400000 in
theorem samePairs_any (l m : List Pair) (A1 A2 : Option Addr) (n1 n2 c1 c2 B1 B2 : Nat) (w : World) (h1 : Rd w B1 2 A1 n1 (pairs l)) (h2 : Rd w B2 2 A2 n2 (pairs m)) (hn1 : n1 ≤ 1000000) (hn2 : n2 ≤ 1000000) :
    Calls Tryz.prog 39 #[.slice A1 n1 c1, .slice A2 n2 c2] w fun e w' => e = .returned (.bool (l == m)) ∧ Drew w w' := by
  have L1 := Lib.hid h1.pairs_len
  have L2 := Lib.hid h2.pairs_len
  by_cases hne : n1 = n2
  · subst hne
    have t1 : ((n1 : Int) != (n1 : Int)) = false := by simp
    go_enter Tryz.func39, Tryz.ntmps39
    go_wp2_with fail
    go_loopw [5] (fun i wr => ∃ k : Nat, k ≤ n1 ∧ i = .int .i64 k ∧ Hid (l.take k = m.take k) ∧ Drew w wr) (fun i _ => n1 - (intOf i).toNat)
    case atStart => exact ⟨0, Nat.zero_le _, rfl, by simp [Hid], Drew.refl _⟩
    case round =>
      obtain ⟨k, hk, rfl, hs, q, rfl⟩ := hrel
      by_cases hlt : k < n1
      · obtain ⟨a1, x, rfl, hb1, hx, p1, p2⟩ := h1.pair hlt
        obtain ⟨a2, y, rfl, hb2, hy, r1, r2⟩ := h2.pair hlt
        have hkn : (k : Int) < (n1 : Int) := by omega
        have p2' := cell_behind p2 (by omega)
        have r2' := cell_behind r2 (by omega)
        have HX : Hid (x = y → l.take (k + 1) = m.take (k + 1)) := fun h => pair_step (by have := L1.out; have := L2.out; omega) hs.out (by rw [hx, hy, h])
        have HY : Hid (x ≠ y → (l == m) = false) := by
          intro h
          rw [beq_eq_false_iff_ne]
          intro e
          rw [e, hy] at hx
          exact h (by injection hx with hx; exact hx.symm)
        clear hx hy p2 r2
        obtain ⟨x1, x2⟩ := x
        obtain ⟨y1, y2⟩ := y
        by_cases e1 : x1 = y1
        · subst e1
          by_cases e2 : x2 = y2
          · subst e2
            have he : ∀ w, (Op.equalIn 10000 177 (.agg #[.int .i64 x1, .int .i64 x2]) (.agg #[.int .i64 x1, .int .i64 x2])).run Tryz.prog w = .ok true w := fun w => by rw [eql_array2 w 9998 177 3 Tryz.underlying177 Tryz.underlying3 (fun w => by kernel_rfl)]; simp
            go_wp2_with fail
            go_big_quiet (fail)
            go_wp2
            exact ⟨⟨k + 1, by omega, by go_num, HX.out (by first | rfl | trivial), Drew.add _ _⟩, by simp [intOf]; omega⟩
          · skip
            have he : ∀ w, (Op.equalIn 10000 177 (.agg #[.int .i64 x1, .int .i64 x2]) (.agg #[.int .i64 x1, .int .i64 y2])).run Tryz.prog w = .ok false w := fun w => by rw [eql_array2 w 9998 177 3 Tryz.underlying177 Tryz.underlying3 (fun w => by kernel_rfl)]; simp [e2]
            go_wp2_with fail
            go_big_quiet (fail)
            go_wp2
            go_ret
            exact ⟨ret_bool (HY.out (by simp [e2])).symm, ⟨_, World.drewN_drewN _ _ _⟩⟩
        · skip
          have he : ∀ w, (Op.equalIn 10000 177 (.agg #[.int .i64 x1, .int .i64 x2]) (.agg #[.int .i64 y1, .int .i64 y2])).run Tryz.prog w = .ok false w := fun w => by rw [eql_array2 w 9998 177 3 Tryz.underlying177 Tryz.underlying3 (fun w => by kernel_rfl)]; simp [e1]
          go_wp2_with fail
          go_big_quiet (fail)
          go_wp2
          go_ret
          exact ⟨ret_bool (HY.out (by simp [e1])).symm, ⟨_, World.drewN_drewN _ _ _⟩⟩
      · go_wp2
        go_ret
        refine ⟨ret_bool ?_, _, rfl⟩
        have := hs.out
        rw [List.take_of_length_le (by have := L1.out; omega), List.take_of_length_le (by have := L2.out; omega)] at this
        rw [this]; simp
  · have t1 : ((n1 : Int) != (n2 : Int)) = true := by rw [bne_iff_ne]; omega
    have HN := Lib.hid hne
    clear hne
    go_enter Tryz.func39, Tryz.ntmps39
    go_wp2
    go_ret
    refine ⟨ret_bool ?_, Drew.refl _⟩
    symm
    rw [beq_eq_false_iff_ne]
    intro e
    have := L1.out; have := L2.out
    rw [e] at *
    have := HN.out; omega
end Go.Proofs.YtjlokkjbdgcooaaGreat
