/-
  Several texts, one behind the other: what each holds stands ahead of it.
-/
import Derived.Test.YtjlokkjbdgcooaaGreatTrialGather
import Derived.Test.YtjlokkjbdgcooaaGreatTrialPlus
import Derived.Test.YtjlokkjbdgcooaaGreatOwn

/-
  Contract of trial.Balances.
-/
namespace Go.Proofs.YtjlokkjbdgcooaaGreat
open Go.RowKit
open Mo

def balOf (x : Lin) : Bal := ⟨x.acct, x.amt⟩
def balsOf (l : List Lin) : List Bal := l.map balOf
theorem made_bals (n : Nat) : (madeCells (Value.agg #[.int .i64 0, .int .i64 0]).cells (n * 2)).toList = bals (List.replicate n ⟨0, 0⟩) := by
  apply List.ext_getElem?
  intro i
  by_cases hi : i < n * 2
  · have h0 := bals_at (List.replicate n ⟨0, 0⟩) (i / 2) ⟨0, 0⟩ (by rw [List.getElem?_replicate, if_pos (by omega)])
    unfold madeCells
    rw [Array.getElem?_toList, Array.getElem?_map, Array.getElem?_range, if_pos hi]
    simp only [Value.cells, Option.map_some]
    have h2 : i % 2 = 0 ∨ i % 2 = 1 := by omega
    rcases h2 with h | h
    · have := h0.1
      rw [show i / 2 * 2 = i by omega] at this
      rw [this]
      simp [h]
    · have := h0.2
      rw [show i / 2 * 2 + 1 = i by omega] at this
      rw [this]
      simp [h]
  · rw [List.getElem?_eq_none (by rw [Array.length_toList, size_madeCells]; omega), List.getElem?_eq_none (by rw [bals_len]; simp; omega)]
theorem make_bals {q : IntKind} {n : Nat} (hn : n ≤ 1000000) (w : World) : (Instr.makeSlice 81 (.int q (n : Int)) (.int q (n : Int))).run Tryz.prog w = .ok (.slice (some ⟨w.heap.size, 0, none⟩) n n) (w.alloc (.cells (bals (List.replicate n ⟨0, 0⟩)).toArray 161)) := by
  obtain ⟨i, hi, hz, h1, h2⟩ := info_parts infoBal
  have := run_make (P := Tryz.prog) w 81 161 i _ Tryz.underlying81 hi hz q q n n (by omega) (by omega) (by rw [h2]; omega) (by omega)
  rw [this, h1]
  simp only [Int.toNat_natCast]
  rw [← made_bals, Array.toArray_toList]
theorem own_makeB (w : World) (n : Nat) (hn : n ≤ 1000000) : (w.alloc (.cells (bals (List.replicate n ⟨0, 0⟩)).toArray 161)).ownsRow w.heap.size 161 2 (.slice (some ⟨w.heap.size, 0, none⟩) n n) n (bals (List.replicate n ⟨0, 0⟩)) :=
  ⟨by rw [bals_len]; simp, .inr ⟨w.heap.size, n, _, rfl, Nat.le_refl _, heap_new _ _, Nat.le_refl _, by unfold maxLen; omega, by rw [List.size_toArray, bals_len]; simp, by rw [List.take_of_length_le (by rw [bals_len]; simp)]⟩⟩
/-- A place gets its cells. -/
theorem put_bal {w : World} {B g n c k : Nat} {P : List Bal} (x : Bal) (h : w.ownsRow B 161 2 (.slice (some ⟨g, 0, none⟩) n c) n (bals (P ++ List.replicate (n - k) ⟨0, 0⟩))) (hP : P.length = k) (hk : k < n) :
    ((w.setCell ⟨g, k * 2, none⟩ (.int .i64 x.acct)).setCell ⟨g, k * 2 + 1, none⟩ (.int .i64 x.amt)).ownsRow B 161 2 (.slice (some ⟨g, 0, none⟩) n c) n (bals ((P ++ [x]) ++ List.replicate (n - (k + 1)) ⟨0, 0⟩)) := by
  have h1 := own_setL [.int .i64 x.acct, .int .i64 x.amt] w (k * 2) _ h
  have e : setL (bals (P ++ List.replicate (n - k) ⟨0, 0⟩)) (k * 2) [.int .i64 x.acct, .int .i64 x.amt] = bals ((P ++ [x]) ++ List.replicate (n - (k + 1)) ⟨0, 0⟩) := by
    obtain ⟨r, hr⟩ : ∃ r, n - k = r + 1 := ⟨n - k - 1, by omega⟩
    rw [show n - (k + 1) = r by omega, hr, List.replicate_succ, bals_append, setL_off (bals P) _ _ (by rw [bals_len, hP]) (by rw [bals_len]; simp; omega)]
    rw [bals_append, bals_append]
    simp [bals, Bal.cells]
  rw [e] at h1
  exact h1
/-- What Balances gives. -/
def BalEnd (w : World) (o : OfT) (M : List Jrn) (e : Ending) (w' : World) : Prop :=
  (mayO o = false ∧ e = .returned (.tuple #[.slice none 0 0, .int .i64 1]) ∧ Below w.heap.size w w') ∨ (mayO o = true ∧ PlusEnd w (balsOf (gathL (pkL o) M)) e w')
theorem PlusEnd.on {w w1 w' : World} {l : List Bal} {e : Ending} (h : PlusEnd w1 l e w') (hb : Below w.heap.size w w1) : PlusEnd w l e w' := by
  obtain ⟨h1, h2⟩ := h
  refine ⟨hb.trans (h1.mono hb.size), ?_⟩
  rcases h2 with h2 | ⟨h2, A, c, R, h3, h4, h5⟩
  · exact .inl h2
  · exact .inr ⟨h2, A, c, R, h3, h4, own_base h5 hb.size⟩
theorem balsOf_len (l : List Lin) : (balsOf l).length = l.length := by simp [balsOf]
set_option maxRecDepth 100000 in
set_option maxHeartbeats 2000000 in
theorem balances_any (o : OfT) (B c : Nat) (v : Value) (l : List JR) (w : World) (h : TomeAt w B c v l) (hl : l.length ≤ 100) :
    Calls Tryz.prog 34 #[.pointer (some ⟨c, 0, none⟩), o.val] w (BalEnd w o (l.map JR.j)) := by
  obtain ⟨W, hW⟩ : ∃ W, w.alloc (.cells #[.int .i64 o.ent, .int .i64 o.frm, .int .i64 o.til] 80) = W := ⟨_, rfl⟩
  have hb : Below w.heap.size w W := by rw [← hW]; exact (Below.refl _ _).alloc (Nat.le_refl _) _
  have x0 : W.cell? ⟨w.heap.size, 0, none⟩ = some (.int .i64 o.ent) := by rw [← hW]; exact box_cell 0
  have x1 : W.cell? ⟨w.heap.size, 1, none⟩ = some (.int .i64 o.frm) := by rw [← hW]; exact box_cell 1
  have x2 : W.cell? ⟨w.heap.size, 2, none⟩ = some (.int .i64 o.til) := by rw [← hW]; exact box_cell 2
  have hz : W.heap.size = w.heap.size + 1 := by rw [← hW]; simp
  have KM := Lib.hid (mayBe_any' o W)
  have KG : Hid (∀ w1, Below w.heap.size w w1 → Calls Tryz.prog 118 #[.pointer (some ⟨c, 0, none⟩), .func (.func 119) #[o.val] #[]] w1 fun e w' => ∃ A' c', e = .returned (.slice A' (gathL (pkL o) (l.map JR.j)).length c') ∧ w'.ownsRow w1.heap.size 113 3 (.slice A' (gathL (pkL o) (l.map JR.j)).length c') (gathL (pkL o) (l.map JR.j)).length (lins (gathL (pkL o) (l.map JR.j))) ∧ Below w1.heap.size w1 w') := fun w1 h1 =>
    gather_any _ (.inl rfl) o (pkL o) B c v l w1 (h.below h1) (pickL o) fun j hj => pkL_le8 hj
  have hgl : (gathL (pkL o) (l.map JR.j)).length ≤ 800 := by
    have := gathL_len (pk := pkL o) (l := l.map JR.j) fun j hj => by
      obtain ⟨a, ha, rfl⟩ := List.mem_map.1 hj
      exact pkL_le8 (h.ok a ha)
    rw [List.length_map] at this
    omega
  have HW := Lib.hid hW; have HB := Lib.hid hb
  have HM : Hid (∀ e w', ((mayO o = false ∧ e = .returned (.tuple #[.slice none 0 0, .int .i64 1]) ∧ Below w.heap.size w w') ∨ (mayO o = true ∧ PlusEnd w (balsOf (gathL (pkL o) (l.map JR.j))) e w')) → BalEnd w o (l.map JR.j) e w') := fun _ _ h => h
  clear hW hb h
  generalize gathL (pkL o) (l.map JR.j) = G at *
  generalize BalEnd w o (l.map JR.j) = END at *
  generalize mayO o = may at *
  unfold OfT.val at *
  go_enter Tryz.func34, Tryz.ntmps34
  go_wp2_with fail
  rw [HW.out]
  refine KM.out.mono ?_
  rintro e w3 ⟨rfl, hb3⟩
  have HB3 := Lib.hid (HB.out.trans (hb3.mono HB.out.size))
  have y0 := (hb3.cell (p := ⟨w.heap.size, 0, none⟩) (by show w.heap.size < W.heap.size; omega)).trans x0
  have y1 := (hb3.cell (p := ⟨w.heap.size, 1, none⟩) (by show w.heap.size < W.heap.size; omega)).trans x1
  have y2 := (hb3.cell (p := ⟨w.heap.size, 2, none⟩) (by show w.heap.size < W.heap.size; omega)).trans x2
  clear hb3 KM x0 x1 x2
  cases may
  · go_wp2_with fail
    exact HM.out _ _ (.inl ⟨trivial, rfl, HB3.out⟩)
  · go_wp2_with fail
    refine (KG.out w3 HB3.out).mono ?_
    rintro e w4 ⟨A4, c4, rfl, hown, hb4⟩
    have HB4 := Lib.hid (HB3.out.trans (hb4.mono HB3.out.size))
    have HR4 : Hid (Rd w4 w4.heap.size 3 A4 G.length (lins G)) := rd_of_own hown
    obtain ⟨n, hn⟩ : ∃ n, G.length = n := ⟨_, rfl⟩
    rw [hn] at HR4 hgl ⊢
    have HN := Lib.hid hn
    have hmk := make_bals (q := .i64) (n := n) (by omega) w4
    obtain ⟨W5, hW5⟩ : ∃ W5, w4.alloc (.cells (bals (List.replicate n ⟨0, 0⟩)).toArray 161) = W5 := ⟨_, rfl⟩
    have HO5 : Hid (W5.ownsRow w4.heap.size 161 2 (.slice (some ⟨w4.heap.size, 0, none⟩) n n) n (bals (List.replicate n ⟨0, 0⟩))) := by rw [← hW5]; exact own_makeB w4 n (by omega)
    have hb5 : Below w4.heap.size w4 W5 := by rw [← hW5]; exact (Below.refl _ _).alloc (Nat.le_refl _) _
    have HB5 := Lib.hid hb5
    have hz4 := HB4.out.size
    rw [hW5] at hmk
    clear hown hb4 KG hn hW5 hb5 y0 y1 y2
    go_wp2_with fail
    go_loopw [26] (fun iv wr => ∃ k : Nat, k ≤ n ∧ iv = .int .i64 k ∧ wr.ownsRow w4.heap.size 161 2 (.slice (some ⟨w4.heap.size, 0, none⟩) n n) n (bals (balsOf (G.take k) ++ List.replicate (n - k) ⟨0, 0⟩)) ∧ Below w4.heap.size w4 wr) (fun iv _ => n - (intOf iv).toNat)
    case atStart => exact ⟨0, Nat.zero_le _, rfl, HO5.out, HB5.out⟩
    case round =>
      obtain ⟨k, hk, rfl, hown, hbel⟩ := hrel
      have hzr := hbel.size
      by_cases hlt : k < n
      · obtain ⟨ad, x, rfl, hb0, hx, p0, p1, p2⟩ := (HR4.out.below hbel).lin hlt
        have p1' := cell_behind (j := 1) p1 (by omega)
        have p2' := cell_behind (j := 2) p2 (by omega)
        have hkI : (k : Int) < (n : Int) := by omega
        have HO := Lib.hid hown; have HBE := Lib.hid hbel
        have HX := Lib.hid hx
        have hlt0 := own_lt hown w4.heap.size rfl
        obtain ⟨q0, hq0⟩ : ∃ u, wr.cell? ⟨w4.heap.size, k * 2, none⟩ = some u := ⟨_, own_cell hown (List.getElem?_eq_getElem (by rw [bals_len]; simp [balsOf]; have := HN.out; omega))⟩
        obtain ⟨q1, hq1⟩ : ∃ u, wr.cell? ⟨w4.heap.size, k * 2 + 1, none⟩ = some u := ⟨_, own_cell hown (List.getElem?_eq_getElem (by rw [bals_len]; simp [balsOf]; have := HN.out; omega))⟩
        have f0 := own_warm hown (k * 2)
        have f1 := own_warm hown (k * 2 + 1)
        clear hx p1 p2 hb0 hown hbel
        go_wp2_with fail
        have hG : balsOf (G.take (k + 1)) = balsOf (G.take k) ++ [balOf x] := by
          obtain ⟨hk2, rfl⟩ := List.getElem?_eq_some_iff.1 HX.out
          unfold balsOf
          rw [List.take_succ_eq_append_getElem hk2, List.map_append]
          rfl
        have hput := put_bal (balOf x) HO.out (by rw [balsOf_len, List.length_take, HN.out]; omega) hlt
        rw [← hG] at hput
        refine ⟨⟨k + 1, by omega, by go_num, own_kept hput fun q hq _ => Below.heap_alloc _ _ _ hq, ((HBE.out.setCell (Nat.le_refl _) _).setCell (Nat.le_refl _) _).alloc (by simp; omega) _⟩, by simp [intOf]; omega⟩
      · obtain rfl : k = n := by omega
        have e : G.take k = G := List.take_of_length_le (by rw [HN.out]; omega)
        rw [e, Nat.sub_self, List.replicate_zero, List.append_nil] at hown
        have kp := plus_any (balsOf G) [] (some ⟨w4.heap.size, 0, none⟩) none k 0 k 0 wr.heap.size wr (rd_of_own hown) Rd.nil_ (Nat.le_refl _) (by omega)
        rw [List.append_nil] at kp
        have KP := Lib.hid kp
        have HBE := Lib.hid (HB4.out.trans (hbel.mono hz4))
        clear hown hbel e kp
        go_wp2_with fail
        refine KP.out.mono ?_
        rintro e w6 hpe
        have HPE := Lib.hid (PlusEnd.on hpe HBE.out)
        clear hpe KP
        obtain ⟨e1, he1, he2⟩ : ∃ v1 v2, e = .returned (.tuple #[v1, v2]) := by
          obtain ⟨_, ⟨_, h⟩ | ⟨_, A, c, R, _, h, _⟩⟩ := HPE.out
          · exact ⟨_, _, h⟩
          · exact ⟨_, _, h⟩
        subst he2
        go_wp2_with fail
        exact HM.out _ _ (.inr ⟨trivial, HPE.out⟩)
end Go.Proofs.YtjlokkjbdgcooaaGreat

/-
  Lists of pairs, and the statements' helper over them: SamePairs.
-/
namespace Go.Proofs.YtjlokkjbdgcooaaGreat
open Go.RowKit

/-- An element. -/
structure Pair where
  x : Int
  y : Int
deriving DecidableEq
def Pair.cells (a : Pair) : List Value := [.int .i64 a.x, .int .i64 a.y]
def Pair.val (a : Pair) : Value := .agg #[.int .i64 a.x, .int .i64 a.y]
def pairs (l : List Pair) : List Value := l.flatMap Pair.cells
theorem pairs_len : ∀ l : List Pair, (pairs l).length = l.length * 2
  | [] => rfl
  | a :: l => by have := pairs_len l; unfold pairs at this ⊢; simp [Pair.cells, this]; omega
theorem pairs_append (l m : List Pair) : pairs (l ++ m) = pairs l ++ pairs m := by simp [pairs]
theorem pairs_at : ∀ (l : List Pair) (k : Nat) (a : Pair), l[k]? = some a → (pairs l)[k * 2]? = some (.int .i64 a.x) ∧ (pairs l)[k * 2 + 1]? = some (.int .i64 a.y)
  | [], k, a, h => by simp at h
  | b :: l, 0, a, h => by
    simp at h; subst h
    exact ⟨rfl, rfl⟩
  | b :: l, k + 1, a, h => by
    have := pairs_at l k a (by simpa using h)
    unfold pairs at this ⊢
    simp only [List.flatMap_cons, Pair.cells]
    rw [show (k + 1) * 2 = k * 2 + 2 by omega]
    simpa [List.getElem?_append_right] using this
theorem Rd.pairs_len {w : World} {B n : Nat} {A : Option Addr} {l : List Pair} (h : Rd w B 2 A n (pairs l)) : l.length = n := by
  have := h.1; rw [Go.Proofs.YtjlokkjbdgcooaaGreat.pairs_len] at this; omega
theorem Rd.pair {w : World} {B n i : Nat} {A : Option Addr} {l : List Pair} (h : Rd w B 2 A n (pairs l)) (hi : i < n) :
    ∃ ad a, A = some ad ∧ ad.block < B ∧ l[i]? = some a ∧ w.cell? (ad.add (i * 2)) = some (.int .i64 a.x) ∧ w.cell? (ad.add (i * 2 + 1)) = some (.int .i64 a.y) := by
  obtain ⟨ad, e, hb, hc⟩ := h.2 (by omega)
  have hl := h.pairs_len
  have hg : l[i]? = some l[i] := List.getElem?_eq_getElem (by omega)
  obtain ⟨h1, h2⟩ := pairs_at l i _ hg
  exact ⟨ad, _, e, hb, hg, hc _ _ h1, hc _ _ h2⟩

theorem infoPair : (Tryz.prog.info? 177).map (fun i => (i.zero, i.size, i.bytes)) = some (some (.agg #[.int .i64 0, .int .i64 0]), 2, 16) := by kernel_rfl
theorem pair_step {l m : List Pair} {k : Nat} (hk : k < l.length ∧ k < m.length) (h1 : l.take k = m.take k) (h2 : l[k]? = m[k]?) : l.take (k + 1) = m.take (k + 1) := by
  rw [List.take_succ_eq_append_getElem hk.1, List.take_succ_eq_append_getElem hk.2, h1]
  rw [List.getElem?_eq_getElem hk.1, List.getElem?_eq_getElem hk.2] at h2
  injection h2 with h2
  rw [h2]

set_option maxRecDepth 100000 in
set_option maxHeartbeats 400000 in
theorem samePairs_any (l m : List Pair) (A1 A2 : Option Addr) (n1 n2 c1 c2 B1 B2 : Nat) (w : World) (h1 : Rd w B1 2 A1 n1 (pairs l)) (h2 : Rd w B2 2 A2 n2 (pairs m)) (hn1 : n1 ≤ 1000000) (hn2 : n2 ≤ 1000000) :
    Calls Tryz.prog 39 #[.slice A1 n1 c1, .slice A2 n2 c2] w fun e w' => e = .returned (.bool (l == m)) ∧ Drew w w' := by
  have L1 := Lib.hid h1.pairs_len
  have L2 := Lib.hid h2.pairs_len
  by_cases hne : n1 = n2
  · subst hne
    have t1 : ((n1 : Int) != (n1 : Int)) = false := by simp
    go_enter Tryz.func39, Tryz.ntmps39
    go_wp2_with fail
    go_loopw [5] (fun i wr => ∃ k : Nat, k ≤ n1 ∧ i = .int .i64 k ∧ Hid (l.take k = m.take k) ∧ Drew w wr) (fun i _ => n1 - (intOf i).toNat)
    case atStart => exact ⟨0, Nat.zero_le _, rfl, by simp [Hid], Drew.refl _⟩
    case round =>
      obtain ⟨k, hk, rfl, hs, q, rfl⟩ := hrel
      by_cases hlt : k < n1
      · obtain ⟨a1, x, rfl, hb1, hx, p1, p2⟩ := h1.pair hlt
        obtain ⟨a2, y, rfl, hb2, hy, r1, r2⟩ := h2.pair hlt
        have hkn : (k : Int) < (n1 : Int) := by omega
        have p2' := cell_behind p2 (by omega)
        have r2' := cell_behind r2 (by omega)
        have HX : Hid (x = y → l.take (k + 1) = m.take (k + 1)) := fun h => pair_step (by have := L1.out; have := L2.out; omega) hs.out (by rw [hx, hy, h])
        have HY : Hid (x ≠ y → (l == m) = false) := by
          intro h
          rw [beq_eq_false_iff_ne]
          intro e
          rw [e, hy] at hx
          exact h (by injection hx with hx; exact hx.symm)
        clear hx hy p2 r2
        obtain ⟨x1, x2⟩ := x
        obtain ⟨y1, y2⟩ := y
        by_cases e1 : x1 = y1
        · subst e1
          by_cases e2 : x2 = y2
          · subst e2
            have he : ∀ w, (Op.equalIn 10000 177 (.agg #[.int .i64 x1, .int .i64 x2]) (.agg #[.int .i64 x1, .int .i64 x2])).run Tryz.prog w = .ok true w := fun w => by rw [eql_array2 w 9998 177 3 Tryz.underlying177 Tryz.underlying3 (fun w => by kernel_rfl)]; simp
            go_wp2_with fail
            go_big_quiet (fail)
            go_wp2
            exact ⟨⟨k + 1, by omega, by go_num, HX.out (by first | rfl | trivial), Drew.add _ _⟩, by simp [intOf]; omega⟩
          · skip
            have he : ∀ w, (Op.equalIn 10000 177 (.agg #[.int .i64 x1, .int .i64 x2]) (.agg #[.int .i64 x1, .int .i64 y2])).run Tryz.prog w = .ok false w := fun w => by rw [eql_array2 w 9998 177 3 Tryz.underlying177 Tryz.underlying3 (fun w => by kernel_rfl)]; simp [e2]
            go_wp2_with fail
            go_big_quiet (fail)
            go_wp2
            go_ret
            exact ⟨ret_bool (HY.out (by simp [e2])).symm, ⟨_, World.drewN_drewN _ _ _⟩⟩
        · skip
          have he : ∀ w, (Op.equalIn 10000 177 (.agg #[.int .i64 x1, .int .i64 x2]) (.agg #[.int .i64 y1, .int .i64 y2])).run Tryz.prog w = .ok false w := fun w => by rw [eql_array2 w 9998 177 3 Tryz.underlying177 Tryz.underlying3 (fun w => by kernel_rfl)]; simp [e1]
          go_wp2_with fail
          go_big_quiet (fail)
          go_wp2
          go_ret
          exact ⟨ret_bool (HY.out (by simp [e1])).symm, ⟨_, World.drewN_drewN _ _ _⟩⟩
      · go_wp2
        go_ret
        refine ⟨ret_bool ?_, _, rfl⟩
        have := hs.out
        rw [List.take_of_length_le (by have := L1.out; omega), List.take_of_length_le (by have := L2.out; omega)] at this
        rw [this]; simp
  · have t1 : ((n1 : Int) != (n2 : Int)) = true := by rw [bne_iff_ne]; omega
    have HN := Lib.hid hne
    clear hne
    go_enter Tryz.func39, Tryz.ntmps39
    go_wp2
    go_ret
    refine ⟨ret_bool ?_, Drew.refl _⟩
    symm
    rw [beq_eq_false_iff_ne]
    intro e
    have := L1.out; have := L2.out
    rw [e] at *
    have := HN.out; omega
end Go.Proofs.YtjlokkjbdgcooaaGreat
