/-
  Several texts, one behind the other: what each holds stands ahead of it.
-/
import Derived.Test.YtpbdmohccebhhaaGreatOwn
import Derived.Test.YtpbdmohccebhhaaGreatMany1
import Derived.ArgAppend

/-
  Lists of lines, and the statements' helper over them: SameLines.
-/
namespace Go.Proofs.YtpbdmohccebhhaaGreat
open Go.RowKit

/-- An element. -/
structure Lin where
  acct : Int
  amt : Int
  part : Int
deriving DecidableEq
def Lin.cells (a : Lin) : List Value := [.int .i64 a.acct, .int .i64 a.amt, .int .i64 a.part]
def Lin.val (a : Lin) : Value := .agg #[.int .i64 a.acct, .int .i64 a.amt, .int .i64 a.part]
def lins (l : List Lin) : List Value := l.flatMap Lin.cells
theorem lins_len : ∀ l : List Lin, (lins l).length = l.length * 3
  | [] => rfl
  | a :: l => by have := lins_len l; unfold lins at this ⊢; simp [Lin.cells, this]; omega
theorem lins_append (l m : List Lin) : lins (l ++ m) = lins l ++ lins m := by simp [lins]
theorem lins_at : ∀ (l : List Lin) (k : Nat) (a : Lin), l[k]? = some a → (lins l)[k * 3]? = some (.int .i64 a.acct) ∧ (lins l)[k * 3 + 1]? = some (.int .i64 a.amt) ∧ (lins l)[k * 3 + 2]? = some (.int .i64 a.part)
  | [], k, a, h => by simp at h
  | b :: l, 0, a, h => by
    simp at h; subst h
    exact ⟨rfl, rfl, rfl⟩
  | b :: l, k + 1, a, h => by
    have := lins_at l k a (by simpa using h)
    unfold lins at this ⊢
    simp only [List.flatMap_cons, Lin.cells]
    rw [show (k + 1) * 3 = k * 3 + 3 by omega]
    simpa [List.getElem?_append_right] using this
theorem Rd.lins_len {w : World} {B n : Nat} {A : Option Addr} {l : List Lin} (h : Rd w B 3 A n (lins l)) : l.length = n := by
  have := h.1; rw [Go.Proofs.YtpbdmohccebhhaaGreat.lins_len] at this; omega
theorem Rd.lin {w : World} {B n i : Nat} {A : Option Addr} {l : List Lin} (h : Rd w B 3 A n (lins l)) (hi : i < n) :
    ∃ ad a, A = some ad ∧ ad.block < B ∧ l[i]? = some a ∧ w.cell? (ad.add (i * 3)) = some (.int .i64 a.acct) ∧ w.cell? (ad.add (i * 3 + 1)) = some (.int .i64 a.amt) ∧ w.cell? (ad.add (i * 3 + 2)) = some (.int .i64 a.part) := by
  obtain ⟨ad, e, hb, hc⟩ := h.2 (by omega)
  have hl := h.lins_len
  have hg : l[i]? = some l[i] := List.getElem?_eq_getElem (by omega)
  obtain ⟨h1, h2, h3⟩ := lins_at l i _ hg
  exact ⟨ad, _, e, hb, hg, hc _ _ h1, hc _ _ h2, hc _ _ h3⟩

theorem infoLin : (Tryz.prog.info? 100).map (fun i => (i.zero, i.size, i.bytes)) = some (some (.agg #[.int .i64 0, .int .i64 0, .int .i64 0]), 3, 24) := by kernel_rfl
theorem lin_step {l m : List Lin} {k : Nat} (hk : k < l.length ∧ k < m.length) (h1 : l.take k = m.take k) (h2 : l[k]? = m[k]?) : l.take (k + 1) = m.take (k + 1) := by
  rw [List.take_succ_eq_append_getElem hk.1, List.take_succ_eq_append_getElem hk.2, h1]
  rw [List.getElem?_eq_getElem hk.1, List.getElem?_eq_getElem hk.2] at h2
  injection h2 with h2
  rw [h2]

set_option maxRecDepth 100000 in
set_option maxHeartbeats 400000 in
theorem sameLines_any (l m : List Lin) (A1 A2 : Option Addr) (n1 n2 c1 c2 B1 B2 : Nat) (w : World) (h1 : Rd w B1 3 A1 n1 (lins l)) (h2 : Rd w B2 3 A2 n2 (lins m)) (hn1 : n1 ≤ 1000000) (hn2 : n2 ≤ 1000000) :
    Calls Tryz.prog 67 #[.slice A1 n1 c1, .slice A2 n2 c2] w fun e w' => e = .returned (.bool (l == m)) ∧ Drew w w' := by
  have L1 := Lib.hid h1.lins_len
  have L2 := Lib.hid h2.lins_len
  by_cases hne : n1 = n2
  · subst hne
    have t1 : ((n1 : Int) != (n1 : Int)) = false := by simp
    go_enter Tryz.func67, Tryz.ntmps67
    go_wp2_with fail
    go_loopw [5] (fun i wr => ∃ k : Nat, k ≤ n1 ∧ i = .int .i64 k ∧ Hid (l.take k = m.take k) ∧ Drew w wr) (fun i _ => n1 - (intOf i).toNat)
    case atStart => exact ⟨0, Nat.zero_le _, rfl, by simp [Hid], Drew.refl _⟩
    case round =>
      obtain ⟨k, hk, rfl, hs, q, rfl⟩ := hrel
      by_cases hlt : k < n1
      · obtain ⟨a1, x, rfl, hb1, hx, p1, p2, p3⟩ := h1.lin hlt
        obtain ⟨a2, y, rfl, hb2, hy, r1, r2, r3⟩ := h2.lin hlt
        have hkn : (k : Int) < (n1 : Int) := by omega
        have p2' := cell_behind p2 (by omega)
        have p3' := cell_behind p3 (by omega)
        have r2' := cell_behind r2 (by omega)
        have r3' := cell_behind r3 (by omega)
        have HX : Hid (x = y → l.take (k + 1) = m.take (k + 1)) := fun h => lin_step (by have := L1.out; have := L2.out; omega) hs.out (by rw [hx, hy, h])
        have HY : Hid (x ≠ y → (l == m) = false) := by
          intro h
          rw [beq_eq_false_iff_ne]
          intro e
          rw [e, hy] at hx
          exact h (by injection hx with hx; exact hx.symm)
        clear hx hy p2 p3 r2 r3
        obtain ⟨x1, x2, x3⟩ := x
        obtain ⟨y1, y2, y3⟩ := y
        by_cases e1 : x1 = y1
        · subst e1
          by_cases e2 : x2 = y2
          · subst e2
            by_cases e3 : x3 = y3
            · subst e3
              go_wp2_with fail
              go_big_quiet (fail)
              go_wp2
              exact ⟨⟨k + 1, by omega, by go_num, HX.out (by first | rfl | trivial), Drew.add _ _⟩, by simp [intOf]; omega⟩
            · skip
              go_wp2_with fail
              go_big_quiet (fail)
              go_wp2
              go_ret
              exact ⟨ret_bool (HY.out (by simp [e3])).symm, ⟨_, World.drewN_drewN _ _ _⟩⟩
          · skip
            go_wp2_with fail
            go_big_quiet (fail)
            go_wp2
            go_ret
            exact ⟨ret_bool (HY.out (by simp [e2])).symm, ⟨_, World.drewN_drewN _ _ _⟩⟩
        · skip
          go_wp2_with fail
          go_big_quiet (fail)
          go_wp2
          go_ret
          exact ⟨ret_bool (HY.out (by simp [e1])).symm, ⟨_, World.drewN_drewN _ _ _⟩⟩
      · go_wp2
        go_ret
        refine ⟨ret_bool ?_, _, rfl⟩
        have := hs.out
        rw [List.take_of_length_le (by have := L1.out; omega), List.take_of_length_le (by have := L2.out; omega)] at this
        rw [this]; simp
  · have t1 : ((n1 : Int) != (n2 : Int)) = true := by rw [bne_iff_ne]; omega
    have HN := Lib.hid hne
    clear hne
    go_enter Tryz.func67, Tryz.ntmps67
    go_wp2
    go_ret
    refine ⟨ret_bool ?_, Drew.refl _⟩
    symm
    rw [beq_eq_false_iff_ne]
    intro e
    have := L1.out; have := L2.out
    rw [e] at *
    have := HN.out; omega
end Go.Proofs.YtpbdmohccebhhaaGreat

/-
  append onto a row of one's own, said so that rows which share its block are known to stay.
-/
namespace Go.Proofs.YtpbdmohccebhhaaGreat
open Go.RowKit

theorem setCells_here {g : Nat} {e : TypeId} : ∀ (vs : List Value) (o : Nat) (w : World) (cur : Array Value), w.heap[g]? = some (.cells cur e (0, 0)) →
    ∃ cur', (w.setCells g o vs).heap[g]? = some (.cells cur' e (0, 0)) ∧ cur'.size = cur.size ∧ ∀ j, j < o → cur'[j]? = cur[j]?
  | [], _, _, cur, h => ⟨cur, h, rfl, fun _ _ => rfl⟩
  | v :: r, o, w, cur, h => by
    obtain ⟨cur', h1, h2, h3⟩ := setCells_here r (o + 1) (w.setCell ⟨g, o, none⟩ v) _ (set_here h)
    refine ⟨cur', h1, by simpa using h2, fun j hj => ?_⟩
    rw [h3 j (by omega), Array.getElem?_setIfInBounds_ne (by omega)]

/-- A row that shares the block of another one, and is no longer than it. -/
def StaysUnder (w w' : World) (e : TypeId) (size : Nat) (v : Value) (n : Nat) : Prop :=
  ∀ (B0 : Nat) (v0 : Value) (n0 : Nat) (xs0 : List Value), w.ownsRow B0 e size v0 n0 xs0 → n0 ≤ n → v0.ownBlock = v.ownBlock → w'.ownsRow B0 e size v0 n0 xs0

theorem append_strong {P : Program} {w : World} {t ty e : TypeId} {z : Value} {size bytes : Nat} (h : (P.info? e).map (fun i => (i.zero, i.size, i.bytes)) = some (some z, size, bytes)) (ht : P.underlying t = some (.slice e)) (hzs : z.cells.size = size) (hsz : 0 < size)
    (base : Nat) (v : Value) (n : Nat) (xs : List Value) (hown : w.ownsRow base e size v n xs)
    {B : Nat} {A : Option Addr} {m c : Nat} {news : List Value} (hr : Rd w B size A m news) (h1 : ∀ u ∈ news, u.oneCell' = true)
    (h63 : n + m ≤ maxLen) (hbytes : (n + m) * bytes ≤ 140737488355328) (hbase : base ≤ w.heap.size) :
    ∃ v' w', (Builtin.append_ #[t, t] ty #[v, .slice A m c]).run P w = .ok v' w' ∧ w'.ownsRow base e size v' (n + m) (xs ++ news) ∧ w.grownBy w' v.ownBlock ∧ (v'.ownBlock = v.ownBlock ∨ v'.ownBlock = some w.heap.size) ∧ StaysUnder w w' e size v n := by
  obtain ⟨v', w', hrun, h2, h3, h4⟩ := append_fresh (ty := ty) (c := c) h ht hzs hsz base v n xs hown hr h1 h63 hbytes hbase
  refine ⟨v', w', hrun, h2, h3, h4, ?_⟩
  intro B0 v0 n0 xs0 h0 hn0 hsame
  rcases h0.2 with ⟨rfl, rfl⟩ | ⟨g, cap0, cur0, rfl, hB0, hh0, hc1, hc2, hc3, hc4⟩
  · exact ⟨h0.1, .inl ⟨rfl, rfl⟩⟩
  rcases hown.2 with ⟨rfl, rfl⟩ | ⟨g', cap, cur, rfl, hB, hh, hd1, hd2, hd3, hd4⟩
  · cases hsame
  have hg : g = g' := by simpa [Value.ownBlock] using hsame
  subst hg
  rw [hh0] at hh
  injection hh with hh
  injection hh with hh
  subst hh
  -- the block behind the call
  have key : ∃ cur', w'.heap[g]? = some (.cells cur' e (0, 0)) ∧ cur'.size = cur0.size ∧ ∀ j, j < n * size → cur'[j]? = cur0[j]? := by
    obtain ⟨i, hi, hz, hi2, hi3⟩ := info_parts h
    rcases A with _ | ad
    · have hm : m = 0 := by
        rcases Nat.eq_zero_or_pos m with h0 | h0
        · exact h0
        · obtain ⟨ad, h, _⟩ := hr.2 h0
          cases h
      subst hm
      have hrun2 : (Builtin.append_ #[t, t] ty #[.slice (some ⟨g, 0, none⟩) n cap, .slice none 0 c]).run P w = .ok (.slice (some ⟨g, 0, none⟩) n cap) w := by
        simp [Builtin.append_, run_underlying ht, sizeOf, typeInfo, hi, Builtin.lenOf, Builtin.firstCells, hd1, storeCells]
      rw [hrun2] at hrun
      injection hrun with _ hw
      subst hw
      exact ⟨cur0, hh0, rfl, fun _ _ => rfl⟩
    · have hcells : ∀ j u, news[j]? = some u → w.cell? (ad.add j) = some u := by
        intro j u hu
        rcases Nat.eq_zero_or_pos m with h0 | h0
        · subst h0
          have hn : news = [] := List.eq_nil_of_length_eq_zero (by simpa using hr.1)
          subst hn
          simp at hu
        · obtain ⟨ad', h, _, hc⟩ := hr.2 h0
          injection h with h
          subst h
          exact hc j u hu
      have hnl : news.length = m * size := hr.1
      by_cases hroom : n + m ≤ cap
      · have hlt : ∀ j, j < news.length → n * size + j < cur0.size := by
          intro j hj
          have : (n + m) * size ≤ cap * size := Nat.mul_le_mul_right _ hroom
          rw [Nat.add_mul] at this
          omega
        have hrun2 := run_append_room_cells (P := P) w t ty e i ht hi g 0 n cap ad m c news (by rw [hi2]; exact hnl) hcells h1 hroom
          (fun j hj => by rw [hi2, Nat.zero_add, cell_of hh0, Array.getElem?_eq_getElem (hlt j hj)]; rfl)
          (fun j hj => warm_of hh0 _)
        rw [hrun2] at hrun
        injection hrun with _ hw
        subst hw
        rw [hi2, Nat.zero_add]
        exact setCells_here news (n * size) w cur0 hh0
      · have holds : ∀ j u, xs[j]? = some u → w.cell? (Addr.add ⟨g, 0, none⟩ j) = some u := hown.cells (g := g) rfl
        obtain ⟨v2, w2, hrun2, _, hg2⟩ := run_append_arg_grows (P := P) w t ty e i z size bytes ht hi hz hi2 hi3 hzs hsz ⟨g, 0, none⟩ n cap xs hown.1 holds ad m c news hnl hcells (by omega) h63 hbytes
        rw [hrun2] at hrun
        injection hrun with _ hw
        subst hw
        exact ⟨cur0, (hg2.block g (lt_of_blk hh0) (by simp)).trans hh0, rfl, fun _ _ => rfl⟩
  obtain ⟨cur', k1, k2, k3⟩ := key
  refine ⟨h0.1, .inr ⟨g, cap0, cur', rfl, hB0, k1, hc1, hc2, by omega, ?_⟩⟩
  rw [← hc4]
  apply List.ext_getElem?
  intro j
  by_cases hj : j < n0 * size
  · have : n0 * size ≤ n * size := Nat.mul_le_mul_right _ hn0
    rw [List.getElem?_take_of_lt hj, List.getElem?_take_of_lt hj, Array.getElem?_toList, Array.getElem?_toList, k3 j (by omega)]
  · rw [List.getElem?_eq_none (by rw [List.length_take]; omega), List.getElem?_eq_none (by rw [List.length_take]; omega)]
end Go.Proofs.YtpbdmohccebhhaaGreat

/-
  The book's own block. No code.
-/
namespace Go.Proofs.YtpbdmohccebhhaaGreat
open Go.RowKit

/-- The book's variable: its twenty lists of lists. -/
def BookAt (w : World) (b : Nat) (F : Nat → Value) : Prop :=
  w.heap[b]? = some (.cells #[F 0, F 1, F 2, F 3, F 4, F 5, F 6, F 7, F 8, F 9, F 10, F 11, F 12, F 13, F 14, F 15, F 16, F 17, F 18, F 19] 40 (0, 0))
theorem BookAt.cell {w : World} {b : Nat} {F : Nat → Value} (h : BookAt w b F) {i : Nat} (hi : i < 20) : w.cell? ⟨b, i, none⟩ = some (F i) := by
  rw [cell_of h]
  rcases (show i = 0 ∨ i = 1 ∨ i = 2 ∨ i = 3 ∨ i = 4 ∨ i = 5 ∨ i = 6 ∨ i = 7 ∨ i = 8 ∨ i = 9 ∨ i = 10 ∨ i = 11 ∨ i = 12 ∨ i = 13 ∨ i = 14 ∨ i = 15 ∨ i = 16 ∨ i = 17 ∨ i = 18 ∨ i = 19 by omega) with rfl | rfl | rfl | rfl | rfl | rfl | rfl | rfl | rfl | rfl | rfl | rfl | rfl | rfl | rfl | rfl | rfl | rfl | rfl | rfl <;> rfl
theorem BookAt.warm {w : World} {b : Nat} {F : Nat → Value} (h : BookAt w b F) (i : Nat) : w.frozen? ⟨b, i, none⟩ = false := warm_of h i
theorem BookAt.lt {w : World} {b : Nat} {F : Nat → Value} (h : BookAt w b F) : b < w.heap.size := lt_of_blk h
theorem BookAt.set {w : World} {b : Nat} {F : Nat → Value} (h : BookAt w b F) {i : Nat} (hi : i < 20) (v : Value) : BookAt (w.setCell ⟨b, i, none⟩ v) b (upd F i v) := by
  unfold BookAt
  rw [set_here h]
  rcases (show i = 0 ∨ i = 1 ∨ i = 2 ∨ i = 3 ∨ i = 4 ∨ i = 5 ∨ i = 6 ∨ i = 7 ∨ i = 8 ∨ i = 9 ∨ i = 10 ∨ i = 11 ∨ i = 12 ∨ i = 13 ∨ i = 14 ∨ i = 15 ∨ i = 16 ∨ i = 17 ∨ i = 18 ∨ i = 19 by omega) with rfl | rfl | rfl | rfl | rfl | rfl | rfl | rfl | rfl | rfl | rfl | rfl | rfl | rfl | rfl | rfl | rfl | rfl | rfl | rfl <;> rfl
theorem BookAt.kept {w w' : World} {b : Nat} {F : Nat → Value} (h : BookAt w b F) (hk : w'.heap[b]? = w.heap[b]?) : BookAt w' b F := hk.trans h

theorem Only.book {S : List TypeId} {w w' : World} {b : Nat} {F : Nat → Value} (h : Only S w w') (hb : BookAt w b F) (he : ¬ 40 ∈ S) : BookAt w' b F := hb.kept (h b _ _ hb he)
end Go.Proofs.YtpbdmohccebhhaaGreat
