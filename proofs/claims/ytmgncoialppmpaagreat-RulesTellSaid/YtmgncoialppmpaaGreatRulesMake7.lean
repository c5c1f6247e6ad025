/-
  A world that is made: the whole.
-/
import Derived.Test.YtmgncoialppmpaaGreatMany33
import Derived.Test.YtmgncoialppmpaaGreatRulesRev
namespace Go.Proofs.YtmgncoialppmpaaGreat
open Go.RowKit

/-- What Make answers: the program's chart, gates and book, and the reference's lists of the same. -/
structure Made (l0 : List Acc) (l1 : List Trio) (n2 : Nat) (w : World) (c g b : Nat) (C : List Acc) (G : List Trio) (l r : List JR) (Ac Ag Ab : Option Addr) (w' : World) : Prop where
  parts : PartsAt w' c g b C G l
  same : l.map JR.j = r.map JR.j
  eqC : C = (l0.take 30).foldl addL []
  eqG : G = (l1.take 30).foldl gateStep []
  lenN : r.length ≤ n2
  goodC : GoodA C
  lenC : C.length ≤ 30
  goodG : GoodT G
  goodM : GoodM (r.map JR.j)
  lenM : r.length ≤ 40
  rdC : Rd w' w'.heap.size 3 Ac C.length (accs C)
  rdG : Rd w' w'.heap.size 3 Ag G.length (trios G)
  rdM : JlRd w' w'.heap.size Ab r.length r
  bel : Below w.heap.size w w'
  new : ∃ B v, TomeAt w' B b v l ∧ w.heap.size ≤ B
  newG : ∃ B v, GatesAt w' B g v G ∧ w.heap.size ≤ B
  newC : ∃ B v, ChartAt w' B c v C ∧ w.heap.size ≤ B
def MakeEnd (l0 : List Acc) (l1 : List Trio) (n2 : Nat) (w : World) (e : Ending) (w' : World) : Prop :=
  ∃ c g b C G l r Ac cc Ag cg Ab cb, e = .returned (.tuple #[.agg #[.pointer (some ⟨c, 0, none⟩), .pointer (some ⟨g, 0, none⟩), .pointer (some ⟨b, 0, none⟩)], .agg #[.slice Ac (List.length C) cc, .slice Ag (List.length G) cg, .slice Ab (List.length r) cb], .bool true]) ∧ Made l0 l1 n2 w c g b C G l r Ac Ag Ab w'

/-- Rows whose first cells are numbers stay where blocks without a number are written. -/
theorem rd_but {w w' : World} {S : Nat → Prop} (hb : But S w w') (hS : ∀ k, S k → ∃ (cs : Array Value) (T : TypeId), w.heap[k]? = some (.cells cs T (0, 0)) ∧ ∀ (o : Nat) (x : Int), ¬ cs[o]? = some (Value.int .i64 x)) {B size n : Nat} {A : Option Addr} {xs : List Value} (h : Rd w B size A n xs) (hB : B ≤ w.heap.size) (h0 : 0 < n → ∃ x, xs[0]? = some (.int .i64 x)) : Rd w' B size A n xs := by
  refine ⟨h.1, fun hn => ?_⟩
  obtain ⟨ad, e, hbk, hc⟩ := h.2 hn
  obtain ⟨x, hx⟩ := h0 hn
  have c0 := hc 0 _ hx
  have hne : ¬ S ad.block := by
    intro e2
    obtain ⟨cs, T, h1, h2⟩ := hS _ e2
    have hbl : (ad.add 0).block = ad.block := add_block ad 0
    unfold World.cell? at c0
    rw [hbl, h1] at c0
    dsimp only at c0
    split at c0
    · cases c0
    · exact h2 _ _ c0
  refine ⟨ad, e, hbk, fun j v hv => ?_⟩
  rw [← hc j v hv]
  have hh : w'.heap[(ad.add j).block]? = w.heap[(ad.add j).block]? := by rw [add_block]; exact hb.block _ (by omega) hne
  unfold World.cell?
  rw [hh]
theorem jl_but {w w' : World} {S : Nat → Prop} (hb : But S w w') (hS : ∀ k, S k → ∃ (cs : Array Value) (T : TypeId), w.heap[k]? = some (.cells cs T (0, 0)) ∧ ∀ (o : Nat) (x : Int), ¬ cs[o]? = some (Value.int .i64 x)) {B n : Nat} {A : Option Addr} {r : List JR} (h : JlRd w B A n r) (hB : B ≤ w.heap.size) : JlRd w' B A n r := by
  refine ⟨rd_but hb hS h.rd hB (fun hn => ?_), fun a ha => rd_but hb hS (h.lines a ha) hB (fun hn => ?_), h.nil, h.size⟩
  · have := h.rd.jrs_len
    match r, this with
    | [], h0 => simp at h0; omega
    | b :: r, _ => exact ⟨b.j.id, rfl⟩
  · match hl : a.j.lines with
    | [] => rw [hl] at hn; simp at hn
    | x :: L => exact ⟨x.acct, rfl⟩
theorem six_two {w : World} {q e : Nat} (hne : q ≠ e) {T U : TypeId} {p1 p2 p3 z1 z2 z3 : Value} (hq : w.heap[q]? = some (.cells #[p1, p2, p3] T (0, 0))) (he : w.heap[e]? = some (.cells #[z1, z2, z3] U (0, 0))) (u1 u2 u3 s1 s2 s3 : Value) :
    ((((((w.setCell ⟨q, 0, none⟩ u1).setCell ⟨q, 1, none⟩ u2).setCell ⟨q, 2, none⟩ u3).setCell ⟨e, 0, none⟩ s1).setCell ⟨e, 1, none⟩ s2).setCell ⟨e, 2, none⟩ s3).heap[q]? = some (.cells #[u1, u2, u3] T (0, 0)) ∧
    ((((((w.setCell ⟨q, 0, none⟩ u1).setCell ⟨q, 1, none⟩ u2).setCell ⟨q, 2, none⟩ u3).setCell ⟨e, 0, none⟩ s1).setCell ⟨e, 1, none⟩ s2).setCell ⟨e, 2, none⟩ s3).heap[e]? = some (.cells #[s1, s2, s3] U (0, 0)) ∧
    But (fun k => k = q ∨ k = e) w ((((((w.setCell ⟨q, 0, none⟩ u1).setCell ⟨q, 1, none⟩ u2).setCell ⟨q, 2, none⟩ u3).setCell ⟨e, 0, none⟩ s1).setCell ⟨e, 1, none⟩ s2).setCell ⟨e, 2, none⟩ s3) := by
  have h1 : (((w.setCell ⟨q, 0, none⟩ u1).setCell ⟨q, 1, none⟩ u2).setCell ⟨q, 2, none⟩ u3).heap[q]? = some (.cells #[u1, u2, u3] T (0, 0)) := set_here (set_here (set_here hq))
  have h2 : (((w.setCell ⟨q, 0, none⟩ u1).setCell ⟨q, 1, none⟩ u2).setCell ⟨q, 2, none⟩ u3).heap[e]? = some (.cells #[z1, z2, z3] U (0, 0)) := (Below.heap_setCell _ _ _ _ (fun h => hne h.symm)).trans ((Below.heap_setCell _ _ _ _ (fun h => hne h.symm)).trans ((Below.heap_setCell _ _ _ _ (fun h => hne h.symm)).trans he))
  generalize hw : ((w.setCell ⟨q, 0, none⟩ u1).setCell ⟨q, 1, none⟩ u2).setCell ⟨q, 2, none⟩ u3 = w3 at *
  have hb1 : But (fun k => k = q ∨ k = e) w w3 := by
    rw [← hw]
    exact ⟨rfl, rfl, rfl, by simp, fun k _ hk => (Below.heap_setCell _ _ _ _ (fun h => hk (.inl h))).trans ((Below.heap_setCell _ _ _ _ (fun h => hk (.inl h))).trans (Below.heap_setCell _ _ _ _ (fun h => hk (.inl h))))⟩
  refine ⟨(Below.heap_setCell _ _ _ _ (fun h => hne h)).trans ((Below.heap_setCell _ _ _ _ (fun h => hne h)).trans ((Below.heap_setCell _ _ _ _ (fun h => hne h)).trans h1)), set_here (set_here (set_here h2)), hb1.trans ?_⟩
  exact ⟨rfl, rfl, rfl, by simp, fun k _ hk => (Below.heap_setCell _ _ _ _ (fun h => hk (.inr h))).trans ((Below.heap_setCell _ _ _ _ (fun h => hk (.inr h))).trans (Below.heap_setCell _ _ _ _ (fun h => hk (.inr h))))⟩

set_option maxRecDepth 100000 in
set_option maxHeartbeats 8000000 in
theorem make_any (l0 : List Acc) (l1 : List Trio) (l2 : List JR) (A0 A1 A2 : Option Addr) (n0 n1 n2 c0 c1 c2 : Nat) (w : World) (h0 : Rd w w.heap.size 3 A0 n0 (accs l0)) (h1 : Rd w w.heap.size 3 A1 n1 (trios l1)) (h2 : JlRd w w.heap.size A2 n2 l2) (hn0 : n0 ≤ maxLen) (hn1 : n1 ≤ maxLen) (hn2 : n2 ≤ maxLen) :
    Calls Tryz.prog 11 #[.agg #[.slice A0 n0 c0, .slice A1 n1 c1, .slice A2 n2 c2]] w (MakeEnd l0 l1 n2 w) := by
  obtain ⟨W1, hW1⟩ : ∃ W1, (w.alloc (.cells #[.slice A0 n0 c0, .slice A1 n1 c1, .slice A2 n2 c2] 26)).alloc (.cells #[.pointer none, .pointer none, .pointer none] 35) = W1 := ⟨_, rfl⟩
  obtain ⟨W4, hW4⟩ : ∃ W4, (W1.alloc (.cells #[.slice none 0 0, .slice none 0 0, .slice none 0 0] 38)).alloc (.cells #[.slice none 0 0, .slice none 0 0, .slice none 0 0] 38) = W4 := ⟨_, rfl⟩
  obtain ⟨e1, e2, hb1⟩ := one_of hW1
  obtain ⟨e3, e4, hb4⟩ := one_of hW4
  have hz1 : W1.heap.size = w.heap.size + 1 + 1 := by rw [← hW1]; simp
  have hz4 : W4.heap.size = w.heap.size + 1 + 1 + 1 + 1 := by rw [← hW4]; simp [hz1]
  have hx4 : WorldAt W4 w.heap.size (.slice A0 n0 c0) (.slice A1 n1 c1) (.slice A2 n2 c2) := (hb4.block _ (by omega)).trans e1
  have hq4 : W4.heap[w.heap.size + 1]? = some (.cells #[.pointer none, .pointer none, .pointer none] 35 (0, 0)) := (hb4.block _ (by omega)).trans e2
  rw [hz1] at e3 e4
  have hb : Below w.heap.size w W4 := hb1.trans (hb4.mono hb1.size)
  have H0 := Lib.hid h0; have H1 := Lib.hid h1; have H2 := Lib.hid h2
  have HW1 := Lib.hid hW1; have HW4 := Lib.hid hW4; have HX4 := Lib.hid hx4; have HQ4 := Lib.hid hq4; have HE3 := Lib.hid e3; have HE4 := Lib.hid e4; have HB4 := Lib.hid hb; have HZ4 := Lib.hid hz4
  clear hW1 hW4 e1 e2 e3 e4 hb1 hb4 hz1 hz4 hx4 hq4 hb h0 h1 h2
  go_enter Tryz.func11, Tryz.ntmps11
  go_wp2_with fail
  rw [HW1.out, HW4.out]
  refine mkL1_any _ _ _ _ _ _ _ _ _ _ _ _ _ _ _ _ _ _ _ _ _ _ _ _ _ _ _ _ _ _ _ _ _ _ _ _ _ _ _ _ _ _ _ _ _ _ _ _ _ _ _ _ _ _ _ _ _ _ _ _ _ _ _ _ _ _ _ _ _ _ _ _ _ _ _ _ _ _ _ _ _ _ _ _ _ _ _ _ _ _ _ _ _ _ _ _ _ _ _ _ _ _ _ _ _ _ _ _ _ _ _ _ _ _ _ _ _ _ _ _ _ _ _ _ _ _ _ _ _ l0 A0 n0 c0 w.heap.size (w.heap.size + 1 + 1 + 1) _ _ W4 HX4.out HE4.out w.heap.size (H0.out.below HB4.out) (by omega) hn0 (by omega) ?_
  intro u6 u7 u8 u16 u17 u18 u19 u20 u21 u22 u23 u24 u25 u26 u27 u28 u29 u30 u31 u32 u33 u34 u35 u36 u37 u38 u39 u40 u41 w5 C Ac cc heqC hC
  have HEC := Lib.hid heqC
  clear heqC
  rename_i K hK
  refine hK _ _ ?_
  conv => arg 2; whnf
  conv => arg 4; dsimp only
  have HC := Lib.hid hC
  clear hC hK
  have hz5 := HC.out.but.size
  have hz4 := HZ4.out
  have HB5 : Hid (Below w.heap.size w w5) := HB4.out.trans (HC.out.but.below (fun q _ hq => by omega) (by omega))
  have hx5 : WorldAt w5 w.heap.size (.slice A0 n0 c0) (.slice A1 n1 c1) (.slice A2 n2 c2) := (HC.out.but.block _ (by omega) (by omega)).trans HX4.out
  have hq5 : w5.heap[w.heap.size + 1]? = some (.cells #[.pointer none, .pointer none, .pointer none] 35 (0, 0)) := (HC.out.but.block _ (by omega) (by omega)).trans HQ4.out
  have he5 : w5.heap[w.heap.size + 1 + 1]? = some (.cells #[.slice none 0 0, .slice none 0 0, .slice none 0 0] 38 (0, 0)) := (HC.out.but.block _ (by omega) (by omega)).trans HE3.out
  obtain ⟨W6, hW6⟩ : ∃ W6, w5.alloc (.cells #[.slice none 0 0] 117) = W6 := ⟨_, rfl⟩
  have hg6 : GatesAt W6 w5.heap.size w5.heap.size (.slice none 0 0) [] := by rw [← hW6]; exact gates_made w5
  have hb6 : Below w5.heap.size w5 W6 := by rw [← hW6]; exact (Below.refl _ _).alloc (Nat.le_refl _) _
  have hx6 : WorldAt W6 w.heap.size (.slice A0 n0 c0) (.slice A1 n1 c1) (.slice A2 n2 c2) := (hb6.block _ (by omega)).trans hx5
  have hr6 : RefAt W6 (w.heap.size + 1 + 1 + 1) (.slice Ac C.length cc) (.slice none 0 0) (.slice none 0 0) := (hb6.block _ (by omega)).trans HC.out.at'
  have hq6 : W6.heap[w.heap.size + 1]? = some (.cells #[.pointer none, .pointer none, .pointer none] 35 (0, 0)) := (hb6.block _ (by omega)).trans hq5
  have he6 : W6.heap[w.heap.size + 1 + 1]? = some (.cells #[.slice none 0 0, .slice none 0 0, .slice none 0 0] 38 (0, 0)) := (hb6.block _ (by omega)).trans he5
  have HW6 := Lib.hid hW6; have HG6 := Lib.hid hg6; have HX6 := Lib.hid hx6; have HR6 := Lib.hid hr6; have HQ6 := Lib.hid hq6; have HE6 := Lib.hid he6
  have HOC6 : Hid (W6.ownsRow W4.heap.size 112 3 (.slice Ac C.length cc) C.length (accs C)) := own_kept HC.out.own fun k hk _ => hb6.block k hk
  have HB6 : Hid (Below w.heap.size w W6) := HB5.out.trans (hb6.mono (by omega))
  have hgb : w.heap.size + 1 + 1 + 1 + 1 ≤ w5.heap.size := by omega
  have HGB := Lib.hid hgb
  have HZ5 : Hid (W6.heap.size = w5.heap.size + 1) := by rw [← hW6]; simp [Hid]
  clear hx5 hq5 he5 hW6 hg6 hb6 hx6 hr6 hq6 he6 hgb hz5 hz4
  go_wp2_with fail
  rw [HW6.out]
  refine mkL2_any _ _ _ _ _ _ _ _ _ _ _ _ _ _ _ _ _ _ _ _ _ _ _ _ _ _ _ _ _ _ _ _ _ _ _ _ _ _ _ _ _ _ _ _ _ _ _ _ _ _ _ _ _ _ _ _ _ _ _ _ _ _ _ _ _ _ _ _ _ _ _ _ _ _ _ _ _ _ _ _ _ _ _ _ _ _ _ _ _ _ _ _ _ _ _ _ _ _ _ _ _ _ _ _ _ _ _ _ _ _ _ _ _ _ _ _ _ _ _ _ _ _ _ _ _ _ _ _ l1 A1 n1 c1 w.heap.size (w.heap.size + 1 + 1 + 1) w5.heap.size w.heap.size _ _ _ W6 HX6.out (H1.out.below HB6.out) hn1 (by omega) (by have := HGB.out; omega) (by omega) (by have := HGB.out; omega) (by have := HGB.out; omega) HR6.out HG6.out ?_
  intro u10 u11 u12 u13 u44 u45 u46 u47 u48 u49 u50 u51 u52 u53 u54 u55 u56 u57 u58 u59 u60 u61 u62 u63 u64 u65 u66 u67 u68 u69 u70 u71 u72 u73 u74 u75 u76 u77 u78 u79 u80 u81 u82 u83 u84 u85 u86 u87 u88 u89 u90 u91 u92 u93 u94 u95 u96 u97 u98 u99 u100 u101 u102 u103 u104 u105 u106 u107 u108 u109 w7 G Ag cg heqG hG
  have HEG := Lib.hid heqG
  clear heqG
  rename_i K2 hK2
  refine hK2 _ _ ?_
  conv => arg 2; whnf
  conv => arg 4; dsimp only
  have HG := Lib.hid hG
  have hz7 := hG.but.size
  have hgb := HGB.out
  have hz5 := HZ5.out
  have HB7 : Hid (Below w.heap.size w w7) := HB6.out.trans (hG.but.below (fun q _ hq => by rcases hq with h | h <;> omega) (by have := HB6.out.size; omega))
  have HX7 : Hid (WorldAt w7 w.heap.size (.slice A0 n0 c0) (.slice A1 n1 c1) (.slice A2 n2 c2)) := (hG.but.block _ (by omega) (by rintro (h | h) <;> omega)).trans HX6.out
  have HQ7 : Hid (w7.heap[w.heap.size + 1]? = some (.cells #[.pointer none, .pointer none, .pointer none] 35 (0, 0))) := (hG.but.block _ (by omega) (by rintro (h | h) <;> omega)).trans HQ6.out
  have HE7 : Hid (w7.heap[w.heap.size + 1 + 1]? = some (.cells #[.slice none 0 0, .slice none 0 0, .slice none 0 0] 38 (0, 0))) := (hG.but.block _ (by omega) (by rintro (h | h) <;> omega)).trans HE6.out
  have HOC7 : Hid (w7.ownsRow W4.heap.size 112 3 (.slice Ac C.length cc) C.length (accs C)) := own_kept HOC6.out fun k hk hk2 => hG.but.block k hk (by
    rintro (h | h)
    · rw [h] at hk2
      exact own_ne HOC6.out HR6.out (by decide) hk2
    · rw [h] at hk2
      exact own_ne HOC6.out HG6.out.blk (by decide) hk2)
  have x72 := cell_of HX7.out 2
  simp only [List.getElem?_toArray, List.getElem?_cons_zero, List.getElem?_cons_succ] at x72
  have kf := Lib.hid (fitN_any 40 (by omega) l2 A2 n2 c2 w.heap.size w7 (H2.out.far HB7.out (Nat.le_refl _)) (by have := HB7.out.size; omega) hn2)
  clear hG hK2 hz7 hgb hz5
  go_wp2_with fail
  refine kf.out.mono ?_
  rintro e w8 ⟨Ab, cb, X, rfl, hJ8, hGM, hX40, hXn, hb8⟩
  have HXN := Lib.hid hXn
  clear hXn
  have hr7 := HG.out.at'
  have hr8 : w8.heap[w.heap.size + 1 + 1 + 1]? = some (.cells #[.slice Ac C.length cc, .slice Ag G.length cg, .slice none 0 0] 38 (0, 0)) := (hb8.block _ (lt_of_blk hr7)).trans hr7
  obtain ⟨W9, hW9⟩ : ∃ W9, w8.setCell ⟨w.heap.size + 1 + 1 + 1, 2, none⟩ (.slice Ab X.length cb) = W9 := ⟨_, rfl⟩
  have hr9 : W9.heap[w.heap.size + 1 + 1 + 1]? = some (.cells #[.slice Ac C.length cc, .slice Ag G.length cg, .slice Ab X.length cb] 38 (0, 0)) := by rw [← hW9]; exact set_here hr8
  have hset : But (fun q => q = w.heap.size + 1 + 1 + 1) w8 W9 := by rw [← hW9]; exact ⟨rfl, rfl, rfl, by simp, fun q _ hq => Below.heap_setCell _ _ _ _ (fun e => hq e)⟩
  have hz9 : W9.heap.size = w8.heap.size := by rw [← hW9]; simp
  have hJ9 : JlRd W9 W9.heap.size Ab X.length X := by
    rw [hz9, ← hW9]
    exact jl_off hr8 hJ8 _ _
  have hC9 : W9.ownsRow W4.heap.size 112 3 (.slice Ac C.length cc) C.length (accs C) := own_kept (own_kept HOC7.out fun k hk _ => hb8.block k hk) fun k hk hk2 => hset.block k hk (by
    intro h
    rw [h] at hk2
    exact own_ne (own_kept HOC7.out fun k hk _ => hb8.block k hk) hr8 (by decide) hk2)
  have hG8 : w8.ownsRow W6.heap.size 121 3 (.slice Ag G.length cg) G.length (trios G) := own_kept HG.out.own fun k hk _ => hb8.block k hk
  have hG9 : W9.ownsRow W6.heap.size 121 3 (.slice Ag G.length cg) G.length (trios G) := own_kept hG8 fun k hk hk2 => hset.block k hk (by
    intro h
    rw [h] at hk2
    exact own_ne hG8 hr8 (by decide) hk2)
  obtain ⟨gv, hgv, hgf⟩ := HG.out.gates
  have hgv8 := hgv.below hb8
  have hgne : w5.heap.size ≠ w.heap.size + 1 + 1 + 1 := by have := HGB.out; omega
  have hgv9 : GatesAt W9 w5.heap.size w5.heap.size gv G := hgv8.kept fun k hk hi => hset.block k hk (by
    intro h
    rw [h] at hi
    rcases hi with h2 | h2
    · exact hgne h2.symm
    · have := hgf _ h2; have := HB6.out.size; have := HZ5.out; have := HGB.out; omega)
  have hB9 : Below w.heap.size w W9 := HB7.out.trans ((hb8.mono HB7.out.size).trans (hset.below (fun q _ hq => by omega) (by have := HB7.out.size; have := hb8.size; omega)))
  have hq9 : W9.heap[w.heap.size + 1]? = some (.cells #[.pointer none, .pointer none, .pointer none] 35 (0, 0)) := (hset.block _ (by have := lt_of_blk HQ7.out; have := hb8.size; omega) (by omega)).trans ((hb8.block _ (lt_of_blk HQ7.out)).trans HQ7.out)
  have he9 : W9.heap[w.heap.size + 1 + 1]? = some (.cells #[.slice none 0 0, .slice none 0 0, .slice none 0 0] 38 (0, 0)) := (hset.block _ (by have := lt_of_blk HE7.out; have := hb8.size; omega) (by omega)).trans ((hb8.block _ (lt_of_blk HE7.out)).trans HE7.out)
  have r82 := cell_of hr8 2
  simp only [List.getElem?_toArray, List.getElem?_cons_zero, List.getElem?_cons_succ] at r82
  have f82 := warm_of hr8 2
  have HW9 := Lib.hid hW9; have HJ9 := Lib.hid hJ9; have HC9 := Lib.hid hC9; have HG9 := Lib.hid hG9; have HGV9 := Lib.hid hgv9; have HB9 := Lib.hid hB9; have HQ9 := Lib.hid hq9; have HE9 := Lib.hid he9; have HR9 := Lib.hid hr9
  have HGM := Lib.hid hGM; have HX40 := Lib.hid hX40
  clear hr7 hr8 hW9 hr9 hset hz9 hJ9 hC9 hG8 hG9 hgv hgf hgv8 hgne hgv9 hB9 hq9 he9 hJ8 hGM hX40 hb8 x72 kf
  go_wp2_with fail
  rw [HW9.out]
  have r90 := cell_of HR9.out 0
  have r92 := cell_of HR9.out 2
  simp only [List.getElem?_toArray, List.getElem?_cons_zero, List.getElem?_cons_succ] at r90 r92
  clear r82 f82
  refine mkR20_any _ _ _ _ _ _ _ _ _ _ _ _ _ _ _ _ _ _ _ _ _ _ _ _ _ _ _ _ _ _ _ _ _ _ _ _ _ _ _ _ _ _ _ _ _ _ _ _ _ _ _ _ _ _ _ _ _ _ _ _ _ _ _ _ _ _ _ _ _ _ _ _ _ _ _ _ _ _ _ _ _ _ _ _ _ _ _ _ _ _ _ _ _ _ _ _ _ _ _ _ _ _ _ _ _ _ _ _ _ _ _ _ _ _ _ _ _ _ _ _ _ _ _ _ _ _ _ _ _ _ _ C X Ac Ab C.length X.length cc cb (w.heap.size + 1 + 1 + 1) W9 r90 r92 (rd_of_own HC9.out) HJ9.out HC.out.good HGM.out (by have := HC.out.len; omega) (by have := HX40.out; unfold maxLen; omega) ?_
  intro u114 u115 u116 u117 u118 u119 c9 b9 v1 v2 lb wA hcA hbA hlb hc9 hb9 hBA
  rename_i K3 hK3
  refine hK3 _ _ ?_
  conv => arg 2; whnf
  conv => arg 4; dsimp only
  have hrA : wA.heap[w.heap.size + 1 + 1 + 1]? = some (.cells #[.slice Ac C.length cc, .slice Ag G.length cg, .slice Ab X.length cb] 38 (0, 0)) := (hBA.block _ (lt_of_blk HR9.out)).trans HR9.out
  have hqA : wA.heap[w.heap.size + 1]? = some (.cells #[.pointer none, .pointer none, .pointer none] 35 (0, 0)) := (hBA.block _ (lt_of_blk HQ9.out)).trans HQ9.out
  have heA : wA.heap[w.heap.size + 1 + 1]? = some (.cells #[.slice none 0 0, .slice none 0 0, .slice none 0 0] 38 (0, 0)) := (hBA.block _ (lt_of_blk HE9.out)).trans HE9.out
  have ra0 := cell_of hrA 0
  have ra1 := cell_of hrA 1
  have ra2 := cell_of hrA 2
  have qa0 := cell_of hqA 0
  have qa1 := cell_of hqA 1
  have qa2 := cell_of hqA 2
  have ea0 := cell_of heA 0
  have ea1 := cell_of heA 1
  have ea2 := cell_of heA 2
  simp only [List.getElem?_toArray, List.getElem?_cons_zero, List.getElem?_cons_succ] at ra0 ra1 ra2 qa0 qa1 qa2 ea0 ea1 ea2
  have fq := fun i => warm_of hqA i
  have fe := fun i => warm_of heA i
  have HBA := Lib.hid hBA; have HCA := Lib.hid hcA; have HTA := Lib.hid hbA; have HLB := Lib.hid hlb
  have HQA := Lib.hid hqA; have HEA := Lib.hid heA
  clear hBA hcA hbA hlb hqA heA hrA r90 r92 hK3
  obtain ⟨WB, hWB⟩ : ∃ WB, ((((((wA.setCell ⟨w.heap.size + 1, 0, none⟩ (.pointer (some ⟨c9, 0, none⟩))).setCell ⟨w.heap.size + 1, 1, none⟩ (.pointer (some ⟨w5.heap.size, 0, none⟩))).setCell ⟨w.heap.size + 1, 2, none⟩ (.pointer (some ⟨b9, 0, none⟩))).setCell ⟨w.heap.size + 1 + 1, 0, none⟩ (.slice Ac C.length cc)).setCell ⟨w.heap.size + 1 + 1, 1, none⟩ (.slice Ag G.length cg)).setCell ⟨w.heap.size + 1 + 1, 2, none⟩ (.slice Ab X.length cb)) = WB := ⟨_, rfl⟩
  have hsix := six_two (w := wA) (q := w.heap.size + 1) (e := w.heap.size + 1 + 1) (by omega) HQA.out HEA.out (.pointer (some ⟨c9, 0, none⟩)) (.pointer (some ⟨w5.heap.size, 0, none⟩)) (.pointer (some ⟨b9, 0, none⟩)) (.slice Ac C.length cc) (.slice Ag G.length cg) (.slice Ab X.length cb)
  rw [hWB] at hsix
  have HWB := Lib.hid hWB; have HSIX := Lib.hid hsix
  clear hWB hsix
  go_wp2_with fail
  go_region
  go_wp2_with fail
  rw [HWB.out]
  obtain ⟨hq1, he1, hbB⟩ := HSIX.out
  have y0 := cell_of hq1 0
  have y1 := cell_of hq1 1
  have y2 := cell_of hq1 2
  have t0 := cell_of he1 0
  have t1 := cell_of he1 1
  have t2 := cell_of he1 2
  simp only [List.getElem?_toArray, List.getElem?_cons_zero, List.getElem?_cons_succ] at y0 y1 y2 t0 t1 t2
  have hzA := HBA.out.size
  have hzB := hbB.size
  have h4 := HZ4.out
  have hz5 := HGB.out
  have hz6 := HZ5.out
  have hz9 : w.heap.size + 1 + 1 + 1 + 1 ≤ W9.heap.size := by have := lt_of_blk HGV9.out.blk; omega
  have hS : ∀ k, (k = w.heap.size + 1 ∨ k = w.heap.size + 1 + 1) → ∃ (cs : Array Value) (T : TypeId), wA.heap[k]? = some (.cells cs T (0, 0)) ∧ ∀ (o : Nat) (x : Int), ¬ cs[o]? = some (Value.int .i64 x) := by
    rintro k (rfl | rfl)
    · refine ⟨_, _, HQA.out, fun o x => ?_⟩
      match o with
      | 0 => simp
      | 1 => simp
      | 2 => simp
      | q + 3 => simp
    · refine ⟨_, _, HEA.out, fun o x => ?_⟩
      match o with
      | 0 => simp
      | 1 => simp
      | 2 => simp
      | q + 3 => simp
  have hJB : JlRd WB WB.heap.size Ab X.length X := (jl_but hbB hS (JlRd.wide (HJ9.out.far HBA.out (Nat.le_refl _)) hzA) (Nat.le_refl _)).wide hzB
  have hCB : WB.ownsRow W4.heap.size 112 3 (.slice Ac C.length cc) C.length (accs C) := own_kept (own_kept HC9.out fun k hk _ => HBA.out.block k hk) fun k hk hk2 => hbB.block k hk (by have := own_ge HC9.out k hk2; rintro (h | h) <;> omega)
  have hGB : WB.ownsRow W6.heap.size 121 3 (.slice Ag G.length cg) G.length (trios G) := own_kept (own_kept HG9.out fun k hk _ => HBA.out.block k hk) fun k hk hk2 => hbB.block k hk (by have := own_ge HG9.out k hk2; rintro (h | h) <;> omega)
  have hgvB : GatesAt WB w5.heap.size w5.heap.size gv G := (HGV9.out.below HBA.out).kept fun k hk hi => hbB.block k hk (by
    rcases hi with h2 | h2
    · rintro (h | h) <;> omega
    · have := own_ge HGV9.out.own k h2
      rintro (h | h) <;> omega)
  have hcB : ChartAt WB c9 c9 v1 C := HCA.out.kept fun k hk hi => hbB.block k hk (by
    rcases hi with h2 | h2
    · rintro (h | h) <;> omega
    · have := own_ge HCA.out.own k h2
      rintro (h | h) <;> omega)
  have htB : TomeAt WB b9 b9 v2 lb := HTA.out.but hbB fun k hk => by
    have := HTA.out.ge k hk
    rintro (h | h) <;> omega
  have hfin : Below w.heap.size w WB := HB9.out.trans ((HBA.out.mono (by omega)).trans (hbB.below (fun q _ hq => by rcases hq with h | h <;> omega) (by omega)))
  refine bodyPost_ret (v := .tuple #[.agg #[.pointer (some ⟨c9, 0, none⟩), .pointer (some ⟨w5.heap.size, 0, none⟩), .pointer (some ⟨b9, 0, none⟩)], .agg #[.slice Ac C.length cc, .slice Ag G.length cg, .slice Ab X.length cb], .bool true]) (by simp [results, Tryz.results11, go_sem, y0, y1, y2, t0, t1, t2]) rfl ?_
  have hd : Below WB.heap.size WB WB.drew := (Below.refl _ _).drew
  exact ⟨c9, w5.heap.size, b9, C, G, lb, X, Ac, cc, Ag, cg, Ab, cb, rfl, ⟨⟨_, _, hcB.below hd⟩, ⟨_, _, hgvB.below hd⟩, ⟨_, _, htB.below hd⟩⟩, HLB.out, HEC.out, HEG.out, HXN.out, HC.out.good, HC.out.len, HG.out.good, HGM.out, HX40.out, (rd_of_own hCB).below hd, (rd_of_own hGB).below hd, hJB.far hd (Nat.le_refl _), hfin.trans (hd.mono hfin.size), ⟨_, _, htB.below hd, by omega⟩, ⟨_, _, hgvB.below hd, by omega⟩, ⟨_, _, hcB.below hd, by omega⟩⟩
end Go.Proofs.YtmgncoialppmpaaGreat

