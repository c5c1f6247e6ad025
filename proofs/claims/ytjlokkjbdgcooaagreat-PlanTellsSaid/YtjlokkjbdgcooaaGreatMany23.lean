/-
  Several texts, one behind the other: what each holds stands ahead of it.
-/
import Derived.Test.YtjlokkjbdgcooaaGreatMany10
import Derived.Test.YtjlokkjbdgcooaaGreatMany8
import Derived.Lib.SmallJoins
import Derived.Test.YtjlokkjbdgcooaaGreatMany13
import Derived.Test.YtjlokkjbdgcooaaGreatOwn
import Derived.Test.YtjlokkjbdgcooaaGreatRefPlan

/-
  A template that came in.
-/
namespace Go.Proofs.YtjlokkjbdgcooaaGreat
open Mo
open Go.RowKit

theorem agg_of_12 {v : Value} (h : v.cells.toList.length = 12) : ∃ cs, v = .agg cs ∧ v.cells = cs := by
  cases v <;> first | exact ⟨_, rfl, rfl⟩ | (simp [Value.cells] at h)
def Tpl.ok64 (t : Tpl) : Prop := i64ok t.kind ∧ i64ok t.id ∧ i64ok t.ent ∧ i64ok t.frm ∧ i64ok t.til ∧ i64ok t.ev ∧ i64ok t.amt ∧ i64ok t.deb ∧ i64ok t.cre ∧ i64ok t.rk
set_option maxRecDepth 100000 in
set_option maxHeartbeats 2000000 in
theorem argTpl {H : Type} {enc : TypeId × Value → H} {w : World} {base : Nat} {spare : Nat → Bool} {held : Bool} {fuel : Nat} {v : Value} {x : DataW H × List MemPlace}
    (h : DataW.trod enc Tryz.prog w base spare held fuel 24 v.cells.toList = some x) : ∃ t : Tpl, v = .agg t.cells.toArray ∧ TplIn w t ∧ t.ok64 := by
  obtain ⟨xs, q, _, _, hl, hx, hf⟩ := DataW.trod_struct Tryz.underlying24 h
  have hl : v.cells.toList.length = 12 := hl.trans (by kernel_rfl)
  have hx : xs.length = 12 := hx
  obtain ⟨cs, rfl, hcs⟩ := agg_of_12 hl
  rw [hcs] at hl hf
  obtain ⟨l⟩ := cs
  match l, hl with
  | [c0, c1, c2, c3, c4, c5, c6, c7, c8, c9, c10, c11], _ =>
    obtain ⟨y0, h0⟩ := part_at (k := 1) (by kernel_rfl) (hf 0 _ rfl) (by omega)
    obtain ⟨y1, h1⟩ := part_at (k := 1) (by kernel_rfl) (hf 1 _ rfl) (by omega)
    obtain ⟨y2, h2⟩ := part_at (k := 1) (by kernel_rfl) (hf 2 _ rfl) (by omega)
    obtain ⟨y3, h3⟩ := part_at (k := 1) (by kernel_rfl) (hf 3 _ rfl) (by omega)
    obtain ⟨y4, h4⟩ := part_at (k := 1) (by kernel_rfl) (hf 4 _ rfl) (by omega)
    obtain ⟨y5, h5⟩ := part_at (k := 1) (by kernel_rfl) (hf 5 _ rfl) (by omega)
    obtain ⟨y6, h6⟩ := part_at (k := 1) (by kernel_rfl) (hf 6 _ rfl) (by omega)
    obtain ⟨y7, h7⟩ := part_at (k := 1) (by kernel_rfl) (hf 7 _ rfl) (by omega)
    obtain ⟨y8, h8⟩ := part_at (k := 1) (by kernel_rfl) (hf 8 _ rfl) (by omega)
    obtain ⟨y9, h9⟩ := part_at (k := 1) (by kernel_rfl) (hf 9 _ rfl) (by omega)
    obtain ⟨y10, h10⟩ := part_at (k := 1) (by kernel_rfl) (hf 10 _ rfl) (by omega)
    obtain ⟨y11, h11⟩ := part_at (k := 1) (by kernel_rfl) (hf 11 _ rfl) (by omega)
    obtain ⟨n0, e0, _, w0⟩ := DataW.trod_int Tryz.underlying3 h0
    obtain ⟨n1, e1, _, w1⟩ := DataW.trod_int Tryz.underlying3 h1
    obtain ⟨n2, e2, _, w2⟩ := DataW.trod_int Tryz.underlying3 h2
    obtain ⟨n3, e3, _, w3⟩ := DataW.trod_int Tryz.underlying3 h3
    obtain ⟨n4, e4, _, w4⟩ := DataW.trod_int Tryz.underlying3 h4
    obtain ⟨n5, e5, _, w5⟩ := DataW.trod_int Tryz.underlying3 h5
    obtain ⟨n6, e6, _, w6⟩ := DataW.trod_int Tryz.underlying3 h6
    obtain ⟨n7, e7, _, w7⟩ := DataW.trod_int Tryz.underlying3 h7
    obtain ⟨n8, e8, _, w8⟩ := DataW.trod_int Tryz.underlying3 h8
    obtain ⟨n11, e11, _, w11⟩ := DataW.trod_int Tryz.underlying3 h11
    obtain ⟨A9, n9, c9', e9⟩ := Joins.slice_form Tryz.underlying22 h9
    obtain ⟨A10, n10, c10', e10⟩ := Joins.slice_form Tryz.underlying22 h10
    simp at e0 e1 e2 e3 e4 e5 e6 e7 e8 e9 e10 e11
    subst e0 e1 e2 e3 e4 e5 e6 e7 e8 e9 e10 e11
    obtain ⟨L9, hL9⟩ := argInts (A := A9) (n := n9) (c := c9') (fuel := q) (x := y9) h9
    obtain ⟨L10, hL10⟩ := argInts (A := A10) (n := n10) (c := c10') (fuel := q) (x := y10) h10
    have r9 := hL9.ints; have r10 := hL10.ints
    obtain rfl := r9.ints_len
    obtain rfl := r10.ints_len
    exact ⟨⟨n0, n1, n2, n3, n4, n5, n6, n7, n8, L9, L10, A9, c9', A10, c10', n11⟩, rfl, ⟨r9, r10, hL9.len, hL10.len⟩, bounds_i64 w0, bounds_i64 w1, bounds_i64 w2, bounds_i64 w3, bounds_i64 w4, bounds_i64 w5, bounds_i64 w6, bounds_i64 w7, bounds_i64 w8, bounds_i64 w11⟩
end Go.Proofs.YtjlokkjbdgcooaaGreat

/-
  An int appended to a row of one's own.
-/
namespace Go.Proofs.YtjlokkjbdgcooaaGreat
open Go.RowKit

theorem ints_snoc (L : List Int) (x : Int) : ints .i64 (L ++ [x]) = ints .i64 L ++ ints .i64 [x] := by simp [ints]
/-- An int appended to a row of one's own. -/
theorem append_intO {w : World} {base m : Nat} {v : Value} {L : List Int} (x : Int) (h : w.ownsRow base 3 1 v m (ints .i64 L)) (hb : base ≤ w.heap.size) (hm : m ≤ 1000000) :
    ∃ v' w', (∀ ty, (Builtin.append_ #[22, 22] ty #[v, .slice (some ⟨w.heap.size, 0, none⟩) 1 1]).run Tryz.prog (w.alloc (.cells #[.int .i64 x] 3)) = .ok v' w') ∧ w'.ownsRow base 3 1 v' (m + 1) (ints .i64 (L ++ [x])) ∧ But (fun k => v.ownBlock = some k) w w' ∧ Below base w w' := by
  have hR : Rd (w.alloc (.cells #[.int .i64 x] 3)) (w.heap.size + 1) 1 (some ⟨w.heap.size, 0, none⟩) 1 (ints .i64 [x]) := ⟨rfl, fun _ => ⟨_, rfl, by simp, cells_new w (ints .i64 [x]) 3⟩⟩
  have h1 : (w.alloc (.cells #[.int .i64 x] 3)).ownsRow base 3 1 v m (ints .i64 L) := own_kept h fun k hk _ => Below.heap_alloc w _ _ hk
  obtain ⟨v', w', hrun, hown, hg, hp⟩ := append_fresh (P := Tryz.prog) (ty := 0) (c := 1) infoInt Tryz.underlying22 rfl (by omega) base v m (ints .i64 L) h1 hR (ints_one .i64 [x]) (by unfold maxLen; omega) (by omega) (by simp; omega)
  refine ⟨v', w', fun ty => hrun, by rw [ints_snoc]; exact hown, ?_, ?_⟩
  · exact (But.of_below ((Below.refl _ _).alloc (Nat.le_refl _) _)).trans (But.of_grown hg)
  · exact ((Below.refl _ _).alloc hb _).grown hg (by simp; omega) (own_ge h)
end Go.Proofs.YtjlokkjbdgcooaaGreat

/-
  Contract of the reference's Periods.
-/
namespace Go.Proofs.YtjlokkjbdgcooaaGreat
open Go.RowKit

set_option maxRecDepth 100000 in
set_option maxHeartbeats 4000000 in
theorem refPeriods_any (t : Tpl) (w : World) (h : TplIn w t) : Calls Tryz.prog 21 #[.agg t.cells.toArray] w fun e w' => ∃ A c, e = .returned (.slice A (perT t).length c) ∧ w'.ownsRow w.heap.size 3 1 (.slice A (perT t).length c) (perT t).length (ints .i64 (perT t)) ∧ Below w.heap.size w w' := by
  obtain ⟨W, hW⟩ : ∃ W, w.alloc (.cells t.cells.toArray 28) = W := ⟨_, rfl⟩
  have hb : Below w.heap.size w W := by rw [← hW]; exact (Below.refl _ _).alloc (Nat.le_refl _) _
  have hx : RTplAt W w.heap.size t := by rw [← hW]; exact heap_new w _
  have HIN := Lib.hid (h.below hb)
  have HW := Lib.hid hW; have HB := Lib.hid hb
  have HTX : Hid (∀ w1, Below W.heap.size W w1 → RTplAt w1 w.heap.size t) := fun w1 hb1 => hx.below hb1
  have HKC : Hid (∀ w1, Below W.heap.size W w1 → Calls Tryz.prog 12 #[.agg t.cells.toArray] w1 fun e w' => e = .returned (.bool (chkT t)) ∧ Below w1.heap.size w1 w') := fun w1 hb1 => refCheckPlan_any t w1 (HIN.out.below hb1)
  obtain ⟨⟨x0, x1, x2, x3, x4, x5⟩, x6, x7, x8, x9, x10, x11⟩ := rtpl_cells hx
  clear hW hb hx h HIN
  obtain ⟨n, hn, hpt, hno, hyes⟩ : ∃ n : Nat, (perT t).length = n ∧ perT t = perL t.frm t.ev n ∧ (chkT t = false → n = 0) ∧ (chkT t = true → n ≤ 1200 ∧ ((0 ≤ t.frm ∧ t.frm ≤ 1199) ∧ (0 ≤ t.til ∧ t.til ≤ 1199) ∧ (1 ≤ t.ev ∧ t.ev ≤ 60)) ∧ ∀ k : Nat, k < n ↔ t.frm + (k : Int) * t.ev ≤ t.til) := by
    cases hc : chkT t
    · have hp : perT t = [] := by unfold perT; rw [hc]; rfl
      exact ⟨0, by rw [hp]; rfl, hp, fun _ => rfl, fun h => by cases h⟩
    · have hp : perT t = perL t.frm t.ev (perN t.frm t.til t.ev) := by unfold perT; rw [if_pos hc]
      obtain ⟨h1, h2, h3, h4, _⟩ := front_of hc
      exact ⟨perN t.frm t.til t.ev, by rw [hp, perL_len], hp, fun h => (by cases h), fun _ => ⟨perN_le hc, ⟨h1, h2, h4⟩, per_lt h4.1 h3⟩⟩
  rw [hn, hpt]
  have HNO := Lib.hid hno; have HYES := Lib.hid hyes
  clear hn hpt hno hyes
  obtain ⟨z, hz⟩ : ∃ z, chkT t = z := ⟨_, rfl⟩
  rw [hz] at HKC HNO HYES
  clear hz
  unfold Tpl.cells at *
  go_enter Tryz.func21, Tryz.ntmps21
  go_wp2_with fail
  rw [HW.out]
  go_loopw [3, 4] (fun lv pv wr => ∃ (k : Nat) (A : Option Addr) (c : Nat), k ≤ n ∧ pv = .int .i64 (t.frm + (k : Int) * t.ev) ∧ lv = .slice A k c ∧ wr.ownsRow W.heap.size 3 1 (.slice A k c) k (ints .i64 (perL t.frm t.ev k)) ∧ Below W.heap.size W wr) (fun _ pv _ => (t.til + 61 - intOf pv).toNat)
  case atStart => exact ⟨0, none, 0, Nat.zero_le _, by simp, rfl, World.ownsRow_nil _ _ _ _, Below.refl _ _⟩
  case round =>
    obtain ⟨k, A, c, hk, rfl, rfl, hown, hbel⟩ := hrel
    have hsz := hbel.size
    clear x0 x1 x2 x3 x4 x5 x6 x7 x8 x9 x10 x11
    obtain ⟨⟨x0, x1, x2, x3, x4, x5⟩, x6, x7, x8, x9, x10, x11⟩ := rtpl_cells (HTX.out wr hbel)
    have KC := Lib.hid (HKC.out wr hbel)
    have HOw := Lib.hid hown; have HBE := Lib.hid hbel
    clear hown hbel
    obtain ⟨p, hp⟩ : ∃ p, t.frm + (k : Int) * t.ev = p := ⟨_, rfl⟩
    have HP := Lib.hid hp
    rw [hp]
    clear hp
    go_wp2_with fail
    refine KC.out.mono ?_
    rintro e w2 ⟨rfl, hb2⟩
    have HB2 := Lib.hid (HBE.out.trans (hb2.mono hsz))
    have hown2 := own_kept HOw.out fun q hq _ => hb2.block q hq
    have hz2 := HB2.out.size
    clear x0 x1 x2 x3 x4 x5 x6 x7 x8 x9 x10 x11 hb2 KC
    obtain ⟨⟨x0, x1, x2, x3, x4, x5⟩, x6, x7, x8, x9, x10, x11⟩ := rtpl_cells (HTX.out w2 HB2.out)
    cases z
    · have h0 := HNO.out rfl
      obtain rfl : k = n := by omega
      have HO2 := Lib.hid hown2
      clear hown2 h0 x0 x1 x2 x3 x5 x6 x7 x8 x9 x10 x11
      go_wp2_with fail
      go_ret
      exact ⟨A, c, rfl, own_base HO2.out HB.out.size, HB.out.trans (HB2.out.mono HB.out.size)⟩
    · obtain ⟨hn1, ⟨h1, h2, h4⟩, hlt⟩ := HYES.out rfl
      by_cases hle : p ≤ t.til
      · have hkn : k < n := (hlt k).2 (by rw [HP.out]; exact hle)
        have hge : 0 ≤ (k : Int) * t.ev := Int.mul_nonneg (by omega) (by omega)
        have hpp := HP.out
        have HADD : Hid (p + t.ev = t.frm + ((k + 1 : Nat) : Int) * t.ev) := by
          unfold Hid
          rw [show ((k + 1 : Nat) : Int) = (k : Int) + 1 by omega, Int.add_mul, Int.one_mul]
          omega
        have hp0 : 0 ≤ p := by omega
        have hwr : wrap64 (p + t.ev) = p + t.ev := by unfold wrap64; omega
        have hwi : IntKind.i64.wrap (p + t.ev) = p + t.ev := by rw [IntKind.wrap_i64]; omega
        have HPK : Hid (perL t.frm t.ev (k + 1) = perL t.frm t.ev k ++ [p]) := by rw [Hid, perL_succ, HP.out]
        obtain ⟨v7, w7, hrun, hown7, _, hb7⟩ := append_intO (w := w2) p hown2 hz2 (by omega)
        obtain ⟨A7, c7, rfl⟩ := own_form hown7
        have HO7 := Lib.hid hown7
        have HB7 : Hid (Below W.heap.size W w7) := HB2.out.trans hb7
        clear hown2 hown7 hb7 hpp hge hlt
        obtain ⟨⟨g0, g1, g2, g3, g4, g5⟩, g6, g7, g8, g9, g10, g11⟩ := rtpl_cells (HTX.out w7 HB7.out)
        clear x0 x1 x2 x3 x5 x6 x7 x8 x9 x10 x11 g0 g1 g2 g3 g4 g6 g7 g8 g9 g10 g11
        go_wp2_with (at_builtin; refine wpList_append_run rfl _ _ _ rfl _ _ _ _ rfl rfl (hrun _) ?_)
        exact ⟨⟨k + 1, A7, c7, by omega, by rw [HADD.out], rfl, by rw [HPK.out]; exact HO7.out, HB7.out⟩, by simp [intOf]; omega⟩
      · have hkn : k = n := by
          have : ¬ k < n := fun h => hle (by rw [← HP.out]; exact (hlt k).1 h)
          omega
        subst hkn
        have HO2 := Lib.hid hown2
        clear hown2 hlt x0 x1 x2 x3 x5 x6 x7 x8 x9 x10 x11
        go_wp2_with fail
        go_ret
        exact ⟨A, c, rfl, own_base HO2.out HB.out.size, HB.out.trans (HB2.out.mono HB.out.size)⟩
end Go.Proofs.YtjlokkjbdgcooaaGreat
