/-
  Contract of income.Months.
-/
import Derived.Test.YtjlokkjbdgcooaaGreatMany30
namespace Go.Proofs.YtjlokkjbdgcooaaGreat
open Go.RowKit
open Mo

theorem ints_snoc (L : List Int) (x : Int) : ints .i64 (L ++ [x]) = ints .i64 L ++ ints .i64 [x] := by simp [ints]
/-- An int appended to a row of one's own. -/
theorem append_intO {w : World} {base m : Nat} {v : Value} {L : List Int} (x : Int) (h : w.ownsRow base 3 1 v m (ints .i64 L)) (hb : base ≤ w.heap.size) (hm : m ≤ 1000000) :
    ∃ v' w', (∀ ty, (Builtin.append_ #[22, 22] ty #[v, .slice (some ⟨w.heap.size, 0, none⟩) 1 1]).run Tryz.prog (w.alloc (.cells #[.int .i64 x] 3)) = .ok v' w') ∧ w'.ownsRow base 3 1 v' (m + 1) (ints .i64 (L ++ [x])) ∧ But (fun k => v.ownBlock = some k) w w' ∧ Below base w w' := by
  have hR : Rd (w.alloc (.cells #[.int .i64 x] 3)) (w.heap.size + 1) 1 (some ⟨w.heap.size, 0, none⟩) 1 (ints .i64 [x]) := ⟨rfl, fun _ => ⟨_, rfl, by simp, cells_new w (ints .i64 [x]) 3⟩⟩
  have h1 : (w.alloc (.cells #[.int .i64 x] 3)).ownsRow base 3 1 v m (ints .i64 L) := own_kept h fun k hk _ => Below.heap_alloc w _ _ hk
  obtain ⟨v', w', hrun, hown, hg, hp⟩ := append_fresh (P := Tryz.prog) (ty := 0) (c := 1) infoInt Tryz.underlying22 rfl (by omega) base v m (ints .i64 L) h1 hR (ints_one .i64 [x]) (by unfold maxLen; omega) (by omega) (by simp; omega)
  refine ⟨v', w', fun ty => hrun, by rw [ints_snoc]; exact hown, ?_, ?_⟩
  · exact (But.of_below ((Below.refl _ _).alloc (Nat.le_refl _) _)).trans (But.of_grown hg)
  · exact ((Below.refl _ _).alloc hb _).grown hg (by simp; omega) (own_ge h)

theorem incE_may {C : List Acc} {o : OfT} {M : List Jrn} (h : mayO o = true) : incE C o M = 0 ∨ incE C o M = 2 := by
  unfold incE balE
  rw [h]
  simp only [if_true]
  repeat' split
  all_goals first | exact .inl rfl | exact .inr rfl | contradiction
theorem monOk_iff {C : List Acc} {M : List Jrn} {ent p : Int} : monOk C M ent p = true ↔ incE C ⟨ent, p, p⟩ M = 0 := by
  unfold monOk incE
  by_cases h : balE ⟨ent, p, p⟩ M = 0
  · rw [if_pos h, decide_eq_true h, Bool.true_and]
    cases incFits C (balR ⟨ent, p, p⟩ M) <;> simp
  · rw [if_neg h, decide_eq_false h]
    simp [h]
/-- What Make told: its error, and the net. -/
theorem makeEnd_net {w w' : World} {C : List Acc} {o : OfT} {M : List Jrn} {e : Ending} (h : MakeEnd w C o M e w') : ∃ (A1 A2 : Option Addr) (n1 c1 n2 c2 : Nat) (ve vs vn : Int), e = .returned (.tuple #[.agg #[.slice A1 n1 c1, .slice A2 n2 c2, .int .i64 ve, .int .i64 vs, .int .i64 vn], .int .i64 (incE C o M)]) ∧ (incE C o M = 0 → vn = netB C (balR o M)) ∧ Below w.heap.size w w' := by
  obtain ⟨hb, ⟨h0, rfl⟩ | ⟨h0, A1, c1, A2, c2, rfl, _⟩⟩ := h
  · exact ⟨none, none, 0, 0, 0, 0, 0, 0, 0, rfl, fun h => absurd h h0, hb⟩
  · exact ⟨A1, A2, _, c1, _, c2, _, _, _, by rw [h0], fun _ => rfl, hb⟩
/-- What Months tells of periods that may be. -/
def MonthsEnd (w : World) (C : List Acc) (M : List Jrn) (ent frm : Int) (n : Nat) (e : Ending) (w' : World) : Prop :=
  Below w.heap.size w w' ∧ ((∃ i : Nat, i < n + 1 ∧ monOk C M ent (frm + (i : Int)) = false) ∧ e = .returned (.tuple #[.slice none 0 0, .int .i64 2]) ∨
    (∀ i : Nat, i < n + 1 → monOk C M ent (frm + (i : Int)) = true) ∧ ∃ A c, e = .returned (.tuple #[.slice A (n + 1) c, .int .i64 0]) ∧ w'.ownsRow w.heap.size 3 1 (.slice A (n + 1) c) (n + 1) (ints .i64 (mons C M ent frm (n + 1))))
set_option maxRecDepth 100000 in
set_option maxHeartbeats 4000000 in
theorem months_any (Bc cb Bb bb : Nat) (vc vb : Value) (C : List Acc) (lb : List JR) (M : List Jrn) (ent frm : Int) (n : Nat) (w : World) (hC : ChartAt w Bc cb vc C) (hT : TomeAt w Bb bb vb lb) (hlb : lb.length ≤ 100) (hM : lb.map JR.j = M) (hgl : ∀ o, (balsOf (gathL (pkL o) M)).length ≤ 1000) (hg : GoodA C) (hl : C.length ≤ 10000)
    (hfr : 0 ≤ frm) (hto : frm + (n : Int) ≤ 1199) (hmay : mayO ⟨ent, frm, frm + (n : Int)⟩ = true) (hmayp : ∀ p, frm ≤ p → p ≤ frm + (n : Int) → mayO ⟨ent, p, p⟩ = true) :
    Calls Tryz.prog 47 #[.pointer (some ⟨cb, 0, none⟩), .pointer (some ⟨bb, 0, none⟩), .agg #[.int .i64 ent, .int .i64 frm, .int .i64 (frm + (n : Int))]] w (MonthsEnd w C M ent frm n) := by
  obtain ⟨til, htil⟩ : ∃ t, frm + (n : Int) = t := ⟨_, rfl⟩
  obtain ⟨W1, hW1⟩ : ∃ W1, w.alloc (.cells #[.int .i64 ent, .int .i64 frm, .int .i64 til] 80) = W1 := ⟨_, rfl⟩
  have hb1 : Below w.heap.size w W1 := by rw [← hW1]; exact (Below.refl _ _).alloc (Nat.le_refl _) _
  have hh1 : W1.heap[w.heap.size]? = some (.cells #[.int .i64 ent, .int .i64 frm, .int .i64 til] 80 (0, 0)) := by rw [← hW1]; exact heap_new w _
  have HMK : Hid (∀ o w1, Below W1.heap.size W1 w1 → Calls Tryz.prog 43 #[.pointer (some ⟨cb, 0, none⟩), .pointer (some ⟨bb, 0, none⟩), o.val] w1 (MakeEnd w1 C o M)) := fun o w1 hb =>
    make_any Bc cb Bb bb vc vb C lb M o w1 ((hC.below hb1).below hb) ((hT.below hb1).below hb) hlb hM (hgl o) hg hl
  rw [htil] at hmay hmayp hto ⊢
  have HMAY := Lib.hid hmay; have HMAYP := Lib.hid hmayp
  have k1 := HMK.out ⟨ent, frm, til⟩ W1 (Below.refl _ _)
  unfold OfT.val at k1
  dsimp only at k1
  have K1 := Lib.hid k1
  have HH1 := Lib.hid hh1; have HB1 := Lib.hid hb1; have HW1 := Lib.hid hW1
  have HTL := Lib.hid htil
  have x0 := cell_of hh1 0
  have x1 := cell_of hh1 1
  have x2 := cell_of hh1 2
  dsimp at x0 x1 x2
  have HZ1 : Hid (w.heap.size < W1.heap.size) := lt_of_blk hh1
  clear hW1 hb1 hh1 hmay hmayp k1 hC hT hM hgl
  go_enter Tryz.func47, Tryz.ntmps47
  go_wp2_with fail
  rw [HW1.out]
  go_wp2_with fail
  refine K1.out.mono ?_
  rintro e w2 hme
  obtain ⟨A1, A2, n1, c1, n2, c2, ve, vs, vn, rfl, _, hb2⟩ := makeEnd_net hme
  have hE : incE C ⟨ent, frm, til⟩ M ≠ 1 := by rcases incE_may (C := C) (M := M) HMAY.out with h | h <;> rw [h] <;> decide
  obtain ⟨E, hEE⟩ : ∃ E, incE C ⟨ent, frm, til⟩ M = E := ⟨_, rfl⟩
  rw [hEE] at hE ⊢
  have hEb : (E == 1) = false := by simpa using hE
  obtain ⟨W3, hW3⟩ : ∃ W3, w2.alloc (.cells #[.slice A1 n1 c1, .slice A2 n2 c2, .int .i64 ve, .int .i64 vs, .int .i64 vn] 97) = W3 := ⟨_, rfl⟩
  have hb3 : Below w2.heap.size w2 W3 := by rw [← hW3]; exact (Below.refl _ _).alloc (Nat.le_refl _) _
  have HB3 : Hid (Below W1.heap.size W1 W3) := hb2.trans (hb3.mono hb2.size)
  have HW3 := Lib.hid hW3
  clear x0 x1 x2
  have hh3 := (hb2.block _ (lt_of_blk HH1.out)).trans HH1.out
  have x0 := cell_of hh3 0
  have x1 := cell_of hh3 1
  have x2 := cell_of hh3 2
  dsimp at x0 x1 x2
  have hlt2 : w.heap.size < w2.heap.size := lt_of_blk hh3
  clear hb2 hE hb3 hW3 hh3 K1 hme hEE
  have hnt : (n : Int) = til - frm := by have := HTL.out; omega
  go_wp2_with fail
  rw [HW3.out]
  go_loopw [10, 11] (fun nv pv wr => ∃ k : Nat, k ≤ n + 1 ∧ pv = .int .i64 (frm + (k : Int)) ∧ (∃ A' c', nv = .slice A' k c' ∧ wr.ownsRow W1.heap.size 3 1 (.slice A' k c') k (ints .i64 (mons C M ent frm k))) ∧ Hid (∀ i : Nat, i < k → monOk C M ent (frm + (i : Int)) = true) ∧ Below W1.heap.size W1 wr) (fun _ pv _ => (til + 1 - intOf pv).toNat)
  case atStart => exact ⟨0, by omega, by simp, ⟨none, 0, rfl, World.ownsRow_nil _ _ _ _⟩, fun i hi => absurd hi (by omega), HB3.out⟩
  case round =>
    obtain ⟨k, hk, rfl, ⟨A', c', rfl, hown⟩, HOKS, hbel⟩ := hrel
    have hzr := hbel.size
    clear x0 x1 x2
    have hhr := (hbel.block _ (lt_of_blk HH1.out)).trans HH1.out
    have x0 := cell_of hhr 0
    have x1 := cell_of hhr 1
    have x2 := cell_of hhr 2
    dsimp at x0 x1 x2
    have HO := Lib.hid hown; have HBE := Lib.hid hbel
    by_cases hlt : k < n + 1
    · have hle : frm + (k : Int) ≤ til := by omega
      have hmp := HMAYP.out (frm + (k : Int)) (by omega) hle
      have km := HMK.out ⟨ent, frm + (k : Int), frm + (k : Int)⟩ wr hbel
      unfold OfT.val at km
      dsimp only at km
      have KM := Lib.hid km
      have HMP := Lib.hid hmp
      have HIF := Lib.hid (monOk_iff (C := C) (M := M) (ent := ent) (p := frm + (k : Int)))
      have HNT : Hid (∀ vn, vn = netB C (balR ⟨ent, frm + (k : Int), frm + (k : Int)⟩ M) → mons C M ent frm (k + 1) = mons C M ent frm k ++ [vn]) := fun vn h => by rw [mons_succ, h]; rfl
      have hw1 : IntKind.i64.wrap (frm + (k : Int) + 1) = frm + (k : Int) + 1 := by rw [IntKind.wrap_i64]; omega
      have HFE : Hid (∀ e w', MonthsEnd w C M ent frm n e w' → MonthsEnd w C M ent frm n e w') := fun _ _ h => h
      obtain ⟨p, hp⟩ : ∃ p, frm + (k : Int) = p := ⟨_, rfl⟩
      have HP := Lib.hid hp
      rw [hp] at hle KM HMP HIF HNT hw1 ⊢
      clear hp km hown hbel hhr hmp
      go_wp2_with fail
      refine KM.out.mono ?_
      rintro e w4 hme
      obtain ⟨B1, B2, m1, d1, m2, d2, ve, vs, vn, rfl, hvn, hb4⟩ := makeEnd_net hme
      have hmy := incE_may (C := C) (M := M) HMP.out
      obtain ⟨E, hEE⟩ : ∃ E, incE C ⟨ent, p, p⟩ M = E := ⟨_, rfl⟩
      rw [hEE] at hvn hmy HIF ⊢
      have HVN := Lib.hid hvn
      obtain ⟨W5, hW5⟩ : ∃ W5, w4.alloc (.cells #[.slice B1 m1 d1, .slice B2 m2 d2, .int .i64 ve, .int .i64 vs, .int .i64 vn] 97) = W5 := ⟨_, rfl⟩
      have hb5 : Below w4.heap.size w4 W5 := by rw [← hW5]; exact (Below.refl _ _).alloc (Nat.le_refl _) _
      have hh5 : W5.heap[w4.heap.size]? = some (.cells #[.slice B1 m1 d1, .slice B2 m2 d2, .int .i64 ve, .int .i64 vs, .int .i64 vn] 97 (0, 0)) := by rw [← hW5]; exact heap_new w4 _
      have y4 := cell_of hh5 4
      dsimp at y4
      have hb45 : Below wr.heap.size wr W5 := hb4.trans (hb5.mono hb4.size)
      have HB5 := Lib.hid (HBE.out.trans (hb45.mono hzr))
      have hown5 := own_kept HO.out fun q hq _ => hb45.block q hq
      have HW5 := Lib.hid hW5
      have hbs5 := HB5.out.size
      clear hme hb4 hb5 hh5 hb45 hvn hEE KM x0 x1 x2
      rcases hmy with hE0 | hE2
      · have hmo := HIF.out.2 hE0
        have hv := HVN.out hE0
        have HL := Lib.hid (HNT.out vn hv)
        have HMO := Lib.hid hmo
        obtain ⟨v7, w7, hrun, hown7, _, hb7⟩ := append_intO (w := W5) vn hown5 hbs5 (by omega)
        obtain ⟨A7, c7, rfl⟩ := own_form hown7
        have HO7 := Lib.hid hown7
        have HB7 := Lib.hid (HB5.out.trans hb7)
        subst hE0
        have hz5 : W5.heap.size = w4.heap.size + 1 := by rw [← hW5]; simp
        rw [hz5, ← hW5] at hrun
        clear hmo hv hown7 hb7 hown5 hW5 hz5
        go_wp2_with (at_builtin; refine Lib.wpList_append_run _ rfl _ _ _ _ rfl _ _ rfl rfl _ _ (hrun _) ?_)
        refine ⟨⟨k + 1, by omega, by rw [← HP.out]; go_num, ⟨A7, c7, rfl, by rw [HL.out]; exact HO7.out⟩, fun i hi => ?_, HB7.out⟩, by have := HP.out; simp [intOf]; omega⟩
        by_cases e : i = k
        · subst e; rw [HP.out]; exact HMO.out
        · exact HOKS.out i (by omega)
      · have hmo : monOk C M ent p = false := by
          cases h : monOk C M ent p
          · rfl
          · have := HIF.out.1 h; omega
        have HMO := Lib.hid hmo
        subst hE2
        clear hmo hown5 hW5
        go_wp2_with fail
        go_ret2
        rw [HW5.out]
        exact ⟨HB1.out.trans (HB5.out.mono HB1.out.size), .inl ⟨⟨k, hlt, by rw [HP.out]; exact HMO.out⟩, rfl⟩⟩
    · obtain rfl : k = n + 1 := by omega
      have hgt : ¬ frm + ((n + 1 : Nat) : Int) ≤ til := by omega
      clear hown hbel hhr
      go_wp2_with fail
      go_ret2
      exact ⟨HB1.out.trans (HBE.out.mono HB1.out.size), .inr ⟨HOKS.out, A', c', rfl, own_base HO.out HB1.out.size⟩⟩
end Go.Proofs.YtjlokkjbdgcooaaGreat

