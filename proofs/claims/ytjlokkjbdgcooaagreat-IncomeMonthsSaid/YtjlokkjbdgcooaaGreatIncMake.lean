/-
  Contracts of income.Of and income.Make.
-/
import Derived.Test.YtjlokkjbdgcooaaGreatIncSide
import Derived.Test.YtjlokkjbdgcooaaGreatMany11
namespace Go.Proofs.YtjlokkjbdgcooaaGreat
open Go.RowKit
open Mo

section
variable {C : List Acc} {R : List Bal}
theorem fits_in (hf : fitsAll (amts R) = true) : fitsAll (amts (inL C R)) = true := by
  unfold inL
  rw [fitsAll_negB]
  exact pickB_fits hf
theorem sum_in : (amts (inL C R)).sum = earnB C R := by
  unfold inL earnB incA
  exact amts_negB _
theorem addE_in (hf : fitsAll (amts R) = true) : Mo.addE (amts (inL C R)) = if fits1 (earnB C R) = true then 0 else 2 := by
  unfold Mo.addE
  rw [fits_in hf, sum_in, Bool.true_and]
theorem addV_in (hf : fitsAll (amts R) = true) (h : fits1 (earnB C R) = true) : Mo.addV (amts (inL C R)) = earnB C R := by
  unfold Mo.addV
  rw [fits_in hf, sum_in, h]
  rfl
theorem addE_out (hf : fitsAll (amts R) = true) : Mo.addE (amts (outL C R)) = if fits1 (spentB C R) = true then 0 else 2 := by
  unfold Mo.addE outL
  rw [pickB_fits hf, Bool.true_and]
  rfl
theorem addV_out (hf : fitsAll (amts R) = true) (h : fits1 (spentB C R) = true) : Mo.addV (amts (outL C R)) = spentB C R := by
  unfold Mo.addV outL
  rw [pickB_fits hf, Bool.true_and]
  exact if_pos h
theorem net_fits (h1 : fits1 (earnB C R) = true) (h2 : fits1 (spentB C R) = true) : fitsAll [earnB C R, -(spentB C R)] = true := by
  rw [fitsAll_iff]
  intro x hx
  rcases List.mem_cons.1 hx with rfl | hx
  · exact h1
  · rw [List.mem_singleton] at hx
    subst hx
    rw [fits1_minus]
    exact h2
theorem net_sum : [earnB C R, -(spentB C R)].sum = netB C R := by
  unfold netB
  simp only [List.sum_cons, List.sum_nil]
  omega
theorem addE_net (h1 : fits1 (earnB C R) = true) (h2 : fits1 (spentB C R) = true) : Mo.addE [earnB C R, -(spentB C R)] = if fits1 (netB C R) = true then 0 else 2 := by
  unfold Mo.addE
  rw [net_fits h1 h2, net_sum, Bool.true_and]
theorem addV_net (h1 : fits1 (earnB C R) = true) (h2 : fits1 (spentB C R) = true) (h3 : fits1 (netB C R) = true) : Mo.addV [earnB C R, -(spentB C R)] = netB C R := by
  unfold Mo.addV
  rw [net_fits h1 h2, net_sum, h3]
  rfl
end

/-- A statement as it is told. -/
def StmOk (w : World) (C : List Acc) (R : List Bal) (e : Ending) (w' : World) : Prop :=
  ∃ A1 c1 A2 c2, e = .returned (.tuple #[.agg #[.slice A1 (inL C R).length c1, .slice A2 (outL C R).length c2, .int .i64 (earnB C R), .int .i64 (spentB C R), .int .i64 (netB C R)], .int .i64 0]) ∧
    w'.ownsRow w.heap.size 161 2 (.slice A1 (inL C R).length c1) (inL C R).length (bals (inL C R)) ∧
    w'.ownsRow w.heap.size 161 2 (.slice A2 (outL C R).length c2) (outL C R).length (bals (outL C R)) ∧
    Hid (∀ q, (Value.slice A1 (inL C R).length c1).ownBlock = some q → (Value.slice A2 (outL C R).length c2).ownBlock ≠ some q)
def zeroS (x : Int) : Ending := .returned (.tuple #[.agg #[.slice none 0 0, .slice none 0 0, .int .i64 0, .int .i64 0, .int .i64 0], .int .i64 x])
def OfEndS (w : World) (C : List Acc) (R : List Bal) (e : Ending) (w' : World) : Prop :=
  Below w.heap.size w w' ∧ ((incFits C R = false ∧ e = zeroS 2) ∨ (incFits C R = true ∧ StmOk w C R e w'))
theorem below_five {w w' : World} {B b : Nat} (h : Below B w w') (hb : B ≤ b) (v0 v1 v2 v3 v4 : Value) : Below B w (((((w'.setCell ⟨b, 0, none⟩ v0).setCell ⟨b, 1, none⟩ v1).setCell ⟨b, 2, none⟩ v2).setCell ⟨b, 3, none⟩ v3).setCell ⟨b, 4, none⟩ v4) :=
  ((((h.setCell hb _).setCell hb _).setCell hb _).setCell hb _).setCell hb _
theorem own_five {w : World} {B n c b : Nat} {A : Option Addr} {xs : List Value} {T : TypeId} {size : Nat} (h : w.ownsRow B T size (.slice A n c) n xs) (hb : b < B) (v0 v1 v2 v3 v4 : Value) : (((((w.setCell ⟨b, 0, none⟩ v0).setCell ⟨b, 1, none⟩ v1).setCell ⟨b, 2, none⟩ v2).setCell ⟨b, 3, none⟩ v3).setCell ⟨b, 4, none⟩ v4).ownsRow B T size (.slice A n c) n xs :=
  own_kept h fun k _ hk => by
    have hkb : k ≠ b := by have := own_ge h k hk; omega
    rw [Below.heap_setCell _ _ _ _ hkb, Below.heap_setCell _ _ _ _ hkb, Below.heap_setCell _ _ _ _ hkb, Below.heap_setCell _ _ _ _ hkb, Below.heap_setCell _ _ _ _ hkb]

set_option maxRecDepth 100000 in
set_option maxHeartbeats 4000000 in
theorem ofS_any (Bc cb : Nat) (vc : Value) (C : List Acc) (R : List Bal) (A : Option Addr) (n c B : Nat) (w : World) (hC : ChartAt w Bc cb vc C) (h : Rd w B 2 A n (bals R)) (hB : B ≤ w.heap.size) (hn : n ≤ 1000) (hg : GoodA C) (hl : C.length ≤ 10000) (hf : fitsAll (amts R) = true) :
    Calls Tryz.prog 46 #[.pointer (some ⟨cb, 0, none⟩), .slice A n c] w (OfEndS w C R) := by
  obtain ⟨W1, hW1⟩ : ∃ W1, w.alloc (.cells #[.slice none 0 0, .slice none 0 0, .int .i64 0, .int .i64 0, .int .i64 0] 97) = W1 := ⟨_, rfl⟩
  have hb1 : Below w.heap.size w W1 := by rw [← hW1]; exact (Below.refl _ _).alloc (Nat.le_refl _) _
  have hz1 : W1.heap.size = w.heap.size + 1 := by rw [← hW1]; simp
  have hh1 : W1.heap[w.heap.size]? = some (.cells #[.slice none 0 0, .slice none 0 0, .int .i64 0, .int .i64 0, .int .i64 0] 97 (0, 0)) := by rw [← hW1]; exact heap_new w _
  obtain ⟨W2, hW2⟩ : ∃ W2, W1.alloc (.cells #[.pointer (some ⟨cb, 0, none⟩), .slice A n c] 183) = W2 := ⟨_, rfl⟩
  have hb2 : Below W1.heap.size W1 W2 := by rw [← hW2]; exact (Below.refl _ _).alloc (Nat.le_refl _) _
  have hz2 : W2.heap.size = w.heap.size + 2 := by rw [← hW2]; simp [hz1]
  have hh2 : W2.heap[w.heap.size + 1]? = some (.cells #[.pointer (some ⟨cb, 0, none⟩), .slice A n c] 183 (0, 0)) := by
    have := heap_new W1 (.cells #[.pointer (some ⟨cb, 0, none⟩), .slice A n c] 183)
    rw [hW2, hz1] at this
    exact this
  have hb12 : Below w.heap.size w W2 := hb1.trans (hb2.mono hb1.size)
  have hh12 : W2.heap[w.heap.size]? = some (.cells #[.slice none 0 0, .slice none 0 0, .int .i64 0, .int .i64 0, .int .i64 0] 97 (0, 0)) := (hb2.block _ (by omega)).trans hh1
  have hr2 := h.far hb12 hB
  have k1 := totalIn_any Bc cb vc C R A n c B W2 (hC.below hb12) hr2 (Nat.le_trans hB hb12.size) hn hg hl hf
  unfold SideEnd at k1
  rw [addE_in hf] at k1
  have K1 := Lib.hid k1
  have HC2 := Lib.hid (hC.below hb12)
  have HR2 := Lib.hid hr2
  have HB2 := Lib.hid hb12
  have HH1 := Lib.hid hh12; have HH2 := Lib.hid hh2
  have HZ2 : Hid (W2.heap.size = w.heap.size + 2) := hz2
  have x0 := cell_of hh2 0
  have x1 := cell_of hh2 1
  dsimp at x0 x1
  have HV1 := Lib.hid (fun h => addV_in (C := C) hf h)
  have HW : Hid ((w.alloc (.cells #[.slice none 0 0, .slice none 0 0, .int .i64 0, .int .i64 0, .int .i64 0] 97)).alloc (.cells #[.pointer (some ⟨cb, 0, none⟩), .slice A n c] 183) = W2) := by unfold Hid; rw [hW1, hW2]
  clear hW1 hW2 hb1 hb2 hz1 hz2 hh1 hh2 hb12 hh12 hr2 k1 hC h
  obtain ⟨L1, hL1⟩ : ∃ L, inL C R = L := ⟨_, rfl⟩
  have HL1 := Lib.hid hL1
  rw [hL1] at K1 HV1
  clear hL1
  go_enter Tryz.func46, Tryz.ntmps46
  go_wp2_with fail
  rw [HW.out]
  refine K1.out.mono ?_
  rintro e w3 ⟨A1, c1, rfl, hown1, hb3⟩
  have hz3 := hb3.size
  have hh3 : w3.heap[w.heap.size]? = some (.cells #[.slice none 0 0, .slice none 0 0, .int .i64 0, .int .i64 0, .int .i64 0] 97 (0, 0)) := (hb3.block _ (by have := HZ2.out; omega)).trans HH1.out
  have hh3' : w3.heap[w.heap.size + 1]? = some (.cells #[.pointer (some ⟨cb, 0, none⟩), .slice A n c] 183 (0, 0)) := (hb3.block _ (by have := HZ2.out; omega)).trans HH2.out
  have k2 := totalOut_any Bc cb vc C R A n c B w3 (HC2.out.below hb3) (HR2.out.far hb3 (by have := HZ2.out; omega)) (by have := HZ2.out; omega) hn hg hl
  unfold SideEnd at k2
  rw [addE_out hf] at k2
  have K2 := Lib.hid k2
  have HO1 := Lib.hid hown1
  have HB3 := Lib.hid (HB2.out.trans (hb3.mono HB2.out.size))
  have HH3 := Lib.hid hh3
  have y0 := cell_of hh3 0
  have y1 := cell_of hh3 1
  have y2 := cell_of hh3 2
  have y3 := cell_of hh3 3
  have y4 := cell_of hh3 4
  have yf := fun o => warm_of hh3 o
  have x0 := cell_of hh3' 0
  have x1 := cell_of hh3' 1
  dsimp at y0 y1 y2 y3 y4 x0 x1
  have HV2 := Lib.hid (fun h => addV_out (C := C) hf h)
  have HZ3 : Hid (w.heap.size + 2 ≤ w3.heap.size) := by have := HZ2.out; unfold Hid; omega
  have HO1b : Hid (w3.ownsRow (w.heap.size + 2) 161 2 (.slice A1 L1.length c1) L1.length (bals L1)) := own_base HO1.out (by rw [HZ2.out]; exact Nat.le_refl _)
  obtain ⟨L2, hL2⟩ : ∃ L, outL C R = L := ⟨_, rfl⟩
  have HL2 := Lib.hid hL2
  rw [hL2] at K2 HV2
  clear hh3 hh3' hown1 hb3 k2 hL2 HO1 hz3 K1 HZ2
  by_cases f1 : fits1 (earnB C R) = true
  · rw [if_pos f1, HV1.out f1]
    go_wp2_with fail
    refine K2.out.mono ?_
    rintro e w4 ⟨A2, c2, rfl, hown2, hb4⟩
    have hz4 := hb4.size
    have hh4 : w4.heap[w.heap.size]? = some (.cells #[.slice none 0 0, .slice none 0 0, .int .i64 0, .int .i64 0, .int .i64 0] 97 (0, 0)) := (hb4.block _ (by have := HZ3.out; omega)).trans HH3.out
    have HB4 := Lib.hid (HB3.out.trans (hb4.mono HB3.out.size))
    have HH4 := Lib.hid hh4
    have HO14 := Lib.hid (own_kept HO1b.out fun q hq _ => hb4.block q hq)
    have HO2 := Lib.hid hown2
    have HD : Hid (∀ q, (Value.slice A1 L1.length c1).ownBlock = some q → (Value.slice A2 L2.length c2).ownBlock ≠ some q) := fun q h1 h2 => by
      have := own_lt HO1b.out q h1
      have := own_ge HO2.out q h2
      omega
    have HZ4 : Hid (w.heap.size + 2 ≤ w4.heap.size) := Nat.le_trans HZ3.out hz4
    clear y0 y1 y2 y3 y4 yf x0 x1
    have y0 := cell_of hh4 0
    have y1 := cell_of hh4 1
    have y2 := cell_of hh4 2
    have y3 := cell_of hh4 3
    have y4 := cell_of hh4 4
    have yf := fun o => warm_of hh4 o
    dsimp at y0 y1 y2 y3 y4
    clear hh4 hown2 hb4 K2 HH3
    by_cases f2 : fits1 (spentB C R) = true
    · rw [if_pos f2, HV2.out f2]
      have f2' := fits1_iff.1 f2
      have hw : IntKind.i64.wrap (-(spentB C R)) = -(spentB C R) := by rw [IntKind.wrap_i64]; omega
      obtain ⟨W5, hW5⟩ : ∃ W5, w4.alloc (.cells #[.int .i64 (earnB C R), .int .i64 (-(spentB C R))] 3) = W5 := ⟨_, rfl⟩
      have hb5 : Below w4.heap.size w4 W5 := by rw [← hW5]; exact (Below.refl _ _).alloc (Nat.le_refl _) _
      have hr5 : Rd W5 W5.heap.size 1 (some ⟨w4.heap.size, 0, none⟩) 2 (ints .i64 [earnB C R, -(spentB C R)]) := by
        rw [← hW5]
        exact Rd.wide (B := w4.heap.size + 1) ⟨rfl, fun _ => ⟨_, rfl, by simp, cells_new w4 (ints .i64 [earnB C R, -(spentB C R)]) 3⟩⟩ (by simp)
      have ka := Mo.add_any [earnB C R, -(spentB C R)] (some ⟨w4.heap.size, 0, none⟩) 2 2 _ W5 hr5 (by omega)
      rw [addE_net f1 f2] at ka
      have KA := Lib.hid ka; have HW5 := Lib.hid hW5; have HB5 := Lib.hid hb5
      have HVN := Lib.hid (fun h => addV_net f1 f2 h)
      have HF : Hid (incFits C R = fits1 (netB C R)) := by unfold Hid incFits; rw [f1, f2]; rfl
      clear hb5 hW5 hr5 ka f2' f1 f2
      obtain ⟨ve, hve⟩ : ∃ x, earnB C R = x := ⟨_, rfl⟩
      obtain ⟨vs, hvs⟩ : ∃ x, spentB C R = x := ⟨_, rfl⟩
      have HVE := Lib.hid hve; have HVS := Lib.hid hvs
      rw [hve, hvs] at KA HW5 HVN ⊢
      rw [hvs] at hw
      rw [hve] at HV1
      rw [hvs] at HV2
      clear hve hvs
      go_wp2_with fail
      rw [HW5.out]
      refine KA.out.mono ?_
      rintro e w6 ⟨rfl, hb6⟩
      have hb46 := HB5.out.trans (hb6.mono HB5.out.size)
      have hh6 := (hb46.block _ (lt_of_blk HH4.out)).trans HH4.out
      have HB6 := Lib.hid (HB4.out.trans (hb46.mono HB4.out.size))
      have HO16 := Lib.hid (own_kept HO14.out fun q hq _ => hb46.block q hq)
      have HO26 := Lib.hid (own_base (own_kept HO2.out fun q hq _ => hb46.block q hq) HZ3.out)
      clear y0 y1 y2 y3 y4 yf
      have y0 := cell_of hh6 0
      have y1 := cell_of hh6 1
      have y2 := cell_of hh6 2
      have y3 := cell_of hh6 3
      have y4 := cell_of hh6 4
      have yf := fun o => warm_of hh6 o
      dsimp at y0 y1 y2 y3 y4
      clear hb6 hb46 hh6 KA hw
      by_cases f3 : fits1 (netB C R) = true
      · rw [if_pos f3, HVN.out f3]
        have HF3 := Lib.hid f3
        obtain ⟨vn, hvn⟩ : ∃ x, netB C R = x := ⟨_, rfl⟩
        have HVN2 := Lib.hid hvn
        rw [hvn]
        clear f3 hvn
        go_wp2_with fail
        refine bodyPost_ret (v := .tuple #[.agg #[.slice A1 L1.length c1, .slice A2 L2.length c2, .int .i64 ve, .int .i64 vs, .int .i64 vn], .int .i64 0]) (by simp [results, Tryz.results46, go_sem, y0, y1, y2, y3, y4, yf]) rfl ?_
        refine ⟨below_five HB6.out (Nat.le_refl _) _ _ _ _ _, .inr ⟨HF.out.trans HF3.out, A1, c1, A2, c2, ?_, ?_, ?_, ?_⟩⟩
        · rw [HL1.out, HL2.out, HVE.out, HVS.out, HVN2.out]
        · rw [HL1.out]; exact own_base (own_five HO16.out (by omega) _ _ _ _ _) (by omega)
        · rw [HL2.out]; exact own_base (own_five HO26.out (by omega) _ _ _ _ _) (by omega)
        · rw [HL1.out, HL2.out]; exact HD
      · rw [if_neg f3]
        have HF3 := Lib.hid f3
        generalize Mo.addV [ve, -vs] = q1
        clear f3
        go_wp2_with fail
        refine bodyPost_ret (v := .tuple #[.agg #[.slice none 0 0, .slice none 0 0, .int .i64 0, .int .i64 0, .int .i64 0], .int .i64 2]) (by simp [results, Tryz.results46, go_sem, y0, y1, y2, y3, y4, yf]) rfl ?_
        exact ⟨below_five HB6.out (Nat.le_refl _) _ _ _ _ _, .inl ⟨HF.out.trans (Bool.not_eq_true _ ▸ HF3.out), rfl⟩⟩
    · rw [if_neg f2]
      have HF2 := Lib.hid f2
      generalize Mo.addV (amts L2) = q1
      clear f2
      go_wp2_with fail
      refine bodyPost_ret (v := .tuple #[.agg #[.slice none 0 0, .slice none 0 0, .int .i64 0, .int .i64 0, .int .i64 0], .int .i64 2]) (by simp [results, Tryz.results46, go_sem, y0, y1, y2, y3, y4, yf]) rfl ?_
      exact ⟨below_five HB4.out (Nat.le_refl _) _ _ _ _ _, .inl ⟨by unfold incFits; rw [Bool.eq_false_iff.2 HF2.out]; simp, rfl⟩⟩
  · rw [if_neg f1]
    have HF1 := Lib.hid f1
    generalize Mo.addV (amts L1) = q1
    clear f1
    go_wp2_with fail
    refine bodyPost_ret (v := .tuple #[.agg #[.slice none 0 0, .slice none 0 0, .int .i64 0, .int .i64 0, .int .i64 0], .int .i64 2]) (by simp [results, Tryz.results46, go_sem, y0, y1, y2, y3, y4, yf]) rfl ?_
    exact ⟨below_five HB3.out (Nat.le_refl _) _ _ _ _ _, .inl ⟨by unfold incFits; rw [Bool.eq_false_iff.2 HF1.out]; rfl, rfl⟩⟩
end Go.Proofs.YtjlokkjbdgcooaaGreat

