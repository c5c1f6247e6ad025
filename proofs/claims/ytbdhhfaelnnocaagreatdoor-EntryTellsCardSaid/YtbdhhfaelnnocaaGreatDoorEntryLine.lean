/-
  Contract of the reader's line.
-/
import Derived.Test.YtbdhhfaelnnocaaGreatDoorEntryFields
namespace Go.Proofs.YtbdhhfaelnnocaaGreatDoor
open Go.RowKit Go.Sort

theorem lineOf_eq (p : List UInt8) : lineOf p = match numOf ((splitL 58 p).headD []), numOf ((splitL 58 p).tail.headD []), numOf ((splitL 58 p).tail.tail.headD []) with
  | some a, some b, some c => if (splitL 58 p).tail.tail.tail = [] then some ⟨a, b, c⟩ else none
  | _, _, _ => none := rfl

set_option maxRecDepth 100000 in
set_option maxHeartbeats 2000000 in
theorem rdLine_any (B b q : Nat) (g : UInt8) (ps : List (List UInt8)) (w : World) (G : GB B w) (hBb : B ≤ b) (hBq : B ≤ q) (h : RdrAt w b g ps) (hq : w.heap[q]? = some (.cells #[.int .i64 0, .int .i64 0, .int .i64 0] 34 (0, 0))) (hne : q ≠ b) :
    Calls Tryz.prog 116 #[.pointer (some ⟨b, 0, none⟩), .pointer (some ⟨q, 0, none⟩)] w fun e w' => e = .returned (.bool (lineOf (ps.headD [])).isSome) ∧ RdrAt w' b g ps.tail ∧
      (∀ l, lineOf (ps.headD []) = some l → w'.heap[q]? = some (.cells #[.int .i64 l.acct, .int .i64 l.amt, .int .i64 l.part] 34 (0, 0))) ∧ Kp (fun k => k = b ∨ k = q) w w' := by
  have kp := Lib.hid (part_any b g ps w h)
  have hl : (ps.headD []).length ≤ 1000000 := Nat.le_trans (head_le g ps) h.len
  have HLO := Lib.hid (lineOf_eq (ps.headD []))
  have hbl := lt_of_blk h.blk
  have hql := lt_of_blk hq
  have HG := Lib.hid G
  have HQ := Lib.hid hq
  generalize ps.headD [] = p at *
  obtain ⟨LO, hLO⟩ : ∃ LO, lineOf p = LO := ⟨_, rfl⟩
  rw [hLO] at HLO ⊢
  obtain ⟨z, hz⟩ : ∃ z : Bool, LO.isSome = z := ⟨_, rfl⟩
  have HZ := Lib.hid hz
  rw [hz]
  clear h hq G hLO hz
  go_enter Tryz.func116, Tryz.ntmps116
  go_wp2_with fail
  refine kp.out.mono ?_
  rintro e w1 ⟨rfl, hr1, hk1⟩
  have kr := Lib.hid (newReader_any p 58 w1 hl)
  have HK1 := Lib.hid hk1
  have HR1 := Lib.hid hr1
  have HG1 := Lib.hid (HG.out.kp hk1 (fun k hk => by rw [hk]; exact hBb))
  have hz1 := hk1.size
  clear hk1 hr1
  go_wp2_with fail
  refine kr.out.mono ?_
  rintro e w2 ⟨rfl, hi2, hb2⟩
  obtain ⟨ib, hib⟩ : ∃ ib, w1.heap.size = ib := ⟨_, rfl⟩
  rw [hib] at hi2 ⊢
  have HIB : Hid (w.heap.size ≤ ib) := by rw [← hib]; exact hz1
  have hne1 : q ≠ ib := by have := HIB.out; omega
  have hne2 : b ≠ ib := by have := HIB.out; omega
  have HK2 : Hid (Kp (fun k => k = b ∨ k = q ∨ k = ib) w w2) := (HK1.out.mono fun k h => .inl h).trans (Kp.of_below hb2)
  have HR2 : Hid (RdrAt w2 b g ps.tail) := HR1.out.kept (S := fun _ => False) (Kp.of_below hb2) (fun h => h.elim)
  have HG2 := Lib.hid (HG1.out.below hb2)
  have hQ2 : w2.heap[q]? = some (.cells #[.int .i64 0, .int .i64 0, .int .i64 0] 34 (0, 0)) := by
    have h1 : w1.heap[q]? = _ := (HK1.out.block q hql hne).trans HQ.out
    exact (hb2.block q (lt_of_blk h1)).trans h1
  have hBi : B ≤ ib := Nat.le_trans HG.out.le HIB.out
  have k1 := Lib.hid (rdNumber_any B ib q 0 58 _ _ _ w2 HG2.out hBi hBq hi2 hQ2 (by simp) hne1)
  have HBS : Hid (∀ k, (k = ib ∨ k = q) → B ≤ k) := fun k hk => by rcases hk with rfl | rfl <;> assumption
  have HIN : Hid (∀ k, (k = ib ∨ k = q) → k = b ∨ k = q ∨ k = ib) := fun k hk => by rcases hk with rfl | rfl <;> simp
  have HNB : Hid (¬ (b = ib ∨ b = q)) := by
    rintro (h | h)
    · exact hne2 h
    · exact hne h.symm
  have FIN : Hid (∀ w', Kp (fun k => k = b ∨ k = q ∨ k = ib) w w' → Kp (fun k => k = b ∨ k = q) w w') := fun w' hk => Kp.fresh hk (Kp.refl _ _) (fun k hk => by
    rcases hk with rfl | rfl | rfl
    · exact .inl (.inl rfl)
    · exact .inl (.inr rfl)
    · exact .inr HIB.out)
  clear hi2 hb2 hQ2 kr hib hz1
  generalize numOf ((splitL 58 p).headD []) = N1 at *
  obtain ⟨z1, hz1⟩ : ∃ z : Bool, N1.isSome = z := ⟨_, rfl⟩
  rw [hz1] at k1
  have HZ1 := Lib.hid hz1
  clear hz1
  cases z1
  · have hN1 : N1 = none := by cases N1 with | none => rfl | some _ => cases HZ1.out
    subst hN1
    have hL : LO = none := HLO.out
    subst hL
    obtain rfl : false = z := HZ.out
    go_wp2_with fail
    refine k1.out.mono ?_
    rintro e w3 ⟨rfl, h1, h2, h3⟩
    have HR3 := Lib.hid (HR2.out.kept h3 HNB.out)
    have HK3 := Lib.hid (HK2.out.trans (h3.mono HIN.out))
    clear h1 h2 h3
    go_wp2_with fail
    go_ret
    exact ⟨rfl, HR3.out, (fun l h => by cases h), FIN.out _ HK3.out⟩
  obtain ⟨x1, hN1⟩ : ∃ x, N1 = some x := by cases N1 with | none => cases HZ1.out | some x => exact ⟨x, rfl⟩
  subst hN1
  go_wp2_with fail
  refine k1.out.mono ?_
  rintro e w3 ⟨rfl, hi3, hQ3, h3⟩
  have HR3 := Lib.hid (HR2.out.kept h3 HNB.out)
  have HK3 := Lib.hid (HK2.out.trans (h3.mono HIN.out))
  have HG3 := Lib.hid (HG2.out.kp h3 HBS.out)
  have k2 := Lib.hid (rdNumber_any B ib q 1 58 _ _ _ w3 HG3.out hBi hBq hi3 hQ3 (by simp) hne1)
  clear hi3 hQ3 h3 k1 HZ1
  generalize numOf ((splitL 58 p).tail.headD []) = N2 at *
  obtain ⟨z2, hz2⟩ : ∃ z : Bool, N2.isSome = z := ⟨_, rfl⟩
  rw [hz2] at k2
  have HZ2 := Lib.hid hz2
  clear hz2
  cases z2
  · have hN2 : N2 = none := by cases N2 with | none => rfl | some _ => cases HZ2.out
    subst hN2
    have hL : LO = none := HLO.out
    subst hL
    obtain rfl : false = z := HZ.out
    go_wp2_with fail
    refine k2.out.mono ?_
    rintro e w4 ⟨rfl, h1, h2, h3⟩
    have HR4 := Lib.hid (HR3.out.kept h3 HNB.out)
    have HK4 := Lib.hid (HK3.out.trans (h3.mono HIN.out))
    clear h1 h2 h3
    go_wp2_with fail
    go_ret
    exact ⟨rfl, HR4.out, (fun l h => by cases h), FIN.out _ HK4.out⟩
  obtain ⟨x2, hN2⟩ : ∃ x, N2 = some x := by cases N2 with | none => cases HZ2.out | some x => exact ⟨x, rfl⟩
  subst hN2
  go_wp2_with fail
  refine k2.out.mono ?_
  rintro e w4 ⟨rfl, hi4, hQ4, h4⟩
  have HR4 := Lib.hid (HR3.out.kept h4 HNB.out)
  have HK4 := Lib.hid (HK3.out.trans (h4.mono HIN.out))
  have HG4 := Lib.hid (HG3.out.kp h4 HBS.out)
  have k3 := Lib.hid (rdNumber_any B ib q 2 58 _ _ _ w4 HG4.out hBi hBq hi4 hQ4 (by simp) hne1)
  clear hi4 hQ4 h4 k2 HZ2
  generalize numOf ((splitL 58 p).tail.tail.headD []) = N3 at *
  obtain ⟨z3, hz3⟩ : ∃ z : Bool, N3.isSome = z := ⟨_, rfl⟩
  rw [hz3] at k3
  have HZ3 := Lib.hid hz3
  clear hz3
  cases z3
  · have hN3 : N3 = none := by cases N3 with | none => rfl | some _ => cases HZ3.out
    subst hN3
    have hL : LO = none := HLO.out
    subst hL
    obtain rfl : false = z := HZ.out
    go_wp2_with fail
    refine k3.out.mono ?_
    rintro e w5 ⟨rfl, h1, h2, h3⟩
    have HR5 := Lib.hid (HR4.out.kept h3 HNB.out)
    have HK5 := Lib.hid (HK4.out.trans (h3.mono HIN.out))
    clear h1 h2 h3
    go_wp2_with fail
    go_ret
    exact ⟨rfl, HR5.out, (fun l h => by cases h), FIN.out _ HK5.out⟩
  obtain ⟨x3, hN3⟩ : ∃ x, N3 = some x := by cases N3 with | none => cases HZ3.out | some x => exact ⟨x, rfl⟩
  subst hN3
  have hL : LO = if (splitL 58 p).tail.tail.tail = [] then some ⟨x1, x2, x3⟩ else none := HLO.out
  have HL := Lib.hid hL
  clear hL HLO
  go_wp2_with fail
  refine k3.out.mono ?_
  rintro e w5 ⟨rfl, hi5, hQ5, h5⟩
  have HR5 := Lib.hid (HR4.out.kept h5 HNB.out)
  have HK5 := Lib.hid (HK4.out.trans (h5.mono HIN.out))
  have hm := cell_of hi5.blk 2
  simp only [List.getElem?_toArray, List.getElem?_cons_zero, List.getElem?_cons_succ] at hm
  have HQ5 := Lib.hid hQ5
  clear hi5 hQ5 h5 k3 HZ3
  generalize (splitL 58 p).tail.tail.tail = R at *
  cases R with
  | nil =>
    have hL : LO = some ⟨x1, x2, x3⟩ := HL.out
    subst hL
    obtain rfl : true = z := HZ.out
    simp only [List.isEmpty_nil, Bool.not_true] at hm
    go_wp2_with fail
    go_ret
    exact ⟨rfl, HR5.out, (fun l h => by injection h with h; subst h; exact HQ5.out), FIN.out _ HK5.out⟩
  | cons y R =>
    have hL : LO = none := HL.out
    subst hL
    obtain rfl : false = z := HZ.out
    simp only [List.isEmpty_cons, Bool.not_false] at hm
    go_wp2_with fail
    go_ret
    exact ⟨rfl, HR5.out, (fun l h => by cases h), FIN.out _ HK5.out⟩
end Go.Proofs.YtbdhhfaelnnocaaGreatDoor
