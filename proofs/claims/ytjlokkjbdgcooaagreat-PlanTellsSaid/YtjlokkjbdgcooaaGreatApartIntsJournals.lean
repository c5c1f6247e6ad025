/-
  The book's Apart, where it keeps ints, journals alone.
-/
import Derived.Test.YtjlokkjbdgcooaaGreatBookEmpty
import Derived.Test.YtjlokkjbdgcooaaGreatIntsBook
import Derived.Test.YtjlokkjbdgcooaaGreatJrnsBook
namespace Go.Proofs.YtjlokkjbdgcooaaGreat
open Go.RowKit

set_option maxRecDepth 100000 in
set_option maxHeartbeats 4000000 in
theorem apartIntsJournals_any (b B : Nat) (F : Nat → Value) (w : World) (mInts : Nat) (VInts UInts : Nat → Value) (LInts : Nat → List Int) (hInts : kInts.Kept w B b F mInts VInts UInts (fun i => (LInts i).length) (fun i => ints .i64 (LInts i))) (hmInts : mInts ≤ 250) (hlInts : ∀ i, i < mInts → (LInts i).length ≤ 900000) (mJournals : Nat) (VJournals UJournals : Nat → Value) (LJournals LUJournals : Nat → List JR) (hJournals : KeptJ w B b F mJournals VJournals UJournals LJournals LUJournals) (hmJournals : mJournals ≤ 250) (hlJournals : ∀ i, i < mJournals → (LJournals i).length ≤ 700000) (hF : ∀ k, k < 20 → k ≠ 2 → k ≠ 3 → k ≠ 10 → k ≠ 11 → F k = .slice none 0 0) :
    Calls Tryz.prog 23 #[.pointer (some ⟨b, 0, none⟩)] w fun e w' => e = .returned (.bool true) ∧ Below B w w' := by
  have HKInts := Lib.hid hInts; have HLInts : Hid (∀ i, i < mInts → (LInts i).length ≤ 1000000) := fun i hi => by have := hlInts i hi; omega
  have HMInts : Hid (∀ i, i < mInts → (LInts i).length + 72 ≤ 1000000) := fun i hi => by have := hlInts i hi; omega
  have HKJournals := Lib.hid hJournals; have HLJournals : Hid (∀ i, i < mJournals → (LJournals i).length ≤ 800000) := fun i hi => by have := hlJournals i hi; omega
  have HMJournals : Hid (∀ i, i < mJournals → (LJournals i).length + 72 ≤ 800000) := fun i hi => by have := hlJournals i hi; omega
  have HLOW := Lib.hid HKInts.out.2.1; have HBL : Hid (b < w.heap.size) := HKInts.out.1.lt
  have HC : Hid (∀ (w' : World), BookAt w' b F → ∀ (k : Nat), k < 20 → k ≠ 2 → k ≠ 3 → k ≠ 10 → k ≠ 11 → w'.cell? ⟨b, k, none⟩ = some (.slice none 0 0)) := fun w' hB k hk n2 n3 n10 n11 => by rw [hB.cell hk, hF k hk n2 n3 n10 n11]
  clear hF hInts hlInts hJournals hlJournals
  go_enter Tryz.func23, Tryz.ntmps23
  have HB0 : Hid (Below B w w) := Below.refl _ _
  go_wp2_with fail
  refine (stillTexts_none b none 0 w (HC.out _ HKInts.out.1 0 (by omega) (by omega) (by omega) (by omega) (by omega))).mono ?_
  rintro e w' ⟨rfl, rfl⟩
  go_wp2_with fail
  refine (stillKInts_any b B mInts F VInts UInts LInts w HKInts.out hmInts HLInts.out).mono ?_
  rintro e w1 ⟨rfl, hd⟩
  replace HKInts := Lib.hid (HKInts.out.drew hd)
  replace HKJournals := Lib.hid (HKJournals.out.below hd.below)
  have HB1 : Hid (Below B w w1) := HB0.out.trans hd.below
  clear hd HB0
  go_wp2_with fail
  refine (stillAccounts_none b none 0 w1 (HC.out _ HKInts.out.1 4 (by omega) (by omega) (by omega) (by omega) (by omega))).mono ?_
  rintro e w' ⟨rfl, rfl⟩
  go_wp2_with fail
  refine (stillBalances_none b none 0 w1 (HC.out _ HKInts.out.1 6 (by omega) (by omega) (by omega) (by omega) (by omega))).mono ?_
  rintro e w' ⟨rfl, rfl⟩
  go_wp2_with fail
  refine (stillLines_none b none 0 w1 (HC.out _ HKInts.out.1 8 (by omega) (by omega) (by omega) (by omega) (by omega))).mono ?_
  rintro e w' ⟨rfl, rfl⟩
  go_wp2_with fail
  refine (stillJournals_any b B mJournals F VJournals UJournals LJournals LUJournals w1 HKJournals.out hmJournals HLJournals.out).mono ?_
  rintro e w2 ⟨rfl, hd⟩
  replace HKInts := Lib.hid (HKInts.out.below hd)
  replace HKJournals := Lib.hid (HKJournals.out.below hd)
  have HB2 : Hid (Below B w w2) := HB1.out.trans (hd.mono (Nat.le_trans (Nat.le_of_lt (Nat.lt_of_le_of_lt HLOW.out HBL.out)) HB1.out.size))
  clear hd HB1
  go_wp2_with fail
  refine (stillChanges_none b none 0 w2 (HC.out _ HKInts.out.1 12 (by omega) (by omega) (by omega) (by omega) (by omega))).mono ?_
  rintro e w' ⟨rfl, rfl⟩
  go_wp2_with fail
  refine (stillConflicts_none b none 0 w2 (HC.out _ HKInts.out.1 14 (by omega) (by omega) (by omega) (by omega) (by omega))).mono ?_
  rintro e w' ⟨rfl, rfl⟩
  go_wp2_with fail
  refine (stillTrios_none b none 0 w2 (HC.out _ HKInts.out.1 16 (by omega) (by omega) (by omega) (by omega) (by omega))).mono ?_
  rintro e w' ⟨rfl, rfl⟩
  go_wp2_with fail
  refine (stillPairs_none b none 0 w2 (HC.out _ HKInts.out.1 18 (by omega) (by omega) (by omega) (by omega) (by omega))).mono ?_
  rintro e w' ⟨rfl, rfl⟩
  have HVInts := Lib.hid HKInts.out.lists
  clear HKInts
  have HVJournals := Lib.hid HKJournals.out.kept.lists
  clear HKJournals
  go_wp2_with fail
  refine (putJournals_any b B mJournals F VJournals _ _ w2 HVJournals.out hmJournals HLJournals.out).mono ?_
  rintro e w3 ⟨rfl, hv, hbe, hon⟩
  replace HVJournals := Lib.hid hv
  replace HVInts := Lib.hid (HVInts.out.other hon (by decide) (by decide) (by decide))
  have HB3 : Hid (Below B w w3) := HB2.out.trans hbe
  clear hv hbe hon HB2
  go_wp2_with fail
  refine (putChanges_none b none 0 w3 (HC.out _ HVInts.out.1 12 (by omega) (by omega) (by omega) (by omega) (by omega))).mono ?_
  rintro e w' ⟨rfl, rfl⟩
  go_wp2_with fail
  refine (putTexts_none b none 0 w3 (HC.out _ HVInts.out.1 0 (by omega) (by omega) (by omega) (by omega) (by omega))).mono ?_
  rintro e w' ⟨rfl, rfl⟩
  go_wp2_with fail
  refine (putKInts_any b B mInts F VInts _ _ w3 HVInts.out hmInts HLInts.out).mono ?_
  rintro e w4 ⟨rfl, hv, hbe, hon⟩
  replace HVInts := Lib.hid hv
  replace HVJournals := Lib.hid (HVJournals.out.other hon (by decide) (by decide) (by decide))
  have HB4 : Hid (Below B w w4) := HB3.out.trans hbe
  clear hv hbe hon HB3
  go_wp2_with fail
  refine (putAccounts_none b none 0 w4 (HC.out _ HVInts.out.1 4 (by omega) (by omega) (by omega) (by omega) (by omega))).mono ?_
  rintro e w' ⟨rfl, rfl⟩
  go_wp2_with fail
  refine (putBalances_none b none 0 w4 (HC.out _ HVInts.out.1 6 (by omega) (by omega) (by omega) (by omega) (by omega))).mono ?_
  rintro e w' ⟨rfl, rfl⟩
  go_wp2_with fail
  refine (putLines_none b none 0 w4 (HC.out _ HVInts.out.1 8 (by omega) (by omega) (by omega) (by omega) (by omega))).mono ?_
  rintro e w' ⟨rfl, rfl⟩
  go_wp2_with fail
  refine (putConflicts_none b none 0 w4 (HC.out _ HVInts.out.1 14 (by omega) (by omega) (by omega) (by omega) (by omega))).mono ?_
  rintro e w' ⟨rfl, rfl⟩
  go_wp2_with fail
  refine (putTrios_none b none 0 w4 (HC.out _ HVInts.out.1 16 (by omega) (by omega) (by omega) (by omega) (by omega))).mono ?_
  rintro e w' ⟨rfl, rfl⟩
  go_wp2_with fail
  refine (putPairs_none b none 0 w4 (HC.out _ HVInts.out.1 18 (by omega) (by omega) (by omega) (by omega) (by omega))).mono ?_
  rintro e w' ⟨rfl, rfl⟩
  go_wp2_with fail
  refine (growTexts_none b none 0 w4 (HC.out _ HVInts.out.1 0 (by omega) (by omega) (by omega) (by omega) (by omega))).mono ?_
  rintro e w' ⟨rfl, rfl⟩
  go_wp2_with fail
  refine (growKInts_any b B mInts F VInts _ w4 HVInts.out hmInts HLInts.out).mono ?_
  rintro e w5 ⟨AInts, cInts, GInts, rfl, hg⟩
  have HGInts := Lib.hid hg.done
  clear HVInts
  replace HVJournals := Lib.hid (HVJournals.out.other hg.only (by decide) (by decide) (by decide))
  have HB5 : Hid (Below B w w5) := HB4.out.trans hg.below
  clear hg HB4
  go_wp2_with fail
  refine (growAccounts_none b none 0 w5 (HC.out _ HGInts.out.book 4 (by omega) (by omega) (by omega) (by omega) (by omega))).mono ?_
  rintro e w' ⟨rfl, rfl⟩
  go_wp2_with fail
  refine (growBalances_none b none 0 w5 (HC.out _ HGInts.out.book 6 (by omega) (by omega) (by omega) (by omega) (by omega))).mono ?_
  rintro e w' ⟨rfl, rfl⟩
  go_wp2_with fail
  refine (growLines_none b none 0 w5 (HC.out _ HGInts.out.book 8 (by omega) (by omega) (by omega) (by omega) (by omega))).mono ?_
  rintro e w' ⟨rfl, rfl⟩
  go_wp2_with fail
  refine (growJournals_any b B mJournals F VJournals _ w5 HVJournals.out hmJournals HLJournals.out).mono ?_
  rintro e w6 ⟨AJournals, cJournals, GJournals, rfl, hg⟩
  have HGJournals := Lib.hid hg.done
  clear HVJournals
  replace HGInts := Lib.hid (HGInts.out.other hg.only (by decide) (by decide) (by decide))
  have HB6 : Hid (Below B w w6) := HB5.out.trans hg.below
  clear hg HB5
  go_wp2_with fail
  refine (growChanges_none b none 0 w6 (HC.out _ HGInts.out.book 12 (by omega) (by omega) (by omega) (by omega) (by omega))).mono ?_
  rintro e w' ⟨rfl, rfl⟩
  go_wp2_with fail
  refine (growConflicts_none b none 0 w6 (HC.out _ HGInts.out.book 14 (by omega) (by omega) (by omega) (by omega) (by omega))).mono ?_
  rintro e w' ⟨rfl, rfl⟩
  go_wp2_with fail
  refine (growTrios_none b none 0 w6 (HC.out _ HGInts.out.book 16 (by omega) (by omega) (by omega) (by omega) (by omega))).mono ?_
  rintro e w' ⟨rfl, rfl⟩
  go_wp2_with fail
  refine (growPairs_none b none 0 w6 (HC.out _ HGInts.out.book 18 (by omega) (by omega) (by omega) (by omega) (by omega))).mono ?_
  rintro e w' ⟨rfl, rfl⟩
  have hx := HC.out _ HGInts.out.book 0 (by omega) (by omega) (by omega) (by omega) (by omega)
  go_wp2_with fail
  refine (markedTexts_none none 0 w6).mono ?_
  rintro e w' ⟨rfl, rfl⟩
  go_wp2_with fail
  refine (markedTexts_none none 0 w6).mono ?_
  rintro e w' ⟨rfl, rfl⟩
  clear hx
  go_wp2_with fail
  refine (markedKInts_any AInts cInts B mInts GInts (fun j => (LInts j).length + 72) w6 HGInts.out.out HGInts.out.grown hmInts HMInts.out).mono ?_
  rintro e w7 ⟨rfl, hb⟩
  replace HGInts := Lib.hid (HGInts.out.below hb)
  replace HGJournals := Lib.hid (HGJournals.out.below hb)
  have HB7 : Hid (Below B w w7) := HB6.out.trans (hb.mono (Nat.le_trans (Nat.le_of_lt (Nat.lt_of_le_of_lt HLOW.out (HBL.out))) HB6.out.size))
  clear hb HB6
  obtain ⟨A2, c2, e2⟩ := own_form HGInts.out.tab
  have hx2 : w7.cell? ⟨b, 2, none⟩ = some (.slice A2 mInts c2) := (HGInts.out.book.cell (i := 2) (by omega)).trans (congrArg some e2)
  have HT : Hid (kInts.Tab w7 B (.slice A2 mInts c2) mInts VInts) := by have := HGInts.out.tab; rw [e2] at this; exact this
  clear e2
  go_wp2_with fail
  refine (markedKInts_any A2 c2 B mInts VInts (fun j => (LInts j).length) w7 HT.out HGInts.out.lists.1 hmInts HLInts.out).mono ?_
  rintro e w8 ⟨rfl, hb⟩
  replace HGInts := Lib.hid (HGInts.out.below hb)
  replace HGJournals := Lib.hid (HGJournals.out.below hb)
  have HB8 : Hid (Below B w w8) := HB7.out.trans (hb.mono (Nat.le_trans (Nat.le_of_lt (Nat.lt_of_le_of_lt HLOW.out HBL.out)) HB7.out.size))
  clear hb HB7 hx2 HT
  have hx := HC.out _ HGInts.out.book 4 (by omega) (by omega) (by omega) (by omega) (by omega)
  go_wp2_with fail
  refine (markedAccounts_none none 0 w8).mono ?_
  rintro e w' ⟨rfl, rfl⟩
  go_wp2_with fail
  refine (markedAccounts_none none 0 w8).mono ?_
  rintro e w' ⟨rfl, rfl⟩
  clear hx
  have hx := HC.out _ HGInts.out.book 6 (by omega) (by omega) (by omega) (by omega) (by omega)
  go_wp2_with fail
  refine (markedBalances_none none 0 w8).mono ?_
  rintro e w' ⟨rfl, rfl⟩
  go_wp2_with fail
  refine (markedBalances_none none 0 w8).mono ?_
  rintro e w' ⟨rfl, rfl⟩
  clear hx
  have hx := HC.out _ HGInts.out.book 8 (by omega) (by omega) (by omega) (by omega) (by omega)
  go_wp2_with fail
  refine (markedLines_none none 0 w8).mono ?_
  rintro e w' ⟨rfl, rfl⟩
  go_wp2_with fail
  refine (markedLines_none none 0 w8).mono ?_
  rintro e w' ⟨rfl, rfl⟩
  clear hx
  go_wp2_with fail
  refine (markedJournals_any AJournals cJournals B mJournals GJournals (fun j => (LJournals j).length + 72) w8 HGJournals.out.out HGJournals.out.grown hmJournals HMJournals.out).mono ?_
  rintro e w9 ⟨rfl, hb⟩
  replace HGInts := Lib.hid (HGInts.out.below hb)
  replace HGJournals := Lib.hid (HGJournals.out.below hb)
  have HB9 : Hid (Below B w w9) := HB8.out.trans (hb.mono (Nat.le_trans (Nat.le_of_lt (Nat.lt_of_le_of_lt HLOW.out (HBL.out))) HB8.out.size))
  clear hb HB8
  obtain ⟨A2, c2, e2⟩ := own_form HGJournals.out.tab
  have hx2 : w9.cell? ⟨b, 10, none⟩ = some (.slice A2 mJournals c2) := (HGJournals.out.book.cell (i := 10) (by omega)).trans (congrArg some e2)
  have HT : Hid (kJournals.Tab w9 B (.slice A2 mJournals c2) mJournals VJournals) := by have := HGJournals.out.tab; rw [e2] at this; exact this
  clear e2
  go_wp2_with fail
  refine (markedJournals_any A2 c2 B mJournals VJournals (fun j => (LJournals j).length) w9 HT.out HGJournals.out.lists.1 hmJournals HLJournals.out).mono ?_
  rintro e w10 ⟨rfl, hb⟩
  replace HGInts := Lib.hid (HGInts.out.below hb)
  replace HGJournals := Lib.hid (HGJournals.out.below hb)
  have HB10 : Hid (Below B w w10) := HB9.out.trans (hb.mono (Nat.le_trans (Nat.le_of_lt (Nat.lt_of_le_of_lt HLOW.out HBL.out)) HB9.out.size))
  clear hb HB9 hx2 HT
  have hx := HC.out _ HGInts.out.book 12 (by omega) (by omega) (by omega) (by omega) (by omega)
  go_wp2_with fail
  refine (markedChanges_none none 0 w10).mono ?_
  rintro e w' ⟨rfl, rfl⟩
  go_wp2_with fail
  refine (markedChanges_none none 0 w10).mono ?_
  rintro e w' ⟨rfl, rfl⟩
  clear hx
  have hx := HC.out _ HGInts.out.book 14 (by omega) (by omega) (by omega) (by omega) (by omega)
  go_wp2_with fail
  refine (markedConflicts_none none 0 w10).mono ?_
  rintro e w' ⟨rfl, rfl⟩
  go_wp2_with fail
  refine (markedConflicts_none none 0 w10).mono ?_
  rintro e w' ⟨rfl, rfl⟩
  clear hx
  have hx := HC.out _ HGInts.out.book 16 (by omega) (by omega) (by omega) (by omega) (by omega)
  go_wp2_with fail
  refine (markedTrios_none none 0 w10).mono ?_
  rintro e w' ⟨rfl, rfl⟩
  go_wp2_with fail
  refine (markedTrios_none none 0 w10).mono ?_
  rintro e w' ⟨rfl, rfl⟩
  clear hx
  have hx := HC.out _ HGInts.out.book 18 (by omega) (by omega) (by omega) (by omega) (by omega)
  go_wp2_with fail
  refine (markedPairs_none none 0 w10).mono ?_
  rintro e w' ⟨rfl, rfl⟩
  go_wp2_with fail
  refine (markedPairs_none none 0 w10).mono ?_
  rintro e w' ⟨rfl, rfl⟩
  clear hx
  go_wp2_with fail
  go_ret
  exact ⟨rfl, HB10.out⟩
end Go.Proofs.YtjlokkjbdgcooaaGreat

