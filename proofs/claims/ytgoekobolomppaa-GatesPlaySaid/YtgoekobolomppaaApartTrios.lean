/-
  The book's Apart, where it keeps trios alone.
-/
import Derived.Test.YtgoekobolomppaaBookEmpty
import Derived.Test.YtgoekobolomppaaTriosBook
namespace Go.Proofs.Ytgoekobolomppaa
open Go.RowKit

set_option maxRecDepth 100000 in
set_option maxHeartbeats 4000000 in
theorem apartTrios_any (b B : Nat) (F : Nat → Value) (w : World) (mTrios : Nat) (VTrios UTrios : Nat → Value) (LTrios : Nat → List Trio) (hTrios : kTrios.Kept w B b F mTrios VTrios UTrios (fun i => (LTrios i).length) (fun i => trios (LTrios i))) (hmTrios : mTrios ≤ 250) (hlTrios : ∀ i, i < mTrios → (LTrios i).length ≤ 900000) (hF : ∀ k, k < 20 → k ≠ 16 → k ≠ 17 → F k = .slice none 0 0) :
    Calls Try.prog 16 #[.pointer (some ⟨b, 0, none⟩)] w fun e w' => e = .returned (.bool true) ∧ Below B w w' := by
  have HKTrios := Lib.hid hTrios; have HLTrios : Hid (∀ i, i < mTrios → (LTrios i).length ≤ 1000000) := fun i hi => by have := hlTrios i hi; omega
  have HMTrios : Hid (∀ i, i < mTrios → (LTrios i).length + 72 ≤ 1000000) := fun i hi => by have := hlTrios i hi; omega
  have HLOW := Lib.hid HKTrios.out.2.1; have HBL : Hid (b < w.heap.size) := HKTrios.out.1.lt
  have HC : Hid (∀ (w' : World), BookAt w' b F → ∀ (k : Nat), k < 20 → k ≠ 16 → k ≠ 17 → w'.cell? ⟨b, k, none⟩ = some (.slice none 0 0)) := fun w' hB k hk n16 n17 => by rw [hB.cell hk, hF k hk n16 n17]
  clear hF hTrios hlTrios
  go_enter Try.func16, Try.ntmps16
  have HB0 : Hid (Below B w w) := Below.refl _ _
  go_wp2_with fail
  refine (stillTexts_none b none 0 w (HC.out _ HKTrios.out.1 0 (by omega) (by omega) (by omega))).mono ?_
  rintro e w' ⟨rfl, rfl⟩
  go_wp2_with fail
  refine (stillInts_none b none 0 w (HC.out _ HKTrios.out.1 2 (by omega) (by omega) (by omega))).mono ?_
  rintro e w' ⟨rfl, rfl⟩
  go_wp2_with fail
  refine (stillAccounts_none b none 0 w (HC.out _ HKTrios.out.1 4 (by omega) (by omega) (by omega))).mono ?_
  rintro e w' ⟨rfl, rfl⟩
  go_wp2_with fail
  refine (stillBalances_none b none 0 w (HC.out _ HKTrios.out.1 6 (by omega) (by omega) (by omega))).mono ?_
  rintro e w' ⟨rfl, rfl⟩
  go_wp2_with fail
  refine (stillLines_none b none 0 w (HC.out _ HKTrios.out.1 8 (by omega) (by omega) (by omega))).mono ?_
  rintro e w' ⟨rfl, rfl⟩
  go_wp2_with fail
  refine (stillJournals_none b none 0 w (HC.out _ HKTrios.out.1 10 (by omega) (by omega) (by omega))).mono ?_
  rintro e w' ⟨rfl, rfl⟩
  go_wp2_with fail
  refine (stillChanges_none b none 0 w (HC.out _ HKTrios.out.1 12 (by omega) (by omega) (by omega))).mono ?_
  rintro e w' ⟨rfl, rfl⟩
  go_wp2_with fail
  refine (stillConflicts_none b none 0 w (HC.out _ HKTrios.out.1 14 (by omega) (by omega) (by omega))).mono ?_
  rintro e w' ⟨rfl, rfl⟩
  go_wp2_with fail
  refine (stillTrios_any b B mTrios F VTrios UTrios LTrios w HKTrios.out hmTrios HLTrios.out).mono ?_
  rintro e w1 ⟨rfl, hd⟩
  replace HKTrios := Lib.hid (HKTrios.out.drew hd)
  have HB1 : Hid (Below B w w1) := HB0.out.trans hd.below
  clear hd HB0
  go_wp2_with fail
  refine (stillPairs_none b none 0 w1 (HC.out _ HKTrios.out.1 18 (by omega) (by omega) (by omega))).mono ?_
  rintro e w' ⟨rfl, rfl⟩
  have HVTrios := Lib.hid HKTrios.out.lists
  clear HKTrios
  go_wp2_with fail
  refine (putJournals_none b none 0 w1 (HC.out _ HVTrios.out.1 10 (by omega) (by omega) (by omega))).mono ?_
  rintro e w' ⟨rfl, rfl⟩
  go_wp2_with fail
  refine (putChanges_none b none 0 w1 (HC.out _ HVTrios.out.1 12 (by omega) (by omega) (by omega))).mono ?_
  rintro e w' ⟨rfl, rfl⟩
  go_wp2_with fail
  refine (putTexts_none b none 0 w1 (HC.out _ HVTrios.out.1 0 (by omega) (by omega) (by omega))).mono ?_
  rintro e w' ⟨rfl, rfl⟩
  go_wp2_with fail
  refine (putInts_none b none 0 w1 (HC.out _ HVTrios.out.1 2 (by omega) (by omega) (by omega))).mono ?_
  rintro e w' ⟨rfl, rfl⟩
  go_wp2_with fail
  refine (putAccounts_none b none 0 w1 (HC.out _ HVTrios.out.1 4 (by omega) (by omega) (by omega))).mono ?_
  rintro e w' ⟨rfl, rfl⟩
  go_wp2_with fail
  refine (putBalances_none b none 0 w1 (HC.out _ HVTrios.out.1 6 (by omega) (by omega) (by omega))).mono ?_
  rintro e w' ⟨rfl, rfl⟩
  go_wp2_with fail
  refine (putLines_none b none 0 w1 (HC.out _ HVTrios.out.1 8 (by omega) (by omega) (by omega))).mono ?_
  rintro e w' ⟨rfl, rfl⟩
  go_wp2_with fail
  refine (putConflicts_none b none 0 w1 (HC.out _ HVTrios.out.1 14 (by omega) (by omega) (by omega))).mono ?_
  rintro e w' ⟨rfl, rfl⟩
  go_wp2_with fail
  refine (putTrios_any b B mTrios F VTrios _ _ w1 HVTrios.out hmTrios HLTrios.out).mono ?_
  rintro e w2 ⟨rfl, hv, hbe, hon⟩
  replace HVTrios := Lib.hid hv
  have HB2 : Hid (Below B w w2) := HB1.out.trans hbe
  clear hv hbe hon HB1
  go_wp2_with fail
  refine (putPairs_none b none 0 w2 (HC.out _ HVTrios.out.1 18 (by omega) (by omega) (by omega))).mono ?_
  rintro e w' ⟨rfl, rfl⟩
  go_wp2_with fail
  refine (growTexts_none b none 0 w2 (HC.out _ HVTrios.out.1 0 (by omega) (by omega) (by omega))).mono ?_
  rintro e w' ⟨rfl, rfl⟩
  go_wp2_with fail
  refine (growInts_none b none 0 w2 (HC.out _ HVTrios.out.1 2 (by omega) (by omega) (by omega))).mono ?_
  rintro e w' ⟨rfl, rfl⟩
  go_wp2_with fail
  refine (growAccounts_none b none 0 w2 (HC.out _ HVTrios.out.1 4 (by omega) (by omega) (by omega))).mono ?_
  rintro e w' ⟨rfl, rfl⟩
  go_wp2_with fail
  refine (growBalances_none b none 0 w2 (HC.out _ HVTrios.out.1 6 (by omega) (by omega) (by omega))).mono ?_
  rintro e w' ⟨rfl, rfl⟩
  go_wp2_with fail
  refine (growLines_none b none 0 w2 (HC.out _ HVTrios.out.1 8 (by omega) (by omega) (by omega))).mono ?_
  rintro e w' ⟨rfl, rfl⟩
  go_wp2_with fail
  refine (growJournals_none b none 0 w2 (HC.out _ HVTrios.out.1 10 (by omega) (by omega) (by omega))).mono ?_
  rintro e w' ⟨rfl, rfl⟩
  go_wp2_with fail
  refine (growChanges_none b none 0 w2 (HC.out _ HVTrios.out.1 12 (by omega) (by omega) (by omega))).mono ?_
  rintro e w' ⟨rfl, rfl⟩
  go_wp2_with fail
  refine (growConflicts_none b none 0 w2 (HC.out _ HVTrios.out.1 14 (by omega) (by omega) (by omega))).mono ?_
  rintro e w' ⟨rfl, rfl⟩
  go_wp2_with fail
  refine (growTrios_any b B mTrios F VTrios _ w2 HVTrios.out hmTrios HLTrios.out).mono ?_
  rintro e w3 ⟨ATrios, cTrios, GTrios, rfl, hg⟩
  have HGTrios := Lib.hid hg.done
  clear HVTrios
  have HB3 : Hid (Below B w w3) := HB2.out.trans hg.below
  clear hg HB2
  go_wp2_with fail
  refine (growPairs_none b none 0 w3 (HC.out _ HGTrios.out.book 18 (by omega) (by omega) (by omega))).mono ?_
  rintro e w' ⟨rfl, rfl⟩
  have hx := HC.out _ HGTrios.out.book 0 (by omega) (by omega) (by omega)
  go_wp2_with fail
  refine (markedTexts_none none 0 w3).mono ?_
  rintro e w' ⟨rfl, rfl⟩
  go_wp2_with fail
  refine (markedTexts_none none 0 w3).mono ?_
  rintro e w' ⟨rfl, rfl⟩
  clear hx
  have hx := HC.out _ HGTrios.out.book 2 (by omega) (by omega) (by omega)
  go_wp2_with fail
  refine (markedInts_none none 0 w3).mono ?_
  rintro e w' ⟨rfl, rfl⟩
  go_wp2_with fail
  refine (markedInts_none none 0 w3).mono ?_
  rintro e w' ⟨rfl, rfl⟩
  clear hx
  have hx := HC.out _ HGTrios.out.book 4 (by omega) (by omega) (by omega)
  go_wp2_with fail
  refine (markedAccounts_none none 0 w3).mono ?_
  rintro e w' ⟨rfl, rfl⟩
  go_wp2_with fail
  refine (markedAccounts_none none 0 w3).mono ?_
  rintro e w' ⟨rfl, rfl⟩
  clear hx
  have hx := HC.out _ HGTrios.out.book 6 (by omega) (by omega) (by omega)
  go_wp2_with fail
  refine (markedBalances_none none 0 w3).mono ?_
  rintro e w' ⟨rfl, rfl⟩
  go_wp2_with fail
  refine (markedBalances_none none 0 w3).mono ?_
  rintro e w' ⟨rfl, rfl⟩
  clear hx
  have hx := HC.out _ HGTrios.out.book 8 (by omega) (by omega) (by omega)
  go_wp2_with fail
  refine (markedLines_none none 0 w3).mono ?_
  rintro e w' ⟨rfl, rfl⟩
  go_wp2_with fail
  refine (markedLines_none none 0 w3).mono ?_
  rintro e w' ⟨rfl, rfl⟩
  clear hx
  have hx := HC.out _ HGTrios.out.book 10 (by omega) (by omega) (by omega)
  go_wp2_with fail
  refine (markedJournals_none none 0 w3).mono ?_
  rintro e w' ⟨rfl, rfl⟩
  go_wp2_with fail
  refine (markedJournals_none none 0 w3).mono ?_
  rintro e w' ⟨rfl, rfl⟩
  clear hx
  have hx := HC.out _ HGTrios.out.book 12 (by omega) (by omega) (by omega)
  go_wp2_with fail
  refine (markedChanges_none none 0 w3).mono ?_
  rintro e w' ⟨rfl, rfl⟩
  go_wp2_with fail
  refine (markedChanges_none none 0 w3).mono ?_
  rintro e w' ⟨rfl, rfl⟩
  clear hx
  have hx := HC.out _ HGTrios.out.book 14 (by omega) (by omega) (by omega)
  go_wp2_with fail
  refine (markedConflicts_none none 0 w3).mono ?_
  rintro e w' ⟨rfl, rfl⟩
  go_wp2_with fail
  refine (markedConflicts_none none 0 w3).mono ?_
  rintro e w' ⟨rfl, rfl⟩
  clear hx
  go_wp2_with fail
  refine (markedTrios_any ATrios cTrios B mTrios GTrios (fun j => (LTrios j).length + 72) w3 HGTrios.out.out HGTrios.out.grown hmTrios HMTrios.out).mono ?_
  rintro e w4 ⟨rfl, hb⟩
  replace HGTrios := Lib.hid (HGTrios.out.below hb)
  have HB4 : Hid (Below B w w4) := HB3.out.trans (hb.mono (Nat.le_trans (Nat.le_of_lt (Nat.lt_of_le_of_lt HLOW.out (HBL.out))) HB3.out.size))
  clear hb HB3
  obtain ⟨A2, c2, e2⟩ := own_form HGTrios.out.tab
  have hx2 : w4.cell? ⟨b, 16, none⟩ = some (.slice A2 mTrios c2) := (HGTrios.out.book.cell (i := 16) (by omega)).trans (congrArg some e2)
  have HT : Hid (kTrios.Tab w4 B (.slice A2 mTrios c2) mTrios VTrios) := by have := HGTrios.out.tab; rw [e2] at this; exact this
  clear e2
  go_wp2_with fail
  refine (markedTrios_any A2 c2 B mTrios VTrios (fun j => (LTrios j).length) w4 HT.out HGTrios.out.lists.1 hmTrios HLTrios.out).mono ?_
  rintro e w5 ⟨rfl, hb⟩
  replace HGTrios := Lib.hid (HGTrios.out.below hb)
  have HB5 : Hid (Below B w w5) := HB4.out.trans (hb.mono (Nat.le_trans (Nat.le_of_lt (Nat.lt_of_le_of_lt HLOW.out HBL.out)) HB4.out.size))
  clear hb HB4 hx2 HT
  have hx := HC.out _ HGTrios.out.book 18 (by omega) (by omega) (by omega)
  go_wp2_with fail
  refine (markedPairs_none none 0 w5).mono ?_
  rintro e w' ⟨rfl, rfl⟩
  go_wp2_with fail
  refine (markedPairs_none none 0 w5).mono ?_
  rintro e w' ⟨rfl, rfl⟩
  clear hx
  go_wp2_with fail
  go_ret
  exact ⟨rfl, HB5.out⟩
end Go.Proofs.Ytgoekobolomppaa
