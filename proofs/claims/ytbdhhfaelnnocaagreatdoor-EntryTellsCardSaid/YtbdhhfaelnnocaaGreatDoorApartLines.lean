/-
  The book's Apart, where it keeps lines alone.
-/
import Derived.Test.YtbdhhfaelnnocaaGreatDoorBookEmpty
import Derived.Test.YtbdhhfaelnnocaaGreatDoorLinsBook
namespace Go.Proofs.YtbdhhfaelnnocaaGreatDoor
open Go.RowKit

set_option maxRecDepth 100000 in
set_option maxHeartbeats 4000000 in
theorem apartLines_any (b B : Nat) (F : Nat → Value) (w : World) (mLines : Nat) (VLines ULines : Nat → Value) (LLines : Nat → List Lin) (hLines : kLines.Kept w B b F mLines VLines ULines (fun i => (LLines i).length) (fun i => lins (LLines i))) (hmLines : mLines ≤ 250) (hlLines : ∀ i, i < mLines → (LLines i).length ≤ 900000) (hF : ∀ k, k < 20 → k ≠ 8 → k ≠ 9 → F k = .slice none 0 0) :
    Calls Tryz.prog 17 #[.pointer (some ⟨b, 0, none⟩)] w fun e w' => e = .returned (.bool true) ∧ Below B w w' := by
  have HKLines := Lib.hid hLines; have HLLines : Hid (∀ i, i < mLines → (LLines i).length ≤ 1000000) := fun i hi => by have := hlLines i hi; omega
  have HMLines : Hid (∀ i, i < mLines → (LLines i).length + 72 ≤ 1000000) := fun i hi => by have := hlLines i hi; omega
  have HLOW := Lib.hid HKLines.out.2.1; have HBL : Hid (b < w.heap.size) := HKLines.out.1.lt
  have HC : Hid (∀ (w' : World), BookAt w' b F → ∀ (k : Nat), k < 20 → k ≠ 8 → k ≠ 9 → w'.cell? ⟨b, k, none⟩ = some (.slice none 0 0)) := fun w' hB k hk n8 n9 => by rw [hB.cell hk, hF k hk n8 n9]
  clear hF hLines hlLines
  go_enter Tryz.func17, Tryz.ntmps17
  have HB0 : Hid (Below B w w) := Below.refl _ _
  go_wp2_with fail
  refine (stillTexts_none b none 0 w (HC.out _ HKLines.out.1 0 (by omega) (by omega) (by omega))).mono ?_
  rintro e w' ⟨rfl, rfl⟩
  go_wp2_with fail
  refine (stillInts_none b none 0 w (HC.out _ HKLines.out.1 2 (by omega) (by omega) (by omega))).mono ?_
  rintro e w' ⟨rfl, rfl⟩
  go_wp2_with fail
  refine (stillAccounts_none b none 0 w (HC.out _ HKLines.out.1 4 (by omega) (by omega) (by omega))).mono ?_
  rintro e w' ⟨rfl, rfl⟩
  go_wp2_with fail
  refine (stillBalances_none b none 0 w (HC.out _ HKLines.out.1 6 (by omega) (by omega) (by omega))).mono ?_
  rintro e w' ⟨rfl, rfl⟩
  go_wp2_with fail
  refine (stillLines_any b B mLines F VLines ULines LLines w HKLines.out hmLines HLLines.out).mono ?_
  rintro e w1 ⟨rfl, hd⟩
  replace HKLines := Lib.hid (HKLines.out.drew hd)
  have HB1 : Hid (Below B w w1) := HB0.out.trans hd.below
  clear hd HB0
  go_wp2_with fail
  refine (stillJournals_none b none 0 w1 (HC.out _ HKLines.out.1 10 (by omega) (by omega) (by omega))).mono ?_
  rintro e w' ⟨rfl, rfl⟩
  go_wp2_with fail
  refine (stillChanges_none b none 0 w1 (HC.out _ HKLines.out.1 12 (by omega) (by omega) (by omega))).mono ?_
  rintro e w' ⟨rfl, rfl⟩
  go_wp2_with fail
  refine (stillConflicts_none b none 0 w1 (HC.out _ HKLines.out.1 14 (by omega) (by omega) (by omega))).mono ?_
  rintro e w' ⟨rfl, rfl⟩
  go_wp2_with fail
  refine (stillTrios_none b none 0 w1 (HC.out _ HKLines.out.1 16 (by omega) (by omega) (by omega))).mono ?_
  rintro e w' ⟨rfl, rfl⟩
  go_wp2_with fail
  refine (stillPairs_none b none 0 w1 (HC.out _ HKLines.out.1 18 (by omega) (by omega) (by omega))).mono ?_
  rintro e w' ⟨rfl, rfl⟩
  have HVLines := Lib.hid HKLines.out.lists
  clear HKLines
  go_wp2_with fail
  refine (putJournals_none b none 0 w1 (HC.out _ HVLines.out.1 10 (by omega) (by omega) (by omega))).mono ?_
  rintro e w' ⟨rfl, rfl⟩
  go_wp2_with fail
  refine (putChanges_none b none 0 w1 (HC.out _ HVLines.out.1 12 (by omega) (by omega) (by omega))).mono ?_
  rintro e w' ⟨rfl, rfl⟩
  go_wp2_with fail
  refine (putTexts_none b none 0 w1 (HC.out _ HVLines.out.1 0 (by omega) (by omega) (by omega))).mono ?_
  rintro e w' ⟨rfl, rfl⟩
  go_wp2_with fail
  refine (putInts_none b none 0 w1 (HC.out _ HVLines.out.1 2 (by omega) (by omega) (by omega))).mono ?_
  rintro e w' ⟨rfl, rfl⟩
  go_wp2_with fail
  refine (putAccounts_none b none 0 w1 (HC.out _ HVLines.out.1 4 (by omega) (by omega) (by omega))).mono ?_
  rintro e w' ⟨rfl, rfl⟩
  go_wp2_with fail
  refine (putBalances_none b none 0 w1 (HC.out _ HVLines.out.1 6 (by omega) (by omega) (by omega))).mono ?_
  rintro e w' ⟨rfl, rfl⟩
  go_wp2_with fail
  refine (putLines_any b B mLines F VLines _ _ w1 HVLines.out hmLines HLLines.out).mono ?_
  rintro e w2 ⟨rfl, hv, hbe, hon⟩
  replace HVLines := Lib.hid hv
  have HB2 : Hid (Below B w w2) := HB1.out.trans hbe
  clear hv hbe hon HB1
  go_wp2_with fail
  refine (putConflicts_none b none 0 w2 (HC.out _ HVLines.out.1 14 (by omega) (by omega) (by omega))).mono ?_
  rintro e w' ⟨rfl, rfl⟩
  go_wp2_with fail
  refine (putTrios_none b none 0 w2 (HC.out _ HVLines.out.1 16 (by omega) (by omega) (by omega))).mono ?_
  rintro e w' ⟨rfl, rfl⟩
  go_wp2_with fail
  refine (putPairs_none b none 0 w2 (HC.out _ HVLines.out.1 18 (by omega) (by omega) (by omega))).mono ?_
  rintro e w' ⟨rfl, rfl⟩
  go_wp2_with fail
  refine (growTexts_none b none 0 w2 (HC.out _ HVLines.out.1 0 (by omega) (by omega) (by omega))).mono ?_
  rintro e w' ⟨rfl, rfl⟩
  go_wp2_with fail
  refine (growInts_none b none 0 w2 (HC.out _ HVLines.out.1 2 (by omega) (by omega) (by omega))).mono ?_
  rintro e w' ⟨rfl, rfl⟩
  go_wp2_with fail
  refine (growAccounts_none b none 0 w2 (HC.out _ HVLines.out.1 4 (by omega) (by omega) (by omega))).mono ?_
  rintro e w' ⟨rfl, rfl⟩
  go_wp2_with fail
  refine (growBalances_none b none 0 w2 (HC.out _ HVLines.out.1 6 (by omega) (by omega) (by omega))).mono ?_
  rintro e w' ⟨rfl, rfl⟩
  go_wp2_with fail
  refine (growLines_any b B mLines F VLines _ w2 HVLines.out hmLines HLLines.out).mono ?_
  rintro e w3 ⟨ALines, cLines, GLines, rfl, hg⟩
  have HGLines := Lib.hid hg.done
  clear HVLines
  have HB3 : Hid (Below B w w3) := HB2.out.trans hg.below
  clear hg HB2
  go_wp2_with fail
  refine (growJournals_none b none 0 w3 (HC.out _ HGLines.out.book 10 (by omega) (by omega) (by omega))).mono ?_
  rintro e w' ⟨rfl, rfl⟩
  go_wp2_with fail
  refine (growChanges_none b none 0 w3 (HC.out _ HGLines.out.book 12 (by omega) (by omega) (by omega))).mono ?_
  rintro e w' ⟨rfl, rfl⟩
  go_wp2_with fail
  refine (growConflicts_none b none 0 w3 (HC.out _ HGLines.out.book 14 (by omega) (by omega) (by omega))).mono ?_
  rintro e w' ⟨rfl, rfl⟩
  go_wp2_with fail
  refine (growTrios_none b none 0 w3 (HC.out _ HGLines.out.book 16 (by omega) (by omega) (by omega))).mono ?_
  rintro e w' ⟨rfl, rfl⟩
  go_wp2_with fail
  refine (growPairs_none b none 0 w3 (HC.out _ HGLines.out.book 18 (by omega) (by omega) (by omega))).mono ?_
  rintro e w' ⟨rfl, rfl⟩
  have hx := HC.out _ HGLines.out.book 0 (by omega) (by omega) (by omega)
  go_wp2_with fail
  refine (markedTexts_none none 0 w3).mono ?_
  rintro e w' ⟨rfl, rfl⟩
  go_wp2_with fail
  refine (markedTexts_none none 0 w3).mono ?_
  rintro e w' ⟨rfl, rfl⟩
  clear hx
  have hx := HC.out _ HGLines.out.book 2 (by omega) (by omega) (by omega)
  go_wp2_with fail
  refine (markedInts_none none 0 w3).mono ?_
  rintro e w' ⟨rfl, rfl⟩
  go_wp2_with fail
  refine (markedInts_none none 0 w3).mono ?_
  rintro e w' ⟨rfl, rfl⟩
  clear hx
  have hx := HC.out _ HGLines.out.book 4 (by omega) (by omega) (by omega)
  go_wp2_with fail
  refine (markedAccounts_none none 0 w3).mono ?_
  rintro e w' ⟨rfl, rfl⟩
  go_wp2_with fail
  refine (markedAccounts_none none 0 w3).mono ?_
  rintro e w' ⟨rfl, rfl⟩
  clear hx
  have hx := HC.out _ HGLines.out.book 6 (by omega) (by omega) (by omega)
  go_wp2_with fail
  refine (markedBalances_none none 0 w3).mono ?_
  rintro e w' ⟨rfl, rfl⟩
  go_wp2_with fail
  refine (markedBalances_none none 0 w3).mono ?_
  rintro e w' ⟨rfl, rfl⟩
  clear hx
  go_wp2_with fail
  refine (markedLines_any ALines cLines B mLines GLines (fun j => (LLines j).length + 72) w3 HGLines.out.out HGLines.out.grown hmLines HMLines.out).mono ?_
  rintro e w4 ⟨rfl, hb⟩
  replace HGLines := Lib.hid (HGLines.out.below hb)
  have HB4 : Hid (Below B w w4) := HB3.out.trans (hb.mono (Nat.le_trans (Nat.le_of_lt (Nat.lt_of_le_of_lt HLOW.out (HBL.out))) HB3.out.size))
  clear hb HB3
  obtain ⟨A2, c2, e2⟩ := own_form HGLines.out.tab
  have hx2 : w4.cell? ⟨b, 8, none⟩ = some (.slice A2 mLines c2) := (HGLines.out.book.cell (i := 8) (by omega)).trans (congrArg some e2)
  have HT : Hid (kLines.Tab w4 B (.slice A2 mLines c2) mLines VLines) := by have := HGLines.out.tab; rw [e2] at this; exact this
  clear e2
  go_wp2_with fail
  refine (markedLines_any A2 c2 B mLines VLines (fun j => (LLines j).length) w4 HT.out HGLines.out.lists.1 hmLines HLLines.out).mono ?_
  rintro e w5 ⟨rfl, hb⟩
  replace HGLines := Lib.hid (HGLines.out.below hb)
  have HB5 : Hid (Below B w w5) := HB4.out.trans (hb.mono (Nat.le_trans (Nat.le_of_lt (Nat.lt_of_le_of_lt HLOW.out HBL.out)) HB4.out.size))
  clear hb HB4 hx2 HT
  have hx := HC.out _ HGLines.out.book 10 (by omega) (by omega) (by omega)
  go_wp2_with fail
  refine (markedJournals_none none 0 w5).mono ?_
  rintro e w' ⟨rfl, rfl⟩
  go_wp2_with fail
  refine (markedJournals_none none 0 w5).mono ?_
  rintro e w' ⟨rfl, rfl⟩
  clear hx
  have hx := HC.out _ HGLines.out.book 12 (by omega) (by omega) (by omega)
  go_wp2_with fail
  refine (markedChanges_none none 0 w5).mono ?_
  rintro e w' ⟨rfl, rfl⟩
  go_wp2_with fail
  refine (markedChanges_none none 0 w5).mono ?_
  rintro e w' ⟨rfl, rfl⟩
  clear hx
  have hx := HC.out _ HGLines.out.book 14 (by omega) (by omega) (by omega)
  go_wp2_with fail
  refine (markedConflicts_none none 0 w5).mono ?_
  rintro e w' ⟨rfl, rfl⟩
  go_wp2_with fail
  refine (markedConflicts_none none 0 w5).mono ?_
  rintro e w' ⟨rfl, rfl⟩
  clear hx
  have hx := HC.out _ HGLines.out.book 16 (by omega) (by omega) (by omega)
  go_wp2_with fail
  refine (markedTrios_none none 0 w5).mono ?_
  rintro e w' ⟨rfl, rfl⟩
  go_wp2_with fail
  refine (markedTrios_none none 0 w5).mono ?_
  rintro e w' ⟨rfl, rfl⟩
  clear hx
  have hx := HC.out _ HGLines.out.book 18 (by omega) (by omega) (by omega)
  go_wp2_with fail
  refine (markedPairs_none none 0 w5).mono ?_
  rintro e w' ⟨rfl, rfl⟩
  go_wp2_with fail
  refine (markedPairs_none none 0 w5).mono ?_
  rintro e w' ⟨rfl, rfl⟩
  clear hx
  go_wp2_with fail
  go_ret
  exact ⟨rfl, HB5.out⟩
end Go.Proofs.YtbdhhfaelnnocaaGreatDoor
