/-
  The statements' book: Apart, of a book that keeps lists of ints alone.
-/
import Derived.Test.YtehpecjnldbaiaaBookMarked
namespace Go.Proofs.Ytehpecjnldbaiaa
open Go.RowKit

set_option maxRecDepth 100000 in
set_option maxHeartbeats 4000000 in
theorem apartInts_any (b B m : Nat) (F V U : Nat → Value) (L : Nat → List Int) (w : World) (h : KeptInts w B b F m V U L) (hF : ∀ k, k ≠ 2 → k ≠ 3 → F k = .slice none 0 0) (hm : m ≤ 250) (hL : ∀ i, i < m → (L i).length ≤ 1000000) :
    Calls Try.prog 21 #[.pointer (some ⟨b, 0, none⟩)] w fun e w' => e = .returned (.bool true) ∧ Below B w w' := by
  have HK := Lib.hid h
  have HF := Lib.hid hF
  have HL := Lib.hid hL
  have cells : ∀ (w' : World), BookAt w' b F → ∀ (k : Nat), k < 20 → k ≠ 2 → k ≠ 3 → w'.cell? ⟨b, k, none⟩ = some (.slice none 0 0) := fun w' hB k hk h2 h3 => by rw [hB.cell hk, hF k h2 h3]
  have HC := Lib.hid cells
  clear h hF hL cells
  go_enter Try.func21, Try.ntmps21
  go_wp2_with fail
  refine (stillTexts_none b none 0 w (HC.out _ HK.out.1 _ (by omega) (by omega) (by omega))).mono ?_
  rintro e w' ⟨rfl, rfl⟩
  go_wp2_with fail
  refine (stillInts_any b B m F V U L w HK.out hm HL.out).mono ?_
  rintro e w1 ⟨rfl, hd⟩
  have HB1 := Lib.hid (HK.out.drew hd).1
  go_wp2_with fail
  refine (stillAccounts_none b none 0 w1 (HC.out _ HB1.out _ (by omega) (by omega) (by omega))).mono ?_
  rintro e w' ⟨rfl, rfl⟩
  go_wp2_with fail
  refine (stillBalances_none b none 0 w1 (HC.out _ HB1.out _ (by omega) (by omega) (by omega))).mono ?_
  rintro e w' ⟨rfl, rfl⟩
  go_wp2_with fail
  refine (stillLines_none b none 0 w1 (HC.out _ HB1.out _ (by omega) (by omega) (by omega))).mono ?_
  rintro e w' ⟨rfl, rfl⟩
  go_wp2_with fail
  refine (stillJournals_none b none 0 w1 (HC.out _ HB1.out _ (by omega) (by omega) (by omega))).mono ?_
  rintro e w' ⟨rfl, rfl⟩
  go_wp2_with fail
  refine (stillChanges_none b none 0 w1 (HC.out _ HB1.out _ (by omega) (by omega) (by omega))).mono ?_
  rintro e w' ⟨rfl, rfl⟩
  go_wp2_with fail
  refine (stillConflicts_none b none 0 w1 (HC.out _ HB1.out _ (by omega) (by omega) (by omega))).mono ?_
  rintro e w' ⟨rfl, rfl⟩
  go_wp2_with fail
  refine (stillTrios_none b none 0 w1 (HC.out _ HB1.out _ (by omega) (by omega) (by omega))).mono ?_
  rintro e w' ⟨rfl, rfl⟩
  go_wp2_with fail
  refine (stillPairs_none b none 0 w1 (HC.out _ HB1.out _ (by omega) (by omega) (by omega))).mono ?_
  rintro e w' ⟨rfl, rfl⟩
  go_wp2_with fail
  refine (putJournals_none b none 0 w1 (HC.out _ HB1.out _ (by omega) (by omega) (by omega))).mono ?_
  rintro e w' ⟨rfl, rfl⟩
  go_wp2_with fail
  refine (putChanges_none b none 0 w1 (HC.out _ HB1.out _ (by omega) (by omega) (by omega))).mono ?_
  rintro e w' ⟨rfl, rfl⟩
  go_wp2_with fail
  refine (putTexts_none b none 0 w1 (HC.out _ HB1.out _ (by omega) (by omega) (by omega))).mono ?_
  rintro e w' ⟨rfl, rfl⟩
  go_wp2_with fail
  refine (putInts_any b B m F V L w1 (HK.out.drew hd).lists hm HL.out).mono ?_
  rintro e w2 ⟨rfl, hk2, hb2⟩
  have HK2 := Lib.hid hk2
  have HBE2 := Lib.hid hb2
  clear hk2 hb2
  go_wp2_with fail
  refine (putAccounts_none b none 0 w2 (HC.out _ HK2.out.1 _ (by omega) (by omega) (by omega))).mono ?_
  rintro e w' ⟨rfl, rfl⟩
  go_wp2_with fail
  refine (putBalances_none b none 0 w2 (HC.out _ HK2.out.1 _ (by omega) (by omega) (by omega))).mono ?_
  rintro e w' ⟨rfl, rfl⟩
  go_wp2_with fail
  refine (putLines_none b none 0 w2 (HC.out _ HK2.out.1 _ (by omega) (by omega) (by omega))).mono ?_
  rintro e w' ⟨rfl, rfl⟩
  go_wp2_with fail
  refine (putConflicts_none b none 0 w2 (HC.out _ HK2.out.1 _ (by omega) (by omega) (by omega))).mono ?_
  rintro e w' ⟨rfl, rfl⟩
  go_wp2_with fail
  refine (putTrios_none b none 0 w2 (HC.out _ HK2.out.1 _ (by omega) (by omega) (by omega))).mono ?_
  rintro e w' ⟨rfl, rfl⟩
  go_wp2_with fail
  refine (putPairs_none b none 0 w2 (HC.out _ HK2.out.1 _ (by omega) (by omega) (by omega))).mono ?_
  rintro e w' ⟨rfl, rfl⟩
  go_wp2_with fail
  refine (growTexts_none b none 0 w2 (HC.out _ HK2.out.1 _ (by omega) (by omega) (by omega))).mono ?_
  rintro e w' ⟨rfl, rfl⟩
  go_wp2_with fail
  refine (growInts_any b B m F V (fun j => (L j).length) w2 HK2.out hm HL.out).mono ?_
  rintro e w3 ⟨A3, c3, G, rfl, hg3⟩
  have HG3 := Lib.hid hg3
  clear hg3
  go_wp2_with fail
  refine (growAccounts_none b none 0 w3 (HC.out _ HG3.out.book _ (by omega) (by omega) (by omega))).mono ?_
  rintro e w' ⟨rfl, rfl⟩
  go_wp2_with fail
  refine (growBalances_none b none 0 w3 (HC.out _ HG3.out.book _ (by omega) (by omega) (by omega))).mono ?_
  rintro e w' ⟨rfl, rfl⟩
  go_wp2_with fail
  refine (growLines_none b none 0 w3 (HC.out _ HG3.out.book _ (by omega) (by omega) (by omega))).mono ?_
  rintro e w' ⟨rfl, rfl⟩
  go_wp2_with fail
  refine (growJournals_none b none 0 w3 (HC.out _ HG3.out.book _ (by omega) (by omega) (by omega))).mono ?_
  rintro e w' ⟨rfl, rfl⟩
  go_wp2_with fail
  refine (growChanges_none b none 0 w3 (HC.out _ HG3.out.book _ (by omega) (by omega) (by omega))).mono ?_
  rintro e w' ⟨rfl, rfl⟩
  go_wp2_with fail
  refine (growConflicts_none b none 0 w3 (HC.out _ HG3.out.book _ (by omega) (by omega) (by omega))).mono ?_
  rintro e w' ⟨rfl, rfl⟩
  go_wp2_with fail
  refine (growTrios_none b none 0 w3 (HC.out _ HG3.out.book _ (by omega) (by omega) (by omega))).mono ?_
  rintro e w' ⟨rfl, rfl⟩
  go_wp2_with fail
  refine (growPairs_none b none 0 w3 (HC.out _ HG3.out.book _ (by omega) (by omega) (by omega))).mono ?_
  rintro e w' ⟨rfl, rfl⟩
  go_wp2_with fail
  have hx0 := HC.out _ HG3.out.book 0 (by omega) (by omega) (by omega)
  refine (markedTexts_none none 0 w3).mono ?_
  rintro e w' ⟨rfl, rfl⟩
  go_wp2_with fail
  refine (markedTexts_none none 0 w3).mono ?_
  rintro e w' ⟨rfl, rfl⟩
  clear hx0
  go_wp2_with fail
  refine (markedInts_any A3 c3 B m G (fun j => (L j).length + 72) w3 HG3.out.out HG3.out.grown hm (fun i hi => by have := HL.out i hi; omega)).mono ?_
  rintro e w4 ⟨rfl, hb4⟩
  have HG4 := Lib.hid (HG3.out.more hb4)
  have HB4 := Lib.hid hb4
  obtain ⟨A2, c2, e2⟩ := own_form HG4.out.tab
  have hx2 : w4.cell? ⟨b, 2, none⟩ = some (.slice A2 m c2) := by rw [← e2]; exact HG4.out.book.cell (by omega)
  have HT : Hid (Table w4 B (.slice A2 m c2) m V) := by rw [← e2]; exact HG4.out.tab
  clear hb4 e2
  go_wp2_with fail
  refine (markedInts_any A2 c2 B m V (fun j => (L j).length) w4 HT.out (fun j hj => by have := HG4.out.lists.1 j hj; simpa [markL_len] using this) hm (fun i hi => by have := HL.out i hi; omega)).mono ?_
  rintro e w5 ⟨rfl, hb5⟩
  have HG5 := Lib.hid (HG4.out.more hb5)
  clear hx2 hb5
  go_wp2_with fail
  have hx4 := HC.out _ HG5.out.book 4 (by omega) (by omega) (by omega)
  refine (markedAccounts_none none 0 w5).mono ?_
  rintro e w' ⟨rfl, rfl⟩
  go_wp2_with fail
  refine (markedAccounts_none none 0 w5).mono ?_
  rintro e w' ⟨rfl, rfl⟩
  clear hx4
  go_wp2_with fail
  have hx6 := HC.out _ HG5.out.book 6 (by omega) (by omega) (by omega)
  refine (markedBalances_none none 0 w5).mono ?_
  rintro e w' ⟨rfl, rfl⟩
  go_wp2_with fail
  refine (markedBalances_none none 0 w5).mono ?_
  rintro e w' ⟨rfl, rfl⟩
  clear hx6
  go_wp2_with fail
  have hx8 := HC.out _ HG5.out.book 8 (by omega) (by omega) (by omega)
  refine (markedLines_none none 0 w5).mono ?_
  rintro e w' ⟨rfl, rfl⟩
  go_wp2_with fail
  refine (markedLines_none none 0 w5).mono ?_
  rintro e w' ⟨rfl, rfl⟩
  clear hx8
  go_wp2_with fail
  have hx10 := HC.out _ HG5.out.book 10 (by omega) (by omega) (by omega)
  refine (markedJournals_none none 0 w5).mono ?_
  rintro e w' ⟨rfl, rfl⟩
  go_wp2_with fail
  refine (markedJournals_none none 0 w5).mono ?_
  rintro e w' ⟨rfl, rfl⟩
  clear hx10
  go_wp2_with fail
  have hx12 := HC.out _ HG5.out.book 12 (by omega) (by omega) (by omega)
  refine (markedChanges_none none 0 w5).mono ?_
  rintro e w' ⟨rfl, rfl⟩
  go_wp2_with fail
  refine (markedChanges_none none 0 w5).mono ?_
  rintro e w' ⟨rfl, rfl⟩
  clear hx12
  go_wp2_with fail
  have hx14 := HC.out _ HG5.out.book 14 (by omega) (by omega) (by omega)
  refine (markedConflicts_none none 0 w5).mono ?_
  rintro e w' ⟨rfl, rfl⟩
  go_wp2_with fail
  refine (markedConflicts_none none 0 w5).mono ?_
  rintro e w' ⟨rfl, rfl⟩
  clear hx14
  go_wp2_with fail
  have hx16 := HC.out _ HG5.out.book 16 (by omega) (by omega) (by omega)
  refine (markedTrios_none none 0 w5).mono ?_
  rintro e w' ⟨rfl, rfl⟩
  go_wp2_with fail
  refine (markedTrios_none none 0 w5).mono ?_
  rintro e w' ⟨rfl, rfl⟩
  clear hx16
  go_wp2_with fail
  have hx18 := HC.out _ HG5.out.book 18 (by omega) (by omega) (by omega)
  refine (markedPairs_none none 0 w5).mono ?_
  rintro e w' ⟨rfl, rfl⟩
  go_wp2_with fail
  refine (markedPairs_none none 0 w5).mono ?_
  rintro e w' ⟨rfl, rfl⟩
  clear hx18
  go_wp2_with fail
  go_ret
  exact ⟨rfl, (Drew.below hd).trans (HBE2.out.trans HG5.out.below)⟩
end Go.Proofs.Ytehpecjnldbaiaa
