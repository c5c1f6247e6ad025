/-
  Several texts, one behind the other: what each holds stands ahead of it.
-/
import Derived.Test.YtjlokkjbdgcooaaGreatBookEmpty
import Derived.Test.YtjlokkjbdgcooaaGreatBalsBook
import Derived.Test.YtjlokkjbdgcooaaGreatMany38
import Derived.Test.YtjlokkjbdgcooaaGreatMany37

/-
  The book's Apart, where it keeps balances, pairs alone.
-/
namespace Go.Proofs.YtjlokkjbdgcooaaGreat
open Go.RowKit

set_option maxRecDepth 100000 in
set_option maxHeartbeats 4000000 in
theorem apartBalancesPairs_any (b B : Nat) (F : Nat → Value) (w : World) (mBalances : Nat) (VBalances UBalances : Nat → Value) (LBalances : Nat → List Bal) (hBalances : kBalances.Kept w B b F mBalances VBalances UBalances (fun i => (LBalances i).length) (fun i => bals (LBalances i))) (hmBalances : mBalances ≤ 250) (hlBalances : ∀ i, i < mBalances → (LBalances i).length ≤ 900000) (mPairs : Nat) (VPairs UPairs : Nat → Value) (LPairs : Nat → List Pair) (hPairs : kPairs.Kept w B b F mPairs VPairs UPairs (fun i => (LPairs i).length) (fun i => pairs (LPairs i))) (hmPairs : mPairs ≤ 250) (hlPairs : ∀ i, i < mPairs → (LPairs i).length ≤ 900000) (hF : ∀ k, k < 20 → k ≠ 6 → k ≠ 7 → k ≠ 18 → k ≠ 19 → F k = .slice none 0 0) :
    Calls Tryz.prog 23 #[.pointer (some ⟨b, 0, none⟩)] w fun e w' => e = .returned (.bool true) ∧ Below B w w' := by
  have HKBalances := Lib.hid hBalances; have HLBalances : Hid (∀ i, i < mBalances → (LBalances i).length ≤ 1000000) := fun i hi => by have := hlBalances i hi; omega
  have HMBalances : Hid (∀ i, i < mBalances → (LBalances i).length + 72 ≤ 1000000) := fun i hi => by have := hlBalances i hi; omega
  have HKPairs := Lib.hid hPairs; have HLPairs : Hid (∀ i, i < mPairs → (LPairs i).length ≤ 1000000) := fun i hi => by have := hlPairs i hi; omega
  have HMPairs : Hid (∀ i, i < mPairs → (LPairs i).length + 72 ≤ 1000000) := fun i hi => by have := hlPairs i hi; omega
  have HLOW := Lib.hid HKBalances.out.2.1; have HBL : Hid (b < w.heap.size) := HKBalances.out.1.lt
  have HC : Hid (∀ (w' : World), BookAt w' b F → ∀ (k : Nat), k < 20 → k ≠ 6 → k ≠ 7 → k ≠ 18 → k ≠ 19 → w'.cell? ⟨b, k, none⟩ = some (.slice none 0 0)) := fun w' hB k hk n6 n7 n18 n19 => by rw [hB.cell hk, hF k hk n6 n7 n18 n19]
  clear hF hBalances hlBalances hPairs hlPairs
  go_enter Tryz.func23, Tryz.ntmps23
  have HB0 : Hid (Below B w w) := Below.refl _ _
  go_wp2_with fail
  refine (stillTexts_none b none 0 w (HC.out _ HKBalances.out.1 0 (by omega) (by omega) (by omega) (by omega) (by omega))).mono ?_
  rintro e w' ⟨rfl, rfl⟩
  go_wp2_with fail
  refine (stillInts_none b none 0 w (HC.out _ HKBalances.out.1 2 (by omega) (by omega) (by omega) (by omega) (by omega))).mono ?_
  rintro e w' ⟨rfl, rfl⟩
  go_wp2_with fail
  refine (stillAccounts_none b none 0 w (HC.out _ HKBalances.out.1 4 (by omega) (by omega) (by omega) (by omega) (by omega))).mono ?_
  rintro e w' ⟨rfl, rfl⟩
  go_wp2_with fail
  refine (stillBalances_any b B mBalances F VBalances UBalances LBalances w HKBalances.out hmBalances HLBalances.out).mono ?_
  rintro e w1 ⟨rfl, hd⟩
  replace HKBalances := Lib.hid (HKBalances.out.drew hd)
  replace HKPairs := Lib.hid (HKPairs.out.drew hd)
  have HB1 : Hid (Below B w w1) := HB0.out.trans hd.below
  clear hd HB0
  go_wp2_with fail
  refine (stillLines_none b none 0 w1 (HC.out _ HKBalances.out.1 8 (by omega) (by omega) (by omega) (by omega) (by omega))).mono ?_
  rintro e w' ⟨rfl, rfl⟩
  go_wp2_with fail
  refine (stillJournals_none b none 0 w1 (HC.out _ HKBalances.out.1 10 (by omega) (by omega) (by omega) (by omega) (by omega))).mono ?_
  rintro e w' ⟨rfl, rfl⟩
  go_wp2_with fail
  refine (stillChanges_none b none 0 w1 (HC.out _ HKBalances.out.1 12 (by omega) (by omega) (by omega) (by omega) (by omega))).mono ?_
  rintro e w' ⟨rfl, rfl⟩
  go_wp2_with fail
  refine (stillConflicts_none b none 0 w1 (HC.out _ HKBalances.out.1 14 (by omega) (by omega) (by omega) (by omega) (by omega))).mono ?_
  rintro e w' ⟨rfl, rfl⟩
  go_wp2_with fail
  refine (stillTrios_none b none 0 w1 (HC.out _ HKBalances.out.1 16 (by omega) (by omega) (by omega) (by omega) (by omega))).mono ?_
  rintro e w' ⟨rfl, rfl⟩
  go_wp2_with fail
  refine (stillPairs_any b B mPairs F VPairs UPairs LPairs w1 HKPairs.out hmPairs HLPairs.out).mono ?_
  rintro e w2 ⟨rfl, hd⟩
  replace HKBalances := Lib.hid (HKBalances.out.drew hd)
  replace HKPairs := Lib.hid (HKPairs.out.drew hd)
  have HB2 : Hid (Below B w w2) := HB1.out.trans hd.below
  clear hd HB1
  have HVBalances := Lib.hid HKBalances.out.lists
  clear HKBalances
  have HVPairs := Lib.hid HKPairs.out.lists
  clear HKPairs
  go_wp2_with fail
  refine (putJournals_none b none 0 w2 (HC.out _ HVBalances.out.1 10 (by omega) (by omega) (by omega) (by omega) (by omega))).mono ?_
  rintro e w' ⟨rfl, rfl⟩
  go_wp2_with fail
  refine (putChanges_none b none 0 w2 (HC.out _ HVBalances.out.1 12 (by omega) (by omega) (by omega) (by omega) (by omega))).mono ?_
  rintro e w' ⟨rfl, rfl⟩
  go_wp2_with fail
  refine (putTexts_none b none 0 w2 (HC.out _ HVBalances.out.1 0 (by omega) (by omega) (by omega) (by omega) (by omega))).mono ?_
  rintro e w' ⟨rfl, rfl⟩
  go_wp2_with fail
  refine (putInts_none b none 0 w2 (HC.out _ HVBalances.out.1 2 (by omega) (by omega) (by omega) (by omega) (by omega))).mono ?_
  rintro e w' ⟨rfl, rfl⟩
  go_wp2_with fail
  refine (putAccounts_none b none 0 w2 (HC.out _ HVBalances.out.1 4 (by omega) (by omega) (by omega) (by omega) (by omega))).mono ?_
  rintro e w' ⟨rfl, rfl⟩
  go_wp2_with fail
  refine (putBalances_any b B mBalances F VBalances _ _ w2 HVBalances.out hmBalances HLBalances.out).mono ?_
  rintro e w3 ⟨rfl, hv, hbe, hon⟩
  replace HVBalances := Lib.hid hv
  replace HVPairs := Lib.hid (HVPairs.out.other hon (by decide) (by decide) (by decide))
  have HB3 : Hid (Below B w w3) := HB2.out.trans hbe
  clear hv hbe hon HB2
  go_wp2_with fail
  refine (putLines_none b none 0 w3 (HC.out _ HVBalances.out.1 8 (by omega) (by omega) (by omega) (by omega) (by omega))).mono ?_
  rintro e w' ⟨rfl, rfl⟩
  go_wp2_with fail
  refine (putConflicts_none b none 0 w3 (HC.out _ HVBalances.out.1 14 (by omega) (by omega) (by omega) (by omega) (by omega))).mono ?_
  rintro e w' ⟨rfl, rfl⟩
  go_wp2_with fail
  refine (putTrios_none b none 0 w3 (HC.out _ HVBalances.out.1 16 (by omega) (by omega) (by omega) (by omega) (by omega))).mono ?_
  rintro e w' ⟨rfl, rfl⟩
  go_wp2_with fail
  refine (putPairs_any b B mPairs F VPairs _ _ w3 HVPairs.out hmPairs HLPairs.out).mono ?_
  rintro e w4 ⟨rfl, hv, hbe, hon⟩
  replace HVPairs := Lib.hid hv
  replace HVBalances := Lib.hid (HVBalances.out.other hon (by decide) (by decide) (by decide))
  have HB4 : Hid (Below B w w4) := HB3.out.trans hbe
  clear hv hbe hon HB3
  go_wp2_with fail
  refine (growTexts_none b none 0 w4 (HC.out _ HVBalances.out.1 0 (by omega) (by omega) (by omega) (by omega) (by omega))).mono ?_
  rintro e w' ⟨rfl, rfl⟩
  go_wp2_with fail
  refine (growInts_none b none 0 w4 (HC.out _ HVBalances.out.1 2 (by omega) (by omega) (by omega) (by omega) (by omega))).mono ?_
  rintro e w' ⟨rfl, rfl⟩
  go_wp2_with fail
  refine (growAccounts_none b none 0 w4 (HC.out _ HVBalances.out.1 4 (by omega) (by omega) (by omega) (by omega) (by omega))).mono ?_
  rintro e w' ⟨rfl, rfl⟩
  go_wp2_with fail
  refine (growBalances_any b B mBalances F VBalances _ w4 HVBalances.out hmBalances HLBalances.out).mono ?_
  rintro e w5 ⟨ABalances, cBalances, GBalances, rfl, hg⟩
  have HGBalances := Lib.hid hg.done
  clear HVBalances
  replace HVPairs := Lib.hid (HVPairs.out.other hg.only (by decide) (by decide) (by decide))
  have HB5 : Hid (Below B w w5) := HB4.out.trans hg.below
  clear hg HB4
  go_wp2_with fail
  refine (growLines_none b none 0 w5 (HC.out _ HGBalances.out.book 8 (by omega) (by omega) (by omega) (by omega) (by omega))).mono ?_
  rintro e w' ⟨rfl, rfl⟩
  go_wp2_with fail
  refine (growJournals_none b none 0 w5 (HC.out _ HGBalances.out.book 10 (by omega) (by omega) (by omega) (by omega) (by omega))).mono ?_
  rintro e w' ⟨rfl, rfl⟩
  go_wp2_with fail
  refine (growChanges_none b none 0 w5 (HC.out _ HGBalances.out.book 12 (by omega) (by omega) (by omega) (by omega) (by omega))).mono ?_
  rintro e w' ⟨rfl, rfl⟩
  go_wp2_with fail
  refine (growConflicts_none b none 0 w5 (HC.out _ HGBalances.out.book 14 (by omega) (by omega) (by omega) (by omega) (by omega))).mono ?_
  rintro e w' ⟨rfl, rfl⟩
  go_wp2_with fail
  refine (growTrios_none b none 0 w5 (HC.out _ HGBalances.out.book 16 (by omega) (by omega) (by omega) (by omega) (by omega))).mono ?_
  rintro e w' ⟨rfl, rfl⟩
  go_wp2_with fail
  refine (growPairs_any b B mPairs F VPairs _ w5 HVPairs.out hmPairs HLPairs.out).mono ?_
  rintro e w6 ⟨APairs, cPairs, GPairs, rfl, hg⟩
  have HGPairs := Lib.hid hg.done
  clear HVPairs
  replace HGBalances := Lib.hid (HGBalances.out.other hg.only (by decide) (by decide) (by decide))
  have HB6 : Hid (Below B w w6) := HB5.out.trans hg.below
  clear hg HB5
  have hx := HC.out _ HGBalances.out.book 0 (by omega) (by omega) (by omega) (by omega) (by omega)
  go_wp2_with fail
  refine (markedTexts_none none 0 w6).mono ?_
  rintro e w' ⟨rfl, rfl⟩
  go_wp2_with fail
  refine (markedTexts_none none 0 w6).mono ?_
  rintro e w' ⟨rfl, rfl⟩
  clear hx
  have hx := HC.out _ HGBalances.out.book 2 (by omega) (by omega) (by omega) (by omega) (by omega)
  go_wp2_with fail
  refine (markedInts_none none 0 w6).mono ?_
  rintro e w' ⟨rfl, rfl⟩
  go_wp2_with fail
  refine (markedInts_none none 0 w6).mono ?_
  rintro e w' ⟨rfl, rfl⟩
  clear hx
  have hx := HC.out _ HGBalances.out.book 4 (by omega) (by omega) (by omega) (by omega) (by omega)
  go_wp2_with fail
  refine (markedAccounts_none none 0 w6).mono ?_
  rintro e w' ⟨rfl, rfl⟩
  go_wp2_with fail
  refine (markedAccounts_none none 0 w6).mono ?_
  rintro e w' ⟨rfl, rfl⟩
  clear hx
  go_wp2_with fail
  refine (markedBalances_any ABalances cBalances B mBalances GBalances (fun j => (LBalances j).length + 72) w6 HGBalances.out.out HGBalances.out.grown hmBalances HMBalances.out).mono ?_
  rintro e w7 ⟨rfl, hb⟩
  replace HGBalances := Lib.hid (HGBalances.out.below hb)
  replace HGPairs := Lib.hid (HGPairs.out.below hb)
  have HB7 : Hid (Below B w w7) := HB6.out.trans (hb.mono (Nat.le_trans (Nat.le_of_lt (Nat.lt_of_le_of_lt HLOW.out (HBL.out))) HB6.out.size))
  clear hb HB6
  obtain ⟨A2, c2, e2⟩ := own_form HGBalances.out.tab
  have hx2 : w7.cell? ⟨b, 6, none⟩ = some (.slice A2 mBalances c2) := (HGBalances.out.book.cell (i := 6) (by omega)).trans (congrArg some e2)
  have HT : Hid (kBalances.Tab w7 B (.slice A2 mBalances c2) mBalances VBalances) := by have := HGBalances.out.tab; rw [e2] at this; exact this
  clear e2
  go_wp2_with fail
  refine (markedBalances_any A2 c2 B mBalances VBalances (fun j => (LBalances j).length) w7 HT.out HGBalances.out.lists.1 hmBalances HLBalances.out).mono ?_
  rintro e w8 ⟨rfl, hb⟩
  replace HGBalances := Lib.hid (HGBalances.out.below hb)
  replace HGPairs := Lib.hid (HGPairs.out.below hb)
  have HB8 : Hid (Below B w w8) := HB7.out.trans (hb.mono (Nat.le_trans (Nat.le_of_lt (Nat.lt_of_le_of_lt HLOW.out HBL.out)) HB7.out.size))
  clear hb HB7 hx2 HT
  have hx := HC.out _ HGBalances.out.book 8 (by omega) (by omega) (by omega) (by omega) (by omega)
  go_wp2_with fail
  refine (markedLines_none none 0 w8).mono ?_
  rintro e w' ⟨rfl, rfl⟩
  go_wp2_with fail
  refine (markedLines_none none 0 w8).mono ?_
  rintro e w' ⟨rfl, rfl⟩
  clear hx
  have hx := HC.out _ HGBalances.out.book 10 (by omega) (by omega) (by omega) (by omega) (by omega)
  go_wp2_with fail
  refine (markedJournals_none none 0 w8).mono ?_
  rintro e w' ⟨rfl, rfl⟩
  go_wp2_with fail
  refine (markedJournals_none none 0 w8).mono ?_
  rintro e w' ⟨rfl, rfl⟩
  clear hx
  have hx := HC.out _ HGBalances.out.book 12 (by omega) (by omega) (by omega) (by omega) (by omega)
  go_wp2_with fail
  refine (markedChanges_none none 0 w8).mono ?_
  rintro e w' ⟨rfl, rfl⟩
  go_wp2_with fail
  refine (markedChanges_none none 0 w8).mono ?_
  rintro e w' ⟨rfl, rfl⟩
  clear hx
  have hx := HC.out _ HGBalances.out.book 14 (by omega) (by omega) (by omega) (by omega) (by omega)
  go_wp2_with fail
  refine (markedConflicts_none none 0 w8).mono ?_
  rintro e w' ⟨rfl, rfl⟩
  go_wp2_with fail
  refine (markedConflicts_none none 0 w8).mono ?_
  rintro e w' ⟨rfl, rfl⟩
  clear hx
  have hx := HC.out _ HGBalances.out.book 16 (by omega) (by omega) (by omega) (by omega) (by omega)
  go_wp2_with fail
  refine (markedTrios_none none 0 w8).mono ?_
  rintro e w' ⟨rfl, rfl⟩
  go_wp2_with fail
  refine (markedTrios_none none 0 w8).mono ?_
  rintro e w' ⟨rfl, rfl⟩
  clear hx
  go_wp2_with fail
  refine (markedPairs_any APairs cPairs B mPairs GPairs (fun j => (LPairs j).length + 72) w8 HGPairs.out.out HGPairs.out.grown hmPairs HMPairs.out).mono ?_
  rintro e w9 ⟨rfl, hb⟩
  replace HGBalances := Lib.hid (HGBalances.out.below hb)
  replace HGPairs := Lib.hid (HGPairs.out.below hb)
  have HB9 : Hid (Below B w w9) := HB8.out.trans (hb.mono (Nat.le_trans (Nat.le_of_lt (Nat.lt_of_le_of_lt HLOW.out (HBL.out))) HB8.out.size))
  clear hb HB8
  obtain ⟨A2, c2, e2⟩ := own_form HGPairs.out.tab
  have hx2 : w9.cell? ⟨b, 18, none⟩ = some (.slice A2 mPairs c2) := (HGPairs.out.book.cell (i := 18) (by omega)).trans (congrArg some e2)
  have HT : Hid (kPairs.Tab w9 B (.slice A2 mPairs c2) mPairs VPairs) := by have := HGPairs.out.tab; rw [e2] at this; exact this
  clear e2
  go_wp2_with fail
  refine (markedPairs_any A2 c2 B mPairs VPairs (fun j => (LPairs j).length) w9 HT.out HGPairs.out.lists.1 hmPairs HLPairs.out).mono ?_
  rintro e w10 ⟨rfl, hb⟩
  replace HGBalances := Lib.hid (HGBalances.out.below hb)
  replace HGPairs := Lib.hid (HGPairs.out.below hb)
  have HB10 : Hid (Below B w w10) := HB9.out.trans (hb.mono (Nat.le_trans (Nat.le_of_lt (Nat.lt_of_le_of_lt HLOW.out HBL.out)) HB9.out.size))
  clear hb HB9 hx2 HT
  go_wp2_with fail
  go_ret
  exact ⟨rfl, HB10.out⟩
end Go.Proofs.YtjlokkjbdgcooaaGreat

/-
  Copies of lists.
-/
namespace Go.Proofs.YtjlokkjbdgcooaaGreat
open Go.RowKit

set_option maxRecDepth 100000 in
set_option maxHeartbeats 400000 in
theorem copyBalances_any (l : List Bal) (A : Option Addr) (n c B : Nat) (w : World) (h : Rd w B 2 A n (bals l)) (hn : n ≤ 1000000) :
    Calls Tryz.prog 122 #[.slice A n c] w fun e w' => ∃ A' c', e = .returned (.slice A' n c') ∧ w'.ownsRow w.heap.size 161 2 (.slice A' n c') n (bals l) ∧ Below w.heap.size w w' := by
  obtain ⟨v', w', hrun, hown, hg, _⟩ := append_fresh (P := Tryz.prog) (w := w) (ty := 81) (c := c) infoBal Tryz.underlying81 rfl (by omega) w.heap.size (.slice none 0 0) 0 [] (World.ownsRow_nil _ _ _ _) h (bals_one _) (by unfold maxLen; omega) (by omega) (Nat.le_refl _)
  rw [Nat.zero_add, List.nil_append] at hown
  obtain ⟨A', c', rfl⟩ := own_form hown
  have HO := Lib.hid hown
  have HG := Lib.hid hg
  have HR := Lib.hid hrun
  clear hown hg h hn hrun
  go_enter Tryz.func122, Tryz.ntmps122
  go_wp2_with (at_builtin; refine wpList_append_run rfl _ _ _ rfl _ _ _ _ rfl rfl HR.out ?_)
  go_ret
  exact ⟨A', c', rfl, HO.out, (Below.refl _ _).grown HG.out (Nat.le_refl _) (fun k h => by cases h)⟩

end Go.Proofs.YtjlokkjbdgcooaaGreat

/-
  One more list of balances in a book.
-/
namespace Go.Proofs.YtjlokkjbdgcooaaGreat
open Go.RowKit

set_option maxRecDepth 100000 in
set_option maxHeartbeats 1000000 in
theorem bookBalances_any (b B m n cl : Nat) (F V U : Nat → Value) (N : Nat → Nat) (L : Nat → List Value) (Al : Option Addr) (l : List Bal) (w : World) (h : kBalances.Kept w B b F m V U N L) (hm : m < 250) (hlv : w.ownsRow B 161 2 (.slice Al n cl) n (bals l)) (hn : n ≤ 1000000)
    (hd : ∀ i, i < m → ∀ k, (Value.slice Al n cl).ownBlock = some k → (V i).ownBlock ≠ some k) :
    Calls Tryz.prog 36 #[.pointer (some ⟨b, 0, none⟩), .slice Al n cl] w fun e w' => e = .returned (.tuple #[]) ∧
      ∃ F' cv, kBalances.Kept w' B b F' (m + 1) (upd V m (.slice Al n cl)) (upd U m cv) (fun k => if k = m then n else N k) (fun k => if k = m then bals l else L k) ∧ (∀ k, k ≠ 6 → k ≠ 7 → F' k = F k) ∧ Below B w w' ∧ (∀ k, cv.ownBlock = some k → w.heap.size ≤ k) ∧ Only [kBalances.t, 45] w w' := by
  have HK := Lib.hid h
  obtain ⟨h1, h2, h3, h4, h5, h6, h7⟩ := h
  have hbl := h1.lt
  have hBs : B ≤ w.heap.size := by omega
  obtain ⟨A2, c2, e2⟩ := own_form h3
  obtain ⟨A3, c3, e3⟩ := own_form h4
  have hc2 : w.cell? ⟨b, 6, none⟩ = some (F 6) := h1.cell (i := 6) (by omega)
  obtain ⟨v1, w1, hrun1, ht1, hsz1, hk1, hv1, ho1, ho2, ho3⟩ := Kind.push (T := 37) h3 infoBalances Tryz.underlying37 (.slice Al n cl) rfl (by omega) hBs
  obtain ⟨k1, k2, k3, k4, k5, k6, k7, k8, k9⟩ := Kind.first HK.out _ ht1 hk1 hv1
  obtain ⟨A1, c1, e1⟩ := own_form ht1
  have hc3 : (w1.setCell ⟨b, 6, none⟩ v1).cell? ⟨b, 7, none⟩ = some (F 7) := by
    have := k1.cell (i := 7) (by omega)
    rwa [upd_other _ _ (by decide)] at this
  have hne : ¬ kBalances.e ∈ [kBalances.t, 45] := by decide
  have hown2 := k9.own hlv hne
  have K9 := Lib.hid k9
  have hB1 : Below B w (w1.setCell ⟨b, 6, none⟩ v1) := by
    have hx : Below B w w1 := ⟨ho1, ho2, ho3, by omega, fun k hk => hk1 k (by omega) (fun e => by have := own_ge h3 k e; omega)⟩
    exact hx.setCell h2 _
  have hz1 : w.heap.size + 1 ≤ w1.heap.size := hsz1
  have k7' : w1.cell? ⟨b, 6, none⟩ = some (F 6) := k7
  have k8' : w1.frozen? ⟨b, 6, none⟩ = false := k8
  have e2' : F 6 = .slice A2 m c2 := e2
  have e3' : F 7 = .slice A3 m c3 := e3
  rw [e2'] at hc2 k7'
  rw [e2] at hrun1
  rw [e3'] at hc3
  subst e1
  have HR1 : Hid ((Builtin.append_ #[37, 37] 37 #[.slice A2 m c2, .slice (some ⟨w.heap.size, 0, none⟩) 1 1]).run Tryz.prog (w.alloc (.cells #[.slice Al n cl] 81)) = .ok (.slice A1 (m + 1) c1) w1) := hrun1
  have K1 : Hid (BookAt (w1.setCell ⟨b, 6, none⟩ (.slice A1 (m + 1) c1)) b (upd F 6 (.slice A1 (m + 1) c1))) := k1
  have K2 : Hid (kBalances.Tab (w1.setCell ⟨b, 6, none⟩ (.slice A1 (m + 1) c1)) B (.slice A1 (m + 1) c1) (m + 1) (upd V m (.slice Al n cl))) := k2
  have K3 : Hid (kBalances.Tab (w1.setCell ⟨b, 6, none⟩ (.slice A1 (m + 1) c1)) B (F 7) m U) := k3
  have K4 : Hid (∀ k, (Value.slice A1 (m + 1) c1).ownBlock = some k → (F 7).ownBlock ≠ some k) := k4
  have K5 : Hid (kBalances.Rows (w1.setCell ⟨b, 6, none⟩ (.slice A1 (m + 1) c1)) B m V N L) := k5
  have K6 : Hid (kBalances.Rows (w1.setCell ⟨b, 6, none⟩ (.slice A1 (m + 1) c1)) B m U N L) := k6
  have HE3 := Lib.hid e3'
  have HO2 : Hid ((w1.setCell ⟨b, 6, none⟩ (.slice A1 (m + 1) c1)).ownsRow B 161 2 (.slice Al n cl) n (bals l)) := hown2
  have K9' : Hid (Only [kBalances.t, 45] w (w1.setCell ⟨b, 6, none⟩ (.slice A1 (m + 1) c1))) := k9
  have hB1' : Below B w (w1.setCell ⟨b, 6, none⟩ (.slice A1 (m + 1) c1)) := hB1
  clear hrun1 k1 k2 k3 k4 k5 k6 k7 k8 k9 e2 e3 e2' e3' h1 h3 h4 h5 h6 h7 ht1 hk1 hv1 ho1 ho2 ho3 hown2 hB1 K9 hne
  go_enter Tryz.func36, Tryz.ntmps36
  go_wp2_with (at_builtin; refine wpList_append_run rfl _ _ _ rfl _ _ _ _ rfl rfl HR1.out ?_)
  generalize w1.setCell ⟨b, 6, none⟩ (Value.slice A1 (m + 1) c1) = w2 at *
  have hbl2 : b < w2.heap.size := by have := hB1'.size; omega
  have HD := Lib.hid hd
  clear hd
  go_region_law (first
    | (obtain ⟨v4, w4, hrun4, ht4, hsz4, hk4, hv4, hp1, hp2, hp3⟩ := Kind.push (T := 37) (w := w3) (own_kept K3.out fun k hk _ => hb3.block k hk) infoBalances Tryz.underlying37 (.slice A5 n c5) rfl (by omega) (Nat.le_trans (Nat.le_trans h2 (Nat.le_of_lt hbl2)) hb3.size)
       rw [HE3.out] at hrun4 hk4 hv4
       obtain ⟨A4, c4, rfl⟩ := own_form ht4
       refine step_append_run rfl (.tmp 24) (.tmp 27) 37 rfl (.slice A3 m c3) (.slice (some ⟨w3.heap.size, 0, none⟩) 1 1) (.slice A4 (m + 1) c4) w4 (by simp [Act.eval]) (by simp [Act.eval]) hrun4 ?_
       obtain ⟨hfin, hx1, hx2, hx3⟩ := Kind.second (K := kBalances) (F := F) K1.out h2 K2.out K3.out K4.out K5.out K6.out HO2.out HD.out ⟨hb3.os, hb3.tape, hb3.output, hb3.size, hb3.block⟩ hcv ht4 (by show ∀ k, k < w3.heap.size → (F 7).ownBlock ≠ some k → _; rw [HE3.out]; exact hk4) (by show _ = (F 7).ownBlock ∨ _; rw [HE3.out]; exact hv4) (Nat.le_trans h2 (Nat.le_of_lt hbl2))
       have hy1 : w4.cell? ⟨b, 7, none⟩ = some (F 7) := hx1
       have hy2 : w4.frozen? ⟨b, 7, none⟩ = false := hx2
       rw [HE3.out] at hy1)
    | (go_simp; go_at_call 122; refine (copyBalances_any l Al n cl _ w2.drew (rd_of_own HO2.out) (by omega)).mono ?_; rintro e w3 ⟨A5, c5, rfl, hcv, hb3⟩; have hc3b := (hb3.cell (p := ⟨b, 7, none⟩) hbl2).trans hc3; have hbl3 : b < w3.heap.size := Nat.lt_of_lt_of_le hbl2 hb3.size))
  all_goals
    go_end0
    refine ⟨rfl, _, _, hfin, fun k e2 e3 => ?_, ?_, fun k hk => Nat.le_trans hB1'.size (own_ge hcv k hk), K9'.out.trans hx3⟩
    · show upd (upd F 6 _) 7 _ k = F k
      rw [upd_other _ _ e3, upd_other _ _ e2]
    · have hx4 : Below B w3 w4 := ⟨hp1, hp2, hp3, by omega, fun k hk => hk4 k (Nat.lt_of_lt_of_le hk (Nat.le_trans (Nat.le_trans h2 (Nat.le_of_lt hbl2)) hb3.size)) (fun e => by have := own_ge K3.out k (by rw [HE3.out]; exact e); omega)⟩
      exact ((hB1'.drew.trans (hb3.mono (Nat.le_trans h2 (Nat.le_of_lt hbl2)))).trans hx4).setCell h2 _
end Go.Proofs.YtjlokkjbdgcooaaGreat
