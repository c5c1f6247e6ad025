/-
  The walk of the statement MoneySplits.
-/
-- HOLE: obtain ⟨hr, hm, _⟩ := rd_of_isRow w1
-- exact moneySplits_walk a0 _ a1 len1 cap1 w hr hm
import Derived.Test.YtbjeikfekhgeoaaBookApart
import Derived.Test.YtbjeikfekhgeoaaRefSplitW
import Derived.Test.YtbjeikfekhgeoaaLawMoneyAdds
namespace Go.Proofs.Ytbjeikfekhgeoaa
open Go.RowKit

theorem NRow.own {t : TypeId} {k : IntKind} {w : World} {s n B : Nat} {f : Nat → Int} (h : NRow t k w s n f) (hB : B ≤ s) (hn : 0 < n) (hn2 : n ≤ maxLen) : w.ownsRow B t 1 (.slice (some ⟨s, 0, none⟩) n n) n (ints k ((List.range n).map f)) := by
  obtain ⟨cur, h1, h2, h3⟩ := h
  refine ⟨by simp [ints], .inr ⟨s, n, cur, rfl, hB, h1, Nat.le_refl _, hn2, by omega, ?_⟩⟩
  apply List.ext_getElem?
  intro j
  by_cases hj : j < n
  · rw [List.getElem?_take_of_lt (by omega), Array.getElem?_toList, h3 j hj]
    simp [ints, hj]
  · rw [List.getElem?_eq_none (by simp; omega), List.getElem?_eq_none (by simp [ints]; omega)]

/-- The parts of an amount, or nothing. -/
noncomputable def splitD (a : Int) (l : List Int) : List Int :=
  if splitOk a l then (List.range l.length).map fun k => signed (partOf (absI a) l (Classical.epsilon (Taken (restOf (absI a) l) l.length (leftOf (absI a) l l.length).toNat)) k) a else []
def splitEr (a : Int) (l : List Int) : Int := if splitOk a l then 0 else 1
theorem splitD_len (a : Int) (l : List Int) : (splitD a l).length ≤ l.length := by
  unfold splitD; split <;> simp

def SplitSays (a : Int) (l : List Int) (w : World) (e : Ending) (w' : World) : Prop :=
  ∃ A' c', e = .returned (.tuple #[.slice A' (splitD a l).length c', .int .i64 (splitEr a l)]) ∧ w'.ownsRow w.heap.size 3 1 (.slice A' (splitD a l).length c') (splitD a l).length (ints .i64 (splitD a l)) ∧ Below w.heap.size w w'

theorem splitSays_of_post {a : Int} {l : List Int} {n : Nat} {w w' : World} {e : Ending} (hl : l.length = n) (hn : 0 < n) (hn2 : n ≤ maxLen) (hok : splitOk a l = true) (h : SplitPost a l n w e w') : SplitSays a l w e w' := by
  obtain ⟨p, S, rfl, hp, hrow, hT, hb⟩ := h
  subst hl
  have hS : S = Classical.epsilon (Taken (restOf (absI a) l) l.length (leftOf (absI a) l l.length).toNat) := taken_unique (fun _ _ => restOf_inj _ _) hT (Classical.epsilon_spec ⟨S, hT⟩)
  have hlen : (splitD a l).length = l.length := by simp [splitD, hok]
  unfold SplitSays
  rw [hlen]
  refine ⟨some ⟨p, 0, none⟩, l.length, by simp [splitEr, hok], ?_, hb⟩
  have := hrow.own hp hn hn2
  rw [hS] at this
  simpa [splitD, hok] using this
theorem splitSays_none {a : Int} {l : List Int} {w w' : World} {e : Ending} (hok : splitOk a l = false) (he : e = .returned (.tuple #[.slice none 0 0, .int .i64 1])) (hb : Below w.heap.size w w') : SplitSays a l w e w' := by
  have hD : splitD a l = [] := by simp [splitD, hok]
  have hE : splitEr a l = 1 := by simp [splitEr, hok]
  unfold SplitSays
  rw [hD, hE]
  exact ⟨none, 0, he, World.ownsRow_nil _ _ _ _, hb⟩
theorem splitOk_parts {a : Int} {l : List Int} (hok : splitOk a l = true) : fits1 a = true ∧ l.all wt1 = true ∧ 0 < l.sum ∧ l.length ≤ 20 ∧ 0 < l.length := by
  simp only [splitOk, Bool.and_eq_true, decide_eq_true_eq] at hok
  refine ⟨hok.1.1.1, hok.1.2, hok.2, hok.1.1.2, ?_⟩
  rcases l with _ | ⟨x, r⟩
  · have := hok.2; simp at this
  · simp
theorem split_says (a : Int) (l : List Int) (A : Option Addr) (n c B : Nat) (w : World) (h : Rd w B 1 A n (ints .i64 l)) (hB : B ≤ w.heap.size) (hn : n ≤ maxLen) :
    Calls Try.prog 17 #[.int .i64 a, .slice A n c] w (SplitSays a l w) := by
  have hl := h.ints_len
  cases hok : splitOk a l
  · exact (split_bad a l A n c B w h hn hok).mono fun e w' ⟨h1, h2⟩ => splitSays_none hok h1 h2
  · obtain ⟨h1, h2, h3, h4, h5⟩ := splitOk_parts hok
    exact (split_ok a l A n c B w h hB h1 h2 (by omega) h3).mono fun e w' h => splitSays_of_post hl (by omega) hn hok h
theorem refSplit_says (a : Int) (l : List Int) (A : Option Addr) (n c B : Nat) (w : World) (h : Rd w B 1 A n (ints .i64 l)) (hB : B ≤ w.heap.size) (hn : n ≤ maxLen) :
    Calls Try.prog 18 #[.int .i64 a, .slice A n c] w (SplitSays a l w) := by
  have hl := h.ints_len
  cases hok : splitOk a l
  · exact (refSplit_bad a l A n c B w h hn hok).mono fun e w' ⟨h1, h2⟩ => splitSays_none hok h1 (by subst h2; exact Below.refl _ _)
  · obtain ⟨h1, h2, h3, h4, h5⟩ := splitOk_parts hok
    exact (refSplit_ok a l A n c B w h hB h1 h2 (by omega) h3).mono fun e w' h => splitSays_of_post hl (by omega) hn hok h

/-- What the statement's loop keeps. -/
structure SplitsRel (w2 : World) (b : Nat) (D : List Int) (k : Nat) (wr : World) (F V U : Nat → Value) : Prop where
  kept : KeptInts wr w2.heap.size b F k V U (fun _ => D)
  rest : ∀ j, j ≠ 2 → j ≠ 3 → F j = .slice none 0 0
  below : Below w2.heap.size w2 wr

theorem KeptInts.congr {w : World} {B b m : Nat} {F V U : Nat → Value} {L L' : Nat → List Int} (h : KeptInts w B b F m V U L) (e : ∀ i, i < m → L i = L' i) : KeptInts w B b F m V U L' :=
  ⟨h.1, h.2.1, h.2.2.1, h.2.2.2.1, h.2.2.2.2.1, ⟨fun i hi => by rw [← e i hi]; exact h.2.2.2.2.2.1.1 i hi, h.2.2.2.2.2.1.2⟩, ⟨fun i hi => by rw [← e i hi]; exact h.2.2.2.2.2.2.1 i hi, h.2.2.2.2.2.2.2⟩⟩

set_option maxRecDepth 100000 in
set_option maxHeartbeats 2000000 in
theorem moneySplits_walk (a : Int) (l : List Int) (A : Option Addr) (n c : Nat) (w : World) (h : Rd w w.heap.size 1 A n (ints .i64 l)) (hm : n ≤ maxLen) :
    Calls Try.prog 4 #[.int .i64 a, .slice A n c] w fun e w' => e = .returned (.bool true) ∧ Below w.heap.size w w' := by
  have HM := Lib.hid hm
  unfold maxLen at hm
  have HL := Lib.hid h.ints_len
  by_cases h30 : 30 < n
  · go_enter Try.func4, Try.ntmps4
    go_wp2_with fail
    refine (alive_any w).mono ?_
    rintro e w1 ⟨rfl, hb⟩
    go_wp2
    go_ret
    exact ⟨rfl, hb⟩
  · have h30' : n ≤ 30 := by omega
    clear hm h30
    go_enter Try.func4, Try.ntmps4
    go_wp2_with fail
    refine (alive_any w).mono ?_
    rintro e w1 ⟨rfl, hb1⟩
    have hz1 := hb1.size
    have hr1 := h.below hb1
    go_wp2_with fail
    refine (lentInts_any l A n c _ w1 hr1 (by omega)).mono ?_
    rintro e w2 ⟨g, cap, rfl, hlent, hb2⟩
    have hz2 := hb2.size
    have hr2 := hr1.far hb2 hz1
    go_wp2_with fail
    have HK0 : Hid (SplitsRel w2 w2.heap.size (splitD a l) 0 (w2.alloc (.cells #[.slice none 0 0, .slice none 0 0, .slice none 0 0, .slice none 0 0, .slice none 0 0, .slice none 0 0, .slice none 0 0, .slice none 0 0, .slice none 0 0, .slice none 0 0, .slice none 0 0, .slice none 0 0, .slice none 0 0, .slice none 0 0, .slice none 0 0, .slice none 0 0, .slice none 0 0, .slice none 0 0, .slice none 0 0, .slice none 0 0] 45)) (fun _ => .slice none 0 0) (fun _ => .slice none 0 0) (fun _ => .slice none 0 0)) :=
      ⟨KeptInts.new w2 _ (Nat.le_refl _) _ _ _, fun _ _ _ => rfl, (Below.refl _ _).alloc (Nat.le_refl _) _⟩
    have HB2 : Hid (Below w.heap.size w w2) := hb1.trans (hb2.mono hz1)
    have HLT := Lib.hid hlent
    have HR2 := Lib.hid hr2
    have hDl := splitD_len a l
    rw [HL.out] at hDl
    have HDD : Hid ((splitD a l == splitD a l) = true) := by simp [Hid]
    have hz0 : w.heap.size ≤ w2.heap.size := by omega
    clear hb1 hb2 hlent hr1 hr2 h
    go_loopw [7] (fun kv wr => ∃ (k : Nat) (F V U : Nat → Value), k ≤ 2 ∧ kv = .int .i64 k ∧ SplitsRel w2 w2.heap.size (splitD a l) k wr F V U) (fun kv _ => 2 - (intOf kv).toNat)
    case atStart => exact ⟨0, _, _, _, by omega, rfl, HK0.out⟩
    case round =>
      obtain ⟨k, F, V, U, hk, rfl, hrel⟩ := hrel
      have HREL := Lib.hid hrel
      have hzr := hrel.below.size
      have HLTr : Hid (LentAt wr w1.heap.size g cap l) := HLT.out.below hrel.below
      have HRr := Lib.hid (HR2.out.far hrel.below hz0)
      clear hrel
      by_cases hk2 : k < 2
      · have hkI : (k : Int) < 2 := by omega
        have hrl := LentAt.rd HLTr.out
        rw [HL.out] at hrl
        go_wp2_with fail
        refine (split_says a l _ n cap _ wr hrl (Nat.le_refl _) HM.out).mono ?_
        rintro e w3 ⟨A3, c3, rfl, hown3, hb3⟩
        have hz3 := hb3.size
        go_wp2_with fail
        refine (refSplit_says a l A n c _ w3 (HRr.out.far hb3 (by omega)) (by omega) HM.out).mono ?_
        rintro e w4 ⟨A4, c4, rfl, hown4, hb4⟩
        have hz4 := hb4.size
        have hown3' := own_kept hown3 fun q hq _ => hb4.block q hq
        have hK4 := (HREL.out.kept.below hb3).below hb4
        have hB4 : Below w2.heap.size w2 w4 := (HREL.out.below.trans (hb3.mono hzr)).trans (hb4.mono (by omega))
        have HO4 := Lib.hid hown4
        have HO3 := Lib.hid hown3'
        have HD : Hid (∀ i, i < k → ∀ q, (Value.slice A3 (splitD a l).length c3).ownBlock = some q → (V i).ownBlock ≠ some q) := by
          intro i hi q h1 h2
          have := own_ge hown3 q h1
          have := own_lt (HREL.out.kept.2.2.2.2.2.1.1 i hi) q h2
          omega
        have HK4 := Lib.hid hK4
        have HB4 := Lib.hid hB4
        clear hown3 hown4 hown3' hK4 hB4 hb3 hb4 hrl
        generalize splitEr a l = er at *
        go_wp2_with fail
        refine (bookInts_any w2.heap.size w2.heap.size k (splitD a l).length c3 F V U (fun _ => splitD a l) A3 (splitD a l) w4 HK4.out (by omega) (own_base HO3.out (by omega)) rfl (by omega) HD.out).mono ?_
        rintro e w5 ⟨rfl, F', cv, hK5, hF5, hB5, hrows⟩
        have HS5 : Hid (SplitsRel w2 w2.heap.size (splitD a l) (k + 1) w5 F' (upd V k (.slice A3 (splitD a l).length c3)) (upd U k cv)) := ⟨hK5.congr fun i _ => by split <;> rfl, fun j h2 h3 => by rw [hF5 j h2 h3, HREL.out.rest j h2 h3], HB4.out.trans hB5⟩
        have HO4' := Lib.hid (hrows _ _ _ _ HO4.out)
        have HO3' := Lib.hid (hrows _ _ _ _ HO3.out)
        clear hK5 hF5 hB5 hrows
        generalize hdl : (splitD a l).length = d at *
        go_wp2_with fail
        refine (sameInts_any (splitD a l) (splitD a l) A3 A4 d d c3 c4 _ _ w5 (rd_of_own HO3'.out) (rd_of_own HO4'.out) (by unfold maxLen; omega) (by unfold maxLen; omega)).mono ?_
        rintro e w6 ⟨rfl, q, rfl⟩
        rw [HDD.out]
        go_wp2
        exact ⟨⟨k + 1, _, _, _, by omega, by go_num, ⟨HS5.out.kept.drew ⟨q, rfl⟩, HS5.out.rest, HS5.out.below.trans (Drew.below ⟨q, rfl⟩)⟩⟩, by simp [intOf]; omega⟩
      · obtain rfl : k = 2 := by omega
        have hll : (l == l) = true := by simp
        go_wp2_with fail
        refine (staysInts_any l l A n n c _ _ g cap wr HLTr.out HL.out HRr.out HM.out (by omega)).mono ?_
        rintro e w3 ⟨rfl, hd⟩
        rw [hll]
        go_wp2_with fail
        refine (apartInts_any w2.heap.size w2.heap.size 2 F V U (fun _ => splitD a l) w3 (HREL.out.kept.drew hd) HREL.out.rest (by omega) (fun _ _ => by omega)).mono ?_
        rintro e w4 ⟨rfl, hb4⟩
        go_wp2
        go_ret
        exact ⟨rfl, HB2.out.trans ((((HREL.out.below.trans hd.below).trans hb4)).mono hz0)⟩
end Go.Proofs.Ytbjeikfekhgeoaa
