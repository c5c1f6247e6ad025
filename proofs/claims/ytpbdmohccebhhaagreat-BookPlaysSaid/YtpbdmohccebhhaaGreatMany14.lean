/-
  Several texts, one behind the other: what each holds stands ahead of it.
-/
import Derived.Test.YtpbdmohccebhhaaGreatMany3
import Derived.Test.YtpbdmohccebhhaaGreatMany12
import Derived.Test.YtpbdmohccebhhaaGreatApartLinesJournals
import Derived.Test.YtpbdmohccebhhaaGreatMany13
import Derived.Test.YtpbdmohccebhhaaGreatRefBook

/-
  A book that keeps lines and journals, beside a book of journals.
-/
namespace Go.Proofs.YtpbdmohccebhhaaGreat
open Go.RowKit

theorem Only.tome {w w' : World} {B c : Nat} {v : Value} {l : List JR} (h : TomeAt w B c v l) (hb : But (fun k => k = c ∨ v.ownBlock = some k) w w') : Only [27, 43] w w' := by
  intro k cur e hh he
  refine hb.block k (lt_of_blk hh) ?_
  rintro (rfl | hk)
  · rw [h.blk] at hh
    injection hh with hh
    injection hh with _ hh
    exact he (by simp [hh])
  · obtain ⟨cur2, h2⟩ := own_block h.own hk
    rw [h2] at hh
    injection hh with hh
    injection hh with _ hh
    exact he (by simp [hh])

/-- What the book keeps; none of its lists lies in a block of S. -/
def KeptLJ (w : World) (B b : Nat) (S : Nat → Prop) (mL mJ : Nat) : Prop :=
  ∃ (F VL UL VJ UJ : Nat → Value) (LL : Nat → List Lin) (LV LU : Nat → List JR),
    kLines.Kept w B b F mL VL UL (fun i => (LL i).length) (fun i => lins (LL i)) ∧
    KeptJ w B b F mJ VJ UJ LV LU ∧
    (∀ i, i < mL → (LL i).length ≤ 900000) ∧ (∀ i, i < mJ → (LV i).length ≤ 700000) ∧
    (∀ i, i < mL → ∀ k, S k → (VL i).ownBlock ≠ some k ∧ (UL i).ownBlock ≠ some k) ∧
    (∀ i, i < mJ → ∀ k, S k → (VJ i).ownBlock ≠ some k ∧ (UJ i).ownBlock ≠ some k) ∧
    (∀ k, k < 20 → k ≠ 8 → k ≠ 9 → k ≠ 10 → k ≠ 11 → F k = .slice none 0 0)

section
variable {w w' : World} {B b : Nat} {S S' : Nat → Prop} {mL mJ : Nat}
theorem KeptLJ.below (h : KeptLJ w B b S mL mJ) (hb : Below w.heap.size w w') : KeptLJ w' B b S mL mJ := by
  obtain ⟨F, VL, UL, VJ, UJ, LL, LV, LU, h1, h2, h3, h4, h5, h5', h6⟩ := h
  exact ⟨F, VL, UL, VJ, UJ, LL, LV, LU, h1.below hb, h2.below hb, h3, h4, h5, h5', h6⟩
theorem KeptLJ.more (h : KeptLJ w B b S mL mJ) (hs : ∀ k, S' k → S k ∨ w.heap.size ≤ k) : KeptLJ w B b S' mL mJ := by
  obtain ⟨F, VL, UL, VJ, UJ, LL, LV, LU, h1, h2, h3, h4, h5, h5', h6⟩ := h
  refine ⟨F, VL, UL, VJ, UJ, LL, LV, LU, h1, h2, h3, h4, fun i hi k hk => ?_, fun i hi k hk => ?_, h6⟩
  · rcases hs k hk with h | h
    · exact h5 i hi k h
    · constructor
      · intro e; have := own_lt (h1.2.2.2.2.2.1.1 i hi) k e; omega
      · intro e; have := own_lt (h1.2.2.2.2.2.2.1 i hi) k e; omega
  · rcases hs k hk with h | h
    · exact h5' i hi k h
    · constructor
      · intro e; have := own_lt (h2.kept.2.2.2.2.2.1.1 i hi) k e; omega
      · intro e; have := own_lt (h2.kept.2.2.2.2.2.2.1 i hi) k e; omega
theorem KeptLJ.tome {B0 c : Nat} {v : Value} {l : List JR} (h : KeptLJ w B b S mL mJ) (hc : TomeAt w B0 c v l) (hb : But (fun k => k = c ∨ v.ownBlock = some k) w w') (hs : ∀ k, v.ownBlock = some k → S k) : KeptLJ w' B b S mL mJ := by
  obtain ⟨F, VL, UL, VJ, UJ, LL, LV, LU, h1, h2, h3, h4, h5, h5', h6⟩ := h
  have ho := Only.tome hc hb
  refine ⟨F, VL, UL, VJ, UJ, LL, LV, LU, h1.other ho (ho.book h1.1 (by decide)) rfl rfl (by decide) (by decide), ⟨h2.kept.rows ho (by decide) (by decide) ?_, h2.same, fun i hi a ha => ho.own (h2.lv i hi a ha) (by decide), fun i hi a ha => ho.own (h2.lu i hi a ha) (by decide), h2.size⟩, h3, h4, h5, h5', h6⟩
  intro i k hi hk hv
  have hne : k ≠ c := by
    rintro rfl
    rcases hv with hv | hv
    · exact own_ne (h2.kept.2.2.2.2.2.1.1 i hi) hc.blk (by decide) hv
    · exact own_ne (h2.kept.2.2.2.2.2.2.1 i hi) hc.blk (by decide) hv
  refine hb.block k hk ?_
  rintro (e | e)
  · exact hne e
  · have := h5' i hi k (hs k e)
    rcases hv with hv | hv
    · exact this.1 hv
    · exact this.2 hv
theorem KeptLJ.new (hB : BookAt w b fun _ => .slice none 0 0) (hb : B ≤ b) : KeptLJ w B b S 0 0 :=
  ⟨_, fun _ => .bool false, fun _ => .bool false, fun _ => .bool false, fun _ => .bool false, fun _ => [], fun _ => [], fun _ => [], Kind.Kept.new _ _ _ _ _ hB hb rfl rfl _ _ _ _, ⟨Kind.Kept.new _ _ _ _ _ hB hb rfl rfl _ _ _ _, by omega, by omega, by omega, by omega⟩, by omega, by omega, by omega, by omega, fun _ _ _ _ _ _ => rfl⟩
theorem KeptLJ.lt (h : KeptLJ w B b S mL mJ) : b < w.heap.size := by
  obtain ⟨F, VL, UL, VJ, UJ, LL, LV, LU, h1, _⟩ := h
  exact h1.1.lt
end

theorem keepLines_any (b B mL mJ n cl H : Nat) (S : Nat → Prop) (Al : Option Addr) (l : List Lin) (w : World) (h : KeptLJ w B b (fun k => S k ∨ (Value.slice Al n cl).ownBlock = some k) mL mJ) (hm : mL < 250) (hlv : w.ownsRow H 100 3 (.slice Al n cl) n (lins l)) (hn : n ≤ 900000) (hBH : B ≤ H) (hs : ∀ k, S k → k < w.heap.size ∧ (Value.slice Al n cl).ownBlock ≠ some k) :
    Calls Tryz.prog 27 #[.pointer (some ⟨b, 0, none⟩), .slice Al n cl] w fun e w' => e = .returned (.tuple #[]) ∧ KeptLJ w' B b S (mL + 1) mJ ∧ Below B w w' ∧ Only [kLines.t, 40] w w' := by
  obtain ⟨F, VL, UL, VJ, UJ, LL, LV, LU, h1, h2, h3, h4, h5, h5', h6⟩ := h
  have hl : l.length = n := by have := hlv.1; rw [lins_len] at this; omega
  refine (bookLines_any b B mL n cl F VL UL _ _ Al l w h1 hm (own_base hlv hBH) (by omega) fun i hi k hk => (h5 i hi k (.inr hk)).1).mono ?_
  rintro e w' ⟨rfl, F', cv, hk, hF, hb, hcv, ho⟩
  refine ⟨rfl, ⟨F', _, _, VJ, UJ, fun i => if i = mL then l else LL i, LV, LU, hk.congr (fun i _ => ?_) (fun i _ => ?_), ⟨h2.kept.other ho hk.1 (hF _ (by decide) (by decide)) (hF _ (by decide) (by decide)) (by decide) (by decide), h2.same, fun i hi a ha => ho.own (h2.lv i hi a ha) (by decide), fun i hi a ha => ho.own (h2.lu i hi a ha) (by decide), h2.size⟩, fun i hi => ?_, h4, fun i hi k hS => ?_, fun i hi k hS => h5' i hi k (.inl hS), fun k hk a8 a9 a10 a11 => ?_⟩, hb, ho⟩
  · by_cases e : i = mL <;> simp [e, hl]
  · by_cases e : i = mL <;> simp [e]
  · by_cases e : i = mL
    · simp [e, hl]; omega
    · simp only [e, if_false]; exact h3 i (by omega)
  · by_cases e : i = mL
    · subst e
      rw [upd_same, upd_same]
      exact ⟨(hs k hS).2, fun e => by have := hcv k e; have := (hs k hS).1; omega⟩
    · rw [upd_other _ _ e, upd_other _ _ e]
      exact h5 i (by omega) k (.inl hS)
  · rw [hF k a8 a9]; exact h6 k hk a8 a9 a10 a11

theorem keepJournals_any (b B mL mJ n cl H : Nat) (S : Nat → Prop) (Al : Option Addr) (l : List JR) (w : World) (h : KeptLJ w B b (fun k => S k ∨ (Value.slice Al n cl).ownBlock = some k) mL mJ) (hm : mJ < 250) (hlv : OwnJl w H Al n cl l) (hsz : ∀ a ∈ l, a.j.ref.size ≤ maxLen ∧ a.j.lines.length ≤ 100000) (hn : n ≤ 10000) (hBH : B ≤ H) (hs : ∀ k, S k → k < w.heap.size ∧ (Value.slice Al n cl).ownBlock ≠ some k) :
    Calls Tryz.prog 25 #[.pointer (some ⟨b, 0, none⟩), .slice Al n cl] w fun e w' => e = .returned (.tuple #[]) ∧ KeptLJ w' B b S mL (mJ + 1) ∧ Below B w w' ∧ Only [kJournals.t, 40] w w' := by
  obtain ⟨F, VL, UL, VJ, UJ, LL, LV, LU, h1, h2, h3, h4, h5, h5', h6⟩ := h
  have hl : l.length = n := by have := hlv.own.1; rw [jrs_len] at this; omega
  have hsm : ∀ a ∈ l, a.j.ref.size ≤ maxLen ∧ a.j.lines.length ≤ maxLen := fun a ha => ⟨(hsz a ha).1, by have := (hsz a ha).2; unfold maxLen; omega⟩
  refine (bookJournals_any b B mJ n cl F VJ UJ _ _ _ Al l w h2.kept hm (own_base hlv.own hBH) (hlv.rd hsm) (fun a ha => own_base (hlv.lines a ha) hBH) (fun a ha => (hsz a ha).2) hn fun i hi k hk => (h5' i hi k (.inr hk)).1).mono ?_
  rintro e w' ⟨rfl, F', cv, l', hmap, hlin, hk, hF, hb, hcv, ho⟩
  have hbl := h1.1.lt
  have hlo := h1.2.1
  refine ⟨rfl, ⟨F', VL, UL, _, _, LL, fun i => if i = mJ then l else LV i, fun i => if i = mJ then l' else LU i, h1.other ho hk.1 (hF _ (by decide) (by decide)) (hF _ (by decide) (by decide)) (by decide) (by decide), ⟨hk.congr (fun i _ => ?_) (fun i _ => ?_) (fun i _ => ?_), fun i hi => ?_, fun i hi a ha => ?_, fun i hi a ha => ?_, fun i hi a ha => ?_⟩, h3, fun i hi => ?_, fun i hi k hS => h5 i hi k (.inl hS), fun i hi k hS => ?_, fun k hk a8 a9 a10 a11 => ?_⟩, hb, ho⟩
  · by_cases e : i = mJ <;> simp [e, hl]
  · by_cases e : i = mJ <;> simp [e]
  · by_cases e : i = mJ <;> simp [e]
  · by_cases e : i = mJ
    · simp only [e, if_true]; exact hmap.symm
    · simp only [e, if_false]; exact h2.same i (by omega)
  · by_cases e : i = mJ
    · simp only [e, if_true] at ha
      exact ho.own (own_base (hlv.lines a ha) hBH) (by decide)
    · simp only [e, if_false] at ha
      exact ho.own (h2.lv i (by omega) a ha) (by decide)
  · by_cases e : i = mJ
    · simp only [e, if_true] at ha
      exact own_base (hlin a ha) (by omega)
    · simp only [e, if_false] at ha
      exact ho.own (h2.lu i (by omega) a ha) (by decide)
  · by_cases e : i = mJ
    · simp only [e, if_true] at ha
      exact hsm a ha
    · simp only [e, if_false] at ha
      exact h2.size i (by omega) a ha
  · by_cases e : i = mJ
    · simp [e, hl]; omega
    · simp only [e, if_false]; exact h4 i (by omega)
  · by_cases e : i = mJ
    · subst e
      rw [upd_same, upd_same]
      exact ⟨(hs k hS).2, fun e => by have := hcv k e; have := (hs k hS).1; omega⟩
    · rw [upd_other _ _ e, upd_other _ _ e]
      exact h5' i (by omega) k (.inl hS)
  · rw [hF k a10 a11]; exact h6 k hk a8 a9 a10 a11
theorem apartLJ_any (b B mL mJ : Nat) (S : Nat → Prop) (w : World) (h : KeptLJ w B b S mL mJ) (hm : mL ≤ 250) (hm2 : mJ ≤ 250) :
    Calls Tryz.prog 33 #[.pointer (some ⟨b, 0, none⟩)] w fun e w' => e = .returned (.bool true) ∧ Below B w w' := by
  obtain ⟨F, VL, UL, VJ, UJ, LL, LV, LU, h1, h2, h3, h4, h5, h5', h6⟩ := h
  exact apartLinesJournals_any b B F w mL VL UL LL h1 hm h3 mJ VJ UJ LV LU h2 hm2 h4 h6
end Go.Proofs.YtpbdmohccebhhaaGreat

/-
  Contracts of the reference's Post, Voided.
-/
namespace Go.Proofs.YtpbdmohccebhhaaGreat
open Go.RowKit

theorem postE_eqs (M : List Jrn) (j : Jrn) : (checkE j ≠ 0 ∧ postE M j = checkE j) ∨ (checkE j = 0 ∧ hasId M j.id = true ∧ postE M j = 7) ∨ (checkE j = 0 ∧ hasId M j.id = false ∧ takenJ M j = true ∧ postE M j = 8) ∨ (checkE j = 0 ∧ hasId M j.id = false ∧ takenJ M j = false ∧ 200 ≤ M.length ∧ postE M j = 13) ∨ (checkE j = 0 ∧ hasId M j.id = false ∧ takenJ M j = false ∧ ¬ 200 ≤ M.length ∧ postE M j = 0) := by
  unfold postE
  by_cases h1 : checkE j = 0
  · cases h2 : hasId M j.id
    · cases h3 : takenJ M j
      · by_cases h4 : 200 ≤ M.length
        · simp [h1, h4]
        · simp [h1, h4]
      · simp [h1]
    · simp [h1]
  · simp [h1]
/-- The reference's Get, whatever is found: the one that the book's Post asks. -/
theorem refGet_has (l : List JR) (x : Int) (A : Option Addr) (n c B : Nat) (w : World) (h : Rd w B 6 A n (jrs l)) (hB : B ≤ w.heap.size) (hn : n ≤ 1000000) :
    Calls Tryz.prog 18 #[.slice A n c, .int .i64 x] w fun e w' => (∃ (a0 a1 a2 : Int) (a3 : ByteArray) (a4 : Option Addr × Nat × Nat) (a5 : Bool), e = .returned (.tuple #[.agg #[.int .i64 a0, .int .i64 a1, .int .i64 a2, .string a3, .slice a4.1 a4.2.1 a4.2.2, .bool a5], .bool (hasId (l.map JR.j) x)])) ∧ Below w.heap.size w w' := by
  rw [hasId_map]
  cases hf : findK JR.id l x with
  | none => exact (refGet_none l x A n c B w h hB hn hf).mono fun e w' hh => ⟨⟨0, 0, 0, ⟨#[]⟩, (none, 0, 0), false, hh.1⟩, hh.2⟩
  | some a => exact (refGet_some l x a A n c B w h hB hn hf).mono fun e w' hh => ⟨⟨a.j.id, a.j.ent, a.j.per, a.j.ref, (a.A, a.j.lines.length, a.c), a.j.void, hh.1⟩, hh.2⟩

set_option maxRecDepth 100000 in
set_option maxHeartbeats 4000000 in
theorem refPost_any (l : List JR) (j : Jrn) (A A2 : Option Addr) (n c n2 c2 B B2 : Nat) (w : World) (h : Rd w B 6 A n (jrs l)) (hB : B ≤ w.heap.size) (hn : n ≤ 1000000) (h2 : Rd w B2 3 A2 n2 (lins j.lines)) (hB2 : B2 ≤ w.heap.size) :
    Calls Tryz.prog 11 #[.slice A n c, j.val A2 n2 c2] w fun e w' => e = .returned (.int .i64 (postE (l.map JR.j) j)) ∧ Below w.heap.size w w' := by
  obtain ⟨W, hW⟩ : ∃ W, w.alloc (.cells #[.int .i64 j.id, .int .i64 j.ent, .int .i64 j.per, .string j.ref, .slice A2 n2 c2, .bool j.void] 43) = W := ⟨_, rfl⟩
  have hbW : Below w.heap.size w W := by rw [← hW]; exact (Below.refl _ _).alloc (Nat.le_refl _) _
  have hzW : W.heap.size = w.heap.size + 1 := by rw [← hW]; simp
  have HW := Lib.hid hW
  have HBW := Lib.hid hbW
  have HR : Hid (∀ w1, Below W.heap.size W w1 → Rd w1 B 6 A n (jrs l)) := fun w1 hb => h.far (hbW.trans (hb.mono hbW.size)) hB
  have HFIN : Hid (∀ w1, Below W.heap.size W w1 → Below w.heap.size w w1) := fun w1 hb => hbW.trans (hb.mono hbW.size)
  have kc := Lib.hid (refCheck_any j A2 n2 c2 B2 W (h2.far hbW hB2) (by omega))
  have kg : Hid (∀ w1, Below W.heap.size W w1 → Calls Tryz.prog 18 #[.slice A n c, .int .i64 j.id] w1 fun e w' => (∃ (a0 a1 a2 : Int) (a3 : ByteArray) (a4 : Option Addr × Nat × Nat) (a5 : Bool), e = .returned (.tuple #[.agg #[.int .i64 a0, .int .i64 a1, .int .i64 a2, .string a3, .slice a4.1 a4.2.1 a4.2.2, .bool a5], .bool (hasId (l.map JR.j) j.id)])) ∧ Below w1.heap.size w1 w') := fun w1 hb => refGet_has l j.id A n c B w1 (HR.out w1 hb) (by have := hb.size; omega) hn
  have kt : Hid (∀ w1, Below W.heap.size W w1 → Calls Tryz.prog 56 #[.slice A n c, j.val A2 n2 c2] w1 fun e w' => e = .returned (.bool (takenJ (l.map JR.j) j)) ∧ Below w1.heap.size w1 w') := fun w1 hb => refTakenR_any l j A A2 n c n2 c2 B w1 (HR.out w1 hb) (by have := hb.size; omega) hn
  have hlen : (l.map JR.j).length = n := by rw [List.length_map]; exact h.jrs_len
  have HC := Lib.hid (postE_eqs (l.map JR.j) j)
  rw [hlen] at HC
  clear h h2 hW hbW hlen
  generalize postE (l.map JR.j) j = E at *
  generalize checkE j = K at *
  generalize hasId (l.map JR.j) j.id = G at *
  generalize takenJ (l.map JR.j) j = T at *
  obtain ⟨id, ent, per, ref, L, void⟩ := j
  unfold Jrn.val at *
  dsimp only at *
  rcases HC.out with ⟨h1, rfl⟩ | ⟨rfl, rfl, rfl⟩ | ⟨rfl, rfl, rfl, rfl⟩ | ⟨rfl, rfl, rfl, h4, rfl⟩ | ⟨rfl, rfl, rfl, h4, rfl⟩
  all_goals
    clear HC
    try have ht : (E != 0) = true := by simpa using h1
    try have hI : (200 : Int) ≤ (n : Int) := by omega
    try have hI : ¬ (200 : Int) ≤ (n : Int) := by omega
    go_enter Tryz.func11, Tryz.ntmps11
    go_wp2_with fail
    rw [HW.out]
    refine kc.out.mono ?_
    rintro e w1 ⟨rfl, hb1⟩
    have HB1 := Lib.hid hb1
    obtain ⟨b0, b1, b2, b3, b4, b5⟩ := box6 HW.out hb1
    clear hb1
    go_wp2_with fail
    refine (kg.out w1 HB1.out).mono ?_
    rintro e w2 ⟨⟨a0, a1, a2, a3, a4, a5, rfl⟩, hb2⟩
    have HB2 : Hid (Below W.heap.size W w2) := HB1.out.trans (hb2.mono HB1.out.size)
    clear hb2 b0 b1 b2 b3 b4 b5
    obtain ⟨x4, x5, x6⟩ := a4
    dsimp only
    have HB3 : Hid (∀ o, Below W.heap.size W (w2.alloc o)) := fun o => HB2.out.alloc HB2.out.size o
    obtain ⟨b0, b1, b2, b3, b4, b5⟩ := box6 HW.out HB2.out
    have hlt2 : w.heap.size < w2.heap.size := by have := HB2.out.size; omega
    go_wp2_with fail
    first
      | (go_ret; exact ⟨rfl, HFIN.out _ (HB3.out _)⟩)
      | (refine (kt.out _ (HB3.out _)).mono ?_
         rintro e w3 ⟨rfl, hb3⟩
         have HB4 := Lib.hid (HFIN.out _ ((HB3.out _).trans (hb3.mono (HB3.out _).size)))
         clear hb3 b0 b1 b2 b3 b4 b5
         go_wp2_with fail
         go_ret
         exact ⟨rfl, HB4.out⟩)
set_option maxRecDepth 100000 in
set_option maxHeartbeats 1000000 in
theorem refVoided_any (j : Jrn) (A : Option Addr) (n c : Nat) (w : World) :
    Calls Tryz.prog 19 #[j.val A n c] w fun e w' => e = .returned (.agg #[.int .i64 j.id, .int .i64 j.ent, .int .i64 j.per, .string j.ref, .slice A n c, .bool true]) ∧ Below w.heap.size w w' := by
  have HB : Hid (∀ o1 o2, Below w.heap.size w ((w.alloc o1).alloc o2)) := fun o1 o2 => ((Below.refl _ _).alloc (Nat.le_refl _) o1).alloc (by simp) o2
  unfold Jrn.val
  go_enter Tryz.func19, Tryz.ntmps19
  go_wp2_with fail
  refine bodyPost_ret (v := .agg #[.int .i64 j.id, .int .i64 j.ent, .int .i64 j.per, .string j.ref, .slice A n c, .bool true]) (by simp [results, Tryz.results19, go_sem]) rfl ⟨rfl, HB.out _ _⟩
end Go.Proofs.YtpbdmohccebhhaaGreat
