/-
  Several texts, one behind the other: what each holds stands ahead of it.
-/
import Derived.Test.YtpbdmohccebhhaaGreatMany14
import Derived.Test.YtpbdmohccebhhaaGreatRefPut
import Derived.Test.YtpbdmohccebhhaaGreatOwn

/-
  Contracts of the reference's Amend, Void, Drop over journals.
-/
namespace Go.Proofs.YtpbdmohccebhhaaGreat
open Go.RowKit

/-- Whether what is found is void. -/
def voidAt (M : List Jrn) (x : Int) : Bool := match findK Jrn.id M x with | none => false | some b => b.void
theorem liveE_eqs (M : List Jrn) (x : Int) : (hasId M x = false ∧ liveE M x = 9) ∨ (hasId M x = true ∧ voidAt M x = true ∧ liveE M x = 11) ∨ (hasId M x = true ∧ voidAt M x = false ∧ liveE M x = 0) := by
  unfold hasId voidAt liveE
  cases findK Jrn.id M x with
  | none => exact .inl ⟨rfl, rfl⟩
  | some b => cases h : b.void <;> simp
theorem amendE_eqs (M : List Jrn) (j : Jrn) : (checkE j ≠ 0 ∧ amendE M j = checkE j) ∨ (checkE j = 0 ∧ hasId M j.id = false ∧ amendE M j = 9) ∨ (checkE j = 0 ∧ hasId M j.id = true ∧ voidAt M j.id = true ∧ amendE M j = 11) ∨ (checkE j = 0 ∧ hasId M j.id = true ∧ voidAt M j.id = false ∧ takenJ M j = true ∧ amendE M j = 8) ∨ (checkE j = 0 ∧ hasId M j.id = true ∧ voidAt M j.id = false ∧ takenJ M j = false ∧ amendE M j = 0) := by
  unfold amendE
  by_cases h1 : checkE j = 0
  · rcases liveE_eqs M j.id with ⟨h2, h3⟩ | ⟨h2, h3, h4⟩ | ⟨h2, h3, h4⟩
    · simp [h1, h2, h3]
    · simp [h1, h2, h3, h4]
    · cases h5 : takenJ M j <;> simp [h1, h2, h3, h4]
  · simp [h1]
theorem findK_jr (l : List JR) (x : Int) : findK Jrn.id (l.map JR.j) x = (findK JR.id l x).map JR.j := findK_map JR.j l x
/-- The reference's Get, whatever is found, and whether that is void. -/
theorem refGet_live (l : List JR) (x : Int) (A : Option Addr) (n c B : Nat) (w : World) (h : Rd w B 6 A n (jrs l)) (hB : B ≤ w.heap.size) (hn : n ≤ 1000000) :
    Calls Tryz.prog 18 #[.slice A n c, .int .i64 x] w fun e w' => (∃ (a0 a1 a2 : Int) (a3 : ByteArray) (a4 : Option Addr × Nat × Nat), e = .returned (.tuple #[.agg #[.int .i64 a0, .int .i64 a1, .int .i64 a2, .string a3, .slice a4.1 a4.2.1 a4.2.2, .bool (voidAt (l.map JR.j) x)], .bool (hasId (l.map JR.j) x)])) ∧ Below w.heap.size w w' := by
  rw [hasId_map]
  unfold voidAt
  rw [findK_jr]
  cases hf : findK JR.id l x with
  | none => exact (refGet_none l x A n c B w h hB hn hf).mono fun e w' hh => ⟨⟨0, 0, 0, ⟨#[]⟩, (none, 0, 0), hh.1⟩, hh.2⟩
  | some a => exact (refGet_some l x a A n c B w h hB hn hf).mono fun e w' hh => ⟨⟨a.j.id, a.j.ent, a.j.per, a.j.ref, (a.A, a.j.lines.length, a.c), hh.1⟩, hh.2⟩

set_option maxRecDepth 100000 in
set_option maxHeartbeats 4000000 in
theorem refVoid_any (l : List JR) (x : Int) (A : Option Addr) (n c B : Nat) (w : World) (h : Rd w B 6 A n (jrs l)) (hB : B ≤ w.heap.size) (hn : n ≤ 1000000) :
    Calls Tryz.prog 16 #[.slice A n c, .int .i64 x] w fun e w' => e = .returned (.int .i64 (liveE (l.map JR.j) x)) ∧ Below w.heap.size w w' := by
  have kg := Lib.hid (refGet_live l x A n c B w h hB hn)
  have HC := Lib.hid (liveE_eqs (l.map JR.j) x)
  clear h
  generalize liveE (l.map JR.j) x = E at *
  generalize hasId (l.map JR.j) x = G at *
  generalize voidAt (l.map JR.j) x = V at *
  rcases HC.out with ⟨rfl, rfl⟩ | ⟨rfl, rfl, rfl⟩ | ⟨rfl, rfl, rfl⟩
  all_goals
    clear HC
    go_enter Tryz.func16, Tryz.ntmps16
    go_wp2_with fail
    refine kg.out.mono ?_
    rintro e w2 ⟨⟨a0, a1, a2, a3, a4, rfl⟩, hb2⟩
    obtain ⟨x4, x5, x6⟩ := a4
    dsimp only
    have HB3 : Hid (∀ o, Below w.heap.size w (w2.alloc o)) := fun o => hb2.alloc hb2.size o
    clear hb2
    go_wp2_with fail
    go_ret
    exact ⟨rfl, HB3.out _⟩

set_option maxRecDepth 100000 in
set_option maxHeartbeats 4000000 in
theorem refAmend_any (l : List JR) (j : Jrn) (A A2 : Option Addr) (n c n2 c2 B B2 : Nat) (w : World) (h : Rd w B 6 A n (jrs l)) (hB : B ≤ w.heap.size) (hn : n ≤ 1000000) (h2 : Rd w B2 3 A2 n2 (lins j.lines)) (hB2 : B2 ≤ w.heap.size) :
    Calls Tryz.prog 14 #[.slice A n c, j.val A2 n2 c2] w fun e w' => e = .returned (.int .i64 (amendE (l.map JR.j) j)) ∧ Below w.heap.size w w' := by
  obtain ⟨W, hW⟩ : ∃ W, w.alloc (.cells #[.int .i64 j.id, .int .i64 j.ent, .int .i64 j.per, .string j.ref, .slice A2 n2 c2, .bool j.void] 43) = W := ⟨_, rfl⟩
  have hbW : Below w.heap.size w W := by rw [← hW]; exact (Below.refl _ _).alloc (Nat.le_refl _) _
  have hzW : W.heap.size = w.heap.size + 1 := by rw [← hW]; simp
  have HW := Lib.hid hW
  have HBW := Lib.hid hbW
  have HR : Hid (∀ w1, Below W.heap.size W w1 → Rd w1 B 6 A n (jrs l)) := fun w1 hb => h.far (hbW.trans (hb.mono hbW.size)) hB
  have HFIN : Hid (∀ w1, Below W.heap.size W w1 → Below w.heap.size w w1) := fun w1 hb => hbW.trans (hb.mono hbW.size)
  have kc := Lib.hid (refCheck_any j A2 n2 c2 B2 W (h2.far hbW hB2) (by omega))
  have kg : Hid (∀ w1, Below W.heap.size W w1 → Calls Tryz.prog 18 #[.slice A n c, .int .i64 j.id] w1 fun e w' => (∃ (a0 a1 a2 : Int) (a3 : ByteArray) (a4 : Option Addr × Nat × Nat), e = .returned (.tuple #[.agg #[.int .i64 a0, .int .i64 a1, .int .i64 a2, .string a3, .slice a4.1 a4.2.1 a4.2.2, .bool (voidAt (l.map JR.j) j.id)], .bool (hasId (l.map JR.j) j.id)])) ∧ Below w1.heap.size w1 w') := fun w1 hb => refGet_live l j.id A n c B w1 (HR.out w1 hb) (by have := hb.size; omega) hn
  have kt : Hid (∀ w1, Below W.heap.size W w1 → Calls Tryz.prog 56 #[.slice A n c, j.val A2 n2 c2] w1 fun e w' => e = .returned (.bool (takenJ (l.map JR.j) j)) ∧ Below w1.heap.size w1 w') := fun w1 hb => refTakenR_any l j A A2 n c n2 c2 B w1 (HR.out w1 hb) (by have := hb.size; omega) hn
  have HC := Lib.hid (amendE_eqs (l.map JR.j) j)
  clear h h2 hW hbW
  generalize amendE (l.map JR.j) j = E at *
  generalize checkE j = K at *
  generalize hasId (l.map JR.j) j.id = G at *
  generalize voidAt (l.map JR.j) j.id = V at *
  generalize takenJ (l.map JR.j) j = T at *
  obtain ⟨id, ent, per, ref, L, void⟩ := j
  unfold Jrn.val at *
  dsimp only at *
  rcases HC.out with ⟨h1, rfl⟩ | ⟨rfl, rfl, rfl⟩ | ⟨rfl, rfl, rfl, rfl⟩ | ⟨rfl, rfl, rfl, rfl, rfl⟩ | ⟨rfl, rfl, rfl, rfl, rfl⟩
  all_goals
    clear HC
    try have ht : (E != 0) = true := by simpa using h1
    go_enter Tryz.func14, Tryz.ntmps14
    go_wp2_with fail
    rw [HW.out]
    refine kc.out.mono ?_
    rintro e w1 ⟨rfl, hb1⟩
    have HB1 := Lib.hid hb1
    obtain ⟨b0, b1, b2, b3, b4, b5⟩ := box6 HW.out hb1
    clear hb1
    go_wp2_with fail
    refine (kg.out w1 HB1.out).mono ?_
    rintro e w2 ⟨⟨a0, a1, a2, a3, a4, rfl⟩, hb2⟩
    have HB2 : Hid (Below W.heap.size W w2) := HB1.out.trans (hb2.mono HB1.out.size)
    clear hb2 b0 b1 b2 b3 b4 b5
    obtain ⟨x4, x5, x6⟩ := a4
    dsimp only
    have HB3 : Hid (∀ o, Below W.heap.size W (w2.alloc o)) := fun o => HB2.out.alloc HB2.out.size o
    obtain ⟨b0, b1, b2, b3, b4, b5⟩ := box6 HW.out HB2.out
    have hlt2 : w.heap.size < w2.heap.size := by have := HB2.out.size; omega
    go_wp2_with fail
    first
      | (go_ret; exact ⟨rfl, HFIN.out _ (HB3.out _)⟩)
      | (refine (kt.out _ (HB3.out _)).mono ?_
         rintro e w3 ⟨rfl, hb3⟩
         have HB4 := Lib.hid (HFIN.out _ ((HB3.out _).trans (hb3.mono (HB3.out _).size)))
         clear hb3 b0 b1 b2 b3 b4 b5
         go_wp2_with fail
         go_ret
         exact ⟨rfl, HB4.out⟩)

/-- What Drop answers. -/
def DropEnd (w : World) (l : List JR) (x : Int) (v : Value) (w' : World) : Prop :=
  w'.ownsRow w.heap.size 43 6 v (dropK JR.id l x).length (jrs (dropK JR.id l x)) ∧ Below w.heap.size w w'
theorem takeF_succ {l : List JR} {k : Nat} {b : JR} {f : JR → Bool} (hx : l[k]? = some b) : (l.take (k + 1)).filter f = (l.take k).filter f ++ (if f b = true then [b] else []) := by
  obtain ⟨h1, rfl⟩ := List.getElem?_eq_some_iff.1 hx
  rw [List.take_succ_eq_append_getElem h1, List.filter_append]
  congr 1
  rw [List.filter_cons]
  split <;> simp
set_option maxRecDepth 100000 in
set_option maxHeartbeats 4000000 in
theorem refDrop_any (l : List JR) (x : Int) (A : Option Addr) (n c B : Nat) (w : World) (h : Rd w B 6 A n (jrs l)) (hB : B ≤ w.heap.size) (hn : n ≤ 100000) (hr : Rise JR.id l) :
    Calls Tryz.prog 21 #[.slice A n c, .int .i64 x] w fun e w' => ∃ v, e = .returned v ∧ DropEnd w l x v w' := by
  have HL := Lib.hid h.jrs_len
  have HR : Hid (∀ w1, Below w.heap.size w w1 → Rd w1 B 6 A n (jrs l)) := fun w1 hb => h.far hb hB
  obtain ⟨f, hf⟩ : ∃ f : JR → Bool, f = fun a => JR.id a != x := ⟨_, rfl⟩
  have HE : Hid (∀ v w', w'.ownsRow w.heap.size 43 6 v ((l.take n).filter f).length (jrs ((l.take n).filter f)) → Below w.heap.size w w' → DropEnd w l x v w') := fun v w' h1 h2 => by
    rw [List.take_of_length_le (by rw [h.jrs_len]; exact Nat.le_refl _), hf, ← dropK_filter hr x] at h1
    exact ⟨h1, h2⟩
  have HFB : Hid (∀ b : JR, f b = (b.j.id != x)) := fun b => by rw [hf]; rfl
  clear h hr hf
  go_enter Tryz.func21, Tryz.ntmps21
  go_wp2_with fail
  go_loopw [5, 6] (fun ov iv wr => ∃ (k : Nat), k ≤ n ∧ iv = .int .i64 k ∧ (∃ A' m' c', ov = .slice A' m' c') ∧ wr.ownsRow w.heap.size 43 6 ov ((l.take k).filter f).length (jrs ((l.take k).filter f)) ∧ Below w.heap.size w wr) (fun _ iv _ => n - (intOf iv).toNat)
  case atStart => exact ⟨0, Nat.zero_le _, rfl, ⟨none, 0, 0, rfl⟩, World.ownsRow_nil _ _ _ _, Below.refl _ _⟩
  case round =>
    obtain ⟨k, hk, rfl, ⟨A', m', c', rfl⟩, hown, hbel⟩ := hrel
    by_cases hlt : k < n
    · have hkn : (k : Int) < (n : Int) := by omega
      obtain ⟨ad, b, rfl, hb1, hx, p1, p2, p3, p4, p5, p6⟩ := (HR.out wr hbel).jr hlt
      have hts := takeF_succ (f := f) hx
      rw [HFB.out b] at hts
      have hm : ((l.take k).filter f).length ≤ 1000000 := by have := List.length_filter_le f (l.take k); rw [List.length_take] at this; omega
      cases t2 : (b.j.id != x)
      · rw [t2] at hts
        rw [show (l.take k).filter f = (l.take (k + 1)).filter f by rw [hts]; simp] at hown
        have HO := Lib.hid hown
        have HB := Lib.hid hbel
        clear hown hbel hts hx hm
        go_wp2_with fail
        exact ⟨⟨k + 1, by omega, by go_num, ⟨_, _, _, rfl⟩, HO.out, HB.out⟩, by simp [intOf]; omega⟩
      · rw [t2] at hts
        have HRUN := Lib.hid (append_jrs b hown hbel.size hm)
        have HS : Hid (∀ A4 m4 c4 w', w'.ownsRow w.heap.size 43 6 (.slice A4 m4 c4) (((l.take k).filter f).length + 1) (jrs ((l.take k).filter f ++ [b])) → Below w.heap.size wr w' → w'.ownsRow w.heap.size 43 6 (.slice A4 m4 c4) ((l.take (k + 1)).filter f).length (jrs ((l.take (k + 1)).filter f)) ∧ Below w.heap.size w w') := fun A4 m4 c4 w' h1 h2 => by
          refine ⟨?_, hbel.trans h2⟩
          rw [hts, if_pos rfl, List.length_append]
          exact h1
        have hblt : ad.block < wr.heap.size := by have := hbel.size; omega
        clear hx hown hbel hts hm
        go_wp2_with (at_builtin; refine wpList_append_ex rfl _ _ _ rfl _ _ _ rfl rfl (HRUN.out 0) ?_; rintro _ w' ⟨A4, m4, c4, rfl, ho', hbut, hbl⟩; have HS2 := Lib.hid (HS.out _ _ _ _ ho' hbl); clear ho' hbut hbl)
        exact ⟨⟨k + 1, by omega, by go_num, ⟨_, _, _, rfl⟩, HS2.out.1, HS2.out.2⟩, by simp [intOf]; omega⟩
    · obtain rfl : k = n := by omega
      have HD := Lib.hid (HE.out _ _ hown hbel)
      clear hown hbel
      go_wp2_with fail
      go_ret
      exact ⟨_, rfl, HD.out⟩
end Go.Proofs.YtpbdmohccebhhaaGreat

/-
  Parts of a function's code. No code of the program.
-/
namespace Go.Proofs.YtpbdmohccebhhaaGreat
open Go.RowKit

/-- The part of a code that a way leads to: 0 the first half, 1 the second one; a block's, a loop's inside is 0. -/
def subCode : List Nat → Code → Code
  | [], c => c
  | 0 :: r, .seq a _ => subCode r a
  | _ :: r, .seq _ b => subCode r b
  | 0 :: r, .cond _ a _ => subCode r a
  | _ :: r, .cond _ _ b => subCode r b
  | _ :: r, .block _ c => subCode r c
  | _ :: r, .loop c => subCode r c
  | _ :: r, .scope c => subCode r c
  | _ :: _, c => c
end Go.Proofs.YtpbdmohccebhhaaGreat
