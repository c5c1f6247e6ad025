/-
  Several texts, one behind the other: what each holds stands ahead of it.
-/
import Derived.Test.YtmgncoialppmpaaGreatRefBook
import Derived.Test.YtmgncoialppmpaaGreatRefPut
import Derived.Test.YtmgncoialppmpaaGreatMany23
import Derived.Test.YtmgncoialppmpaaGreatRulesRev

/-
  Contracts of the reference's Post, Voided.
-/
namespace Go.Proofs.YtmgncoialppmpaaGreat
open Go.RowKit

theorem postE_eqs (M : List Jrn) (j : Jrn) : (checkE j ≠ 0 ∧ postE M j = checkE j) ∨ (checkE j = 0 ∧ hasId M j.id = true ∧ postE M j = 7) ∨ (checkE j = 0 ∧ hasId M j.id = false ∧ takenJ M j = true ∧ postE M j = 8) ∨ (checkE j = 0 ∧ hasId M j.id = false ∧ takenJ M j = false ∧ 200 ≤ M.length ∧ postE M j = 13) ∨ (checkE j = 0 ∧ hasId M j.id = false ∧ takenJ M j = false ∧ ¬ 200 ≤ M.length ∧ postE M j = 0) := by
  unfold postE
  by_cases h1 : checkE j = 0
  · cases h2 : hasId M j.id
    · cases h3 : takenJ M j
      · by_cases h4 : 200 ≤ M.length
        · simp [h1, h4]
        · simp [h1, h4]
      · simp [h1]
    · simp [h1]
  · simp [h1]
/-- The reference's Get, whatever is found: the one that the book's Post asks. -/
theorem refGet_has (l : List JR) (x : Int) (A : Option Addr) (n c B : Nat) (w : World) (h : Rd w B 6 A n (jrs l)) (hB : B ≤ w.heap.size) (hn : n ≤ 1000000) :
    Calls Tryz.prog 34 #[.slice A n c, .int .i64 x] w fun e w' => (∃ (a0 a1 a2 : Int) (a3 : ByteArray) (a4 : Option Addr × Nat × Nat) (a5 : Bool), e = .returned (.tuple #[.agg #[.int .i64 a0, .int .i64 a1, .int .i64 a2, .string a3, .slice a4.1 a4.2.1 a4.2.2, .bool a5], .bool (hasId (l.map JR.j) x)])) ∧ Below w.heap.size w w' := by
  rw [hasId_map]
  cases hf : findK JR.id l x with
  | none => exact (refGet_none l x A n c B w h hB hn hf).mono fun e w' hh => ⟨⟨0, 0, 0, ⟨#[]⟩, (none, 0, 0), false, hh.1⟩, hh.2⟩
  | some a => exact (refGet_some l x a A n c B w h hB hn hf).mono fun e w' hh => ⟨⟨a.j.id, a.j.ent, a.j.per, a.j.ref, (a.A, a.j.lines.length, a.c), a.j.void, hh.1⟩, hh.2⟩

set_option maxRecDepth 100000 in
set_option maxHeartbeats 4000000 in
theorem refPost_any (l : List JR) (j : Jrn) (A A2 : Option Addr) (n c n2 c2 B B2 : Nat) (w : World) (h : Rd w B 6 A n (jrs l)) (hB : B ≤ w.heap.size) (hn : n ≤ 1000000) (h2 : Rd w B2 3 A2 n2 (lins j.lines)) (hB2 : B2 ≤ w.heap.size) :
    Calls Tryz.prog 79 #[.slice A n c, j.val A2 n2 c2] w fun e w' => e = .returned (.int .i64 (postE (l.map JR.j) j)) ∧ Below w.heap.size w w' := by
  obtain ⟨W, hW⟩ : ∃ W, w.alloc (.cells #[.int .i64 j.id, .int .i64 j.ent, .int .i64 j.per, .string j.ref, .slice A2 n2 c2, .bool j.void] 29) = W := ⟨_, rfl⟩
  have hbW : Below w.heap.size w W := by rw [← hW]; exact (Below.refl _ _).alloc (Nat.le_refl _) _
  have hzW : W.heap.size = w.heap.size + 1 := by rw [← hW]; simp
  have HW := Lib.hid hW
  have HBW := Lib.hid hbW
  have HR : Hid (∀ w1, Below W.heap.size W w1 → Rd w1 B 6 A n (jrs l)) := fun w1 hb => h.far (hbW.trans (hb.mono hbW.size)) hB
  have HFIN : Hid (∀ w1, Below W.heap.size W w1 → Below w.heap.size w w1) := fun w1 hb => hbW.trans (hb.mono hbW.size)
  have kc := Lib.hid (refCheck_any j A2 n2 c2 B2 W (h2.far hbW hB2) (by omega))
  have kg : Hid (∀ w1, Below W.heap.size W w1 → Calls Tryz.prog 34 #[.slice A n c, .int .i64 j.id] w1 fun e w' => (∃ (a0 a1 a2 : Int) (a3 : ByteArray) (a4 : Option Addr × Nat × Nat) (a5 : Bool), e = .returned (.tuple #[.agg #[.int .i64 a0, .int .i64 a1, .int .i64 a2, .string a3, .slice a4.1 a4.2.1 a4.2.2, .bool a5], .bool (hasId (l.map JR.j) j.id)])) ∧ Below w1.heap.size w1 w') := fun w1 hb => refGet_has l j.id A n c B w1 (HR.out w1 hb) (by have := hb.size; omega) hn
  have kt : Hid (∀ w1, Below W.heap.size W w1 → Calls Tryz.prog 85 #[.slice A n c, j.val A2 n2 c2] w1 fun e w' => e = .returned (.bool (takenJ (l.map JR.j) j)) ∧ Below w1.heap.size w1 w') := fun w1 hb => refTakenR_any l j A A2 n c n2 c2 B w1 (HR.out w1 hb) (by have := hb.size; omega) hn
  have hlen : (l.map JR.j).length = n := by rw [List.length_map]; exact h.jrs_len
  have HC := Lib.hid (postE_eqs (l.map JR.j) j)
  rw [hlen] at HC
  clear h h2 hW hbW hlen
  generalize postE (l.map JR.j) j = E at *
  generalize checkE j = K at *
  generalize hasId (l.map JR.j) j.id = G at *
  generalize takenJ (l.map JR.j) j = T at *
  obtain ⟨id, ent, per, ref, L, void⟩ := j
  unfold Jrn.val at *
  dsimp only at *
  rcases HC.out with ⟨h1, rfl⟩ | ⟨rfl, rfl, rfl⟩ | ⟨rfl, rfl, rfl, rfl⟩ | ⟨rfl, rfl, rfl, h4, rfl⟩ | ⟨rfl, rfl, rfl, h4, rfl⟩
  all_goals
    clear HC
    try have ht : (E != 0) = true := by simpa using h1
    try have hI : (200 : Int) ≤ (n : Int) := by omega
    try have hI : ¬ (200 : Int) ≤ (n : Int) := by omega
    go_enter Tryz.func79, Tryz.ntmps79
    go_wp2_with fail
    rw [HW.out]
    refine kc.out.mono ?_
    rintro e w1 ⟨rfl, hb1⟩
    have HB1 := Lib.hid hb1
    obtain ⟨b0, b1, b2, b3, b4, b5⟩ := box6 HW.out hb1
    clear hb1
    go_wp2_with fail
    refine (kg.out w1 HB1.out).mono ?_
    rintro e w2 ⟨⟨a0, a1, a2, a3, a4, a5, rfl⟩, hb2⟩
    have HB2 : Hid (Below W.heap.size W w2) := HB1.out.trans (hb2.mono HB1.out.size)
    clear hb2 b0 b1 b2 b3 b4 b5
    obtain ⟨x4, x5, x6⟩ := a4
    dsimp only
    have HB3 : Hid (∀ o, Below W.heap.size W (w2.alloc o)) := fun o => HB2.out.alloc HB2.out.size o
    obtain ⟨b0, b1, b2, b3, b4, b5⟩ := box6 HW.out HB2.out
    have hlt2 : w.heap.size < w2.heap.size := by have := HB2.out.size; omega
    go_wp2_with fail
    first
      | (go_ret; exact ⟨rfl, HFIN.out _ (HB3.out _)⟩)
      | (refine (kt.out _ (HB3.out _)).mono ?_
         rintro e w3 ⟨rfl, hb3⟩
         have HB4 := Lib.hid (HFIN.out _ ((HB3.out _).trans (hb3.mono (HB3.out _).size)))
         clear hb3 b0 b1 b2 b3 b4 b5
         go_wp2_with fail
         go_ret
         exact ⟨rfl, HB4.out⟩)
set_option maxRecDepth 100000 in
set_option maxHeartbeats 1000000 in
theorem refVoided_any (j : Jrn) (A : Option Addr) (n c : Nat) (w : World) :
    Calls Tryz.prog 87 #[j.val A n c] w fun e w' => e = .returned (.agg #[.int .i64 j.id, .int .i64 j.ent, .int .i64 j.per, .string j.ref, .slice A n c, .bool true]) ∧ Below w.heap.size w w' := by
  have HB : Hid (∀ o1 o2, Below w.heap.size w ((w.alloc o1).alloc o2)) := fun o1 o2 => ((Below.refl _ _).alloc (Nat.le_refl _) o1).alloc (by simp) o2
  unfold Jrn.val
  go_enter Tryz.func87, Tryz.ntmps87
  go_wp2_with fail
  refine bodyPost_ret (v := .agg #[.int .i64 j.id, .int .i64 j.ent, .int .i64 j.per, .string j.ref, .slice A n c, .bool true]) (by simp [results, Tryz.results87, go_sem]) rfl ⟨rfl, HB.out _ _⟩
end Go.Proofs.YtmgncoialppmpaaGreat

/-
  Contracts of the reference's Amend, Void, Drop over journals.
-/
namespace Go.Proofs.YtmgncoialppmpaaGreat
open Go.RowKit

/-- Whether what is found is void. -/
def voidAt (M : List Jrn) (x : Int) : Bool := match findK Jrn.id M x with | none => false | some b => b.void
theorem liveE_eqs (M : List Jrn) (x : Int) : (hasId M x = false ∧ liveE M x = 9) ∨ (hasId M x = true ∧ voidAt M x = true ∧ liveE M x = 11) ∨ (hasId M x = true ∧ voidAt M x = false ∧ liveE M x = 0) := by
  unfold hasId voidAt liveE
  cases findK Jrn.id M x with
  | none => exact .inl ⟨rfl, rfl⟩
  | some b => cases h : b.void <;> simp
theorem amendE_eqs (M : List Jrn) (j : Jrn) : (checkE j ≠ 0 ∧ amendE M j = checkE j) ∨ (checkE j = 0 ∧ hasId M j.id = false ∧ amendE M j = 9) ∨ (checkE j = 0 ∧ hasId M j.id = true ∧ voidAt M j.id = true ∧ amendE M j = 11) ∨ (checkE j = 0 ∧ hasId M j.id = true ∧ voidAt M j.id = false ∧ takenJ M j = true ∧ amendE M j = 8) ∨ (checkE j = 0 ∧ hasId M j.id = true ∧ voidAt M j.id = false ∧ takenJ M j = false ∧ amendE M j = 0) := by
  unfold amendE
  by_cases h1 : checkE j = 0
  · rcases liveE_eqs M j.id with ⟨h2, h3⟩ | ⟨h2, h3, h4⟩ | ⟨h2, h3, h4⟩
    · simp [h1, h2, h3]
    · simp [h1, h2, h3, h4]
    · cases h5 : takenJ M j <;> simp [h1, h2, h3, h4]
  · simp [h1]
theorem findK_jr (l : List JR) (x : Int) : findK Jrn.id (l.map JR.j) x = (findK JR.id l x).map JR.j := findK_map JR.j l x
/-- The reference's Get, whatever is found, and whether that is void. -/
theorem refGet_live (l : List JR) (x : Int) (A : Option Addr) (n c B : Nat) (w : World) (h : Rd w B 6 A n (jrs l)) (hB : B ≤ w.heap.size) (hn : n ≤ 1000000) :
    Calls Tryz.prog 34 #[.slice A n c, .int .i64 x] w fun e w' => (∃ (a0 a1 a2 : Int) (a3 : ByteArray) (a4 : Option Addr × Nat × Nat), e = .returned (.tuple #[.agg #[.int .i64 a0, .int .i64 a1, .int .i64 a2, .string a3, .slice a4.1 a4.2.1 a4.2.2, .bool (voidAt (l.map JR.j) x)], .bool (hasId (l.map JR.j) x)])) ∧ Below w.heap.size w w' := by
  rw [hasId_map]
  unfold voidAt
  rw [findK_jr]
  cases hf : findK JR.id l x with
  | none => exact (refGet_none l x A n c B w h hB hn hf).mono fun e w' hh => ⟨⟨0, 0, 0, ⟨#[]⟩, (none, 0, 0), hh.1⟩, hh.2⟩
  | some a => exact (refGet_some l x a A n c B w h hB hn hf).mono fun e w' hh => ⟨⟨a.j.id, a.j.ent, a.j.per, a.j.ref, (a.A, a.j.lines.length, a.c), hh.1⟩, hh.2⟩

/-- What Drop answers. -/
def DropEnd (w : World) (l : List JR) (x : Int) (v : Value) (w' : World) : Prop :=
  w'.ownsRow w.heap.size 29 6 v (dropK JR.id l x).length (jrs (dropK JR.id l x)) ∧ Below w.heap.size w w'
theorem takeF_succ {l : List JR} {k : Nat} {b : JR} {f : JR → Bool} (hx : l[k]? = some b) : (l.take (k + 1)).filter f = (l.take k).filter f ++ (if f b = true then [b] else []) := by
  obtain ⟨h1, rfl⟩ := List.getElem?_eq_some_iff.1 hx
  rw [List.take_succ_eq_append_getElem h1, List.filter_append]
  congr 1
  rw [List.filter_cons]
  split <;> simp
end Go.Proofs.YtmgncoialppmpaaGreat

/-
  The reference's answers of Post, Amend, Void, Reverse by the rules, held against the spec's. No code.
-/
namespace Go.Proofs.YtmgncoialppmpaaGreat
open Go.RowKit

theorem firstE_cons (x : Int) (r : List Int) : firstE (x :: r) = if x = 0 then firstE r else x := rfl
theorem firstE_nil : firstE [] = 0 := rfl
/-- The lists that the reference asks. -/
def post5 (C : List Acc) (G : List Trio) (M : List Jrn) (j : Jrn) : List Int := [checkE j, liveECh C (accts j.lines), mayT G j.ent j.per, if j.void = true then 1 else 0, postE M j]
theorem rPost_no {C : List Acc} {G : List Trio} {M : List Jrn} {j : Jrn} (h : firstE (post5 C G M j) ≠ 0) : rPostE C G M j = firstE (post5 C G M j) := by
  unfold rPostE postsE
  unfold post5 at *
  simp only [firstE_cons, firstE_nil, if_true] at *
  repeat' split
  all_goals first | rfl | (exfalso; revert h; simp [*])
theorem rPost_yes {C : List Acc} {G : List Trio} {M : List Jrn} {j : Jrn} (h : firstE (post5 C G M j) = 0) : checkE j = 0 ∧ postE M j = 0 ∧ rPostE C G M j = moneyE (putK Jrn.id M j) := by
  unfold post5 at h
  simp only [firstE_cons, firstE_nil] at h
  have h1 : checkE j = 0 := by
    by_cases h1 : checkE j = 0
    · exact h1
    · rw [if_neg h1] at h; exact absurd h h1
  rw [if_pos h1] at h
  have h2 : liveECh C (accts j.lines) = 0 := by
    by_cases h1 : liveECh C (accts j.lines) = 0
    · exact h1
    · rw [if_neg h1] at h; exact absurd h h1
  rw [if_pos h2] at h
  have h3 : mayT G j.ent j.per = 0 := by
    by_cases h1 : mayT G j.ent j.per = 0
    · exact h1
    · rw [if_neg h1] at h; exact absurd h h1
  rw [if_pos h3] at h
  have h4 : (if j.void = true then (1 : Int) else 0) = 0 := by
    by_cases h1 : (if j.void = true then (1 : Int) else 0) = 0
    · exact h1
    · rw [if_neg h1] at h; exact absurd h h1
  rw [if_pos h4] at h
  have h5 : postE M j = 0 := by
    by_cases h1 : postE M j = 0
    · exact h1
    · rw [if_neg h1] at h; exact absurd h h1
  refine ⟨h1, h5, ?_⟩
  unfold rPostE postsE
  have h6 : postL M j = putK Jrn.id M j := by unfold postL; rw [if_pos h5]
  simp only [firstE_cons, firstE_nil, if_true, h1, h2, h3, h4, h5, h6]
  split
  · rename_i h; rw [h]
  · rfl
/-- The old journal as a row. -/
def oldR (l : List JR) (x : Int) : JR := (findK JR.id l x).getD zeroR
theorem oldR_j (l : List JR) (x : Int) : (oldR l x).j = oldJ (l.map JR.j) x := by
  unfold oldR oldJ
  rw [findK_jr]
  cases findK JR.id l x <;> rfl
theorem liveE_two (M : List Jrn) (x : Int) : firstE [if (!hasId M x) = true then 9 else 0, if (oldJ M x).void = true then 11 else 0] = liveE M x := by
  unfold hasId liveE oldJ
  cases findK Jrn.id M x with
  | none => rfl
  | some b => cases hb : b.void <;> simp [firstE, hb]
theorem liveE_has {M : List Jrn} {x : Int} (h : liveE M x = 0) : hasId M x = true ∧ (oldJ M x).void = false ∧ oldJ M x ∈ M ∧ (oldJ M x).id = x := by
  unfold hasId liveE oldJ at *
  cases hf : findK Jrn.id M x with
  | none => rw [hf] at h; cases h
  | some b =>
    rw [hf] at h
    cases hb : b.void
    · exact ⟨rfl, hb, findK_mem hf⟩
    · simp [hb] at h
def amend4 (C : List Acc) (M : List Jrn) (j : Jrn) : List Int := [checkE j, liveECh C (accts j.lines), if (!hasId M j.id) = true then 9 else 0, if (oldJ M j.id).void = true then 11 else 0]
def amendB (G : List Trio) (M : List Jrn) (j : Jrn) : List Int := [mayT G (oldJ M j.id).ent (oldJ M j.id).per, mayT G j.ent j.per, if (j.void || !(j.ent == (oldJ M j.id).ent)) = true then 1 else 0, if takenJ M j = true then 8 else 0]
theorem amend4_eq (C : List Acc) (M : List Jrn) (j : Jrn) : firstE (amend4 C M j) = firstE [checkE j, liveECh C (accts j.lines), liveE M j.id] := by
  unfold amend4
  rw [firstE_cons, firstE_cons, liveE_two, firstE_cons, firstE_cons, firstE_cons, firstE_nil]
  by_cases h : liveE M j.id = 0 <;> simp [h]
theorem rAmend_no {C : List Acc} {G : List Trio} {M : List Jrn} {j : Jrn} (h : firstE (amend4 C M j) ≠ 0) : rAmendE C G M j = firstE (amend4 C M j) := by
  rw [amend4_eq] at *
  unfold rAmendE amendsE
  simp only [firstE_cons, firstE_nil, if_true] at *
  repeat' split
  all_goals first | rfl | (exfalso; revert h; simp [*])
theorem rAmend_mid {C : List Acc} {G : List Trio} {M : List Jrn} {j : Jrn} (h : firstE (amend4 C M j) = 0) : checkE j = 0 ∧ liveE M j.id = 0 ∧ rAmendE C G M j = if firstE (amendB G M j) = 0 then moneyE (putK Jrn.id M j) else firstE (amendB G M j) := by
  rw [amend4_eq] at h
  simp only [firstE_cons, firstE_nil] at h
  have h1 : checkE j = 0 := by
    by_cases h1 : checkE j = 0
    · exact h1
    · rw [if_neg h1] at h; exact absurd h h1
  rw [if_pos h1] at h
  have h2 : liveECh C (accts j.lines) = 0 := by
    by_cases h1 : liveECh C (accts j.lines) = 0
    · exact h1
    · rw [if_neg h1] at h; exact absurd h h1
  rw [if_pos h2] at h
  have h3 : liveE M j.id = 0 := by
    by_cases h1 : liveE M j.id = 0
    · exact h1
    · rw [if_neg h1] at h; exact absurd h h1
  refine ⟨h1, h3, ?_⟩
  have h5 : amendE M j = if takenJ M j = true then 8 else 0 := by unfold amendE; rw [if_pos h1, if_pos h3]
  have h6 : takenJ M j = false → amendL M j = putK Jrn.id M j := fun ht => by unfold amendL; rw [h5, ht]; rfl
  unfold rAmendE amendsE amendB
  simp only [firstE_cons, firstE_nil, if_true, h1, h2, h3]
  by_cases g1 : mayT G (oldJ M j.id).ent (oldJ M j.id).per = 0
  · by_cases g2 : mayT G j.ent j.per = 0
    · simp only [if_pos g1, if_pos g2]
      cases g3 : j.void
      · by_cases g4 : j.ent = (oldJ M j.id).ent
        · cases g5 : takenJ M j
          · rw [h6 g5, h5, g5]
            simp [g4]
            intro e; exact e.symm
          · rw [h5, g5]
            simp [g4]
        · simp [g4]
      · simp
    · simp only [if_pos g1, if_neg g2]
  · simp only [if_neg g1]
theorem rVoid_no {G : List Trio} {M : List Jrn} {id : Int} (h : liveE M id ≠ 0) : rVoidE G M id = liveE M id := by
  unfold rVoidE voidsE
  simp only [firstE_cons, if_true]
  rw [if_neg h]
theorem rVoid_shut {G : List Trio} {M : List Jrn} {id : Int} (h : liveE M id = 0) (h2 : mayT G (oldJ M id).ent (oldJ M id).per ≠ 0) : rVoidE G M id = mayT G (oldJ M id).ent (oldJ M id).per := by
  unfold rVoidE voidsE
  simp only [firstE_cons, if_true]
  rw [if_pos h, if_neg h2]
theorem rVoid_yes {G : List Trio} {M : List Jrn} {id : Int} (h : liveE M id = 0) (h2 : mayT G (oldJ M id).ent (oldJ M id).per = 0) : rVoidE G M id = moneyE (putK Jrn.id M (voidJ (oldJ M id))) := by
  have h6 : voidL M id = putK Jrn.id M (voidJ (oldJ M id)) := by
    unfold voidL
    rw [if_pos h]
    unfold liveE at h
    unfold oldJ
    cases hf : findK Jrn.id M id with
    | none => rw [hf] at h; cases h
    | some b => rfl
  unfold rVoidE voidsE
  simp only [firstE_cons, firstE_nil, if_true]
  rw [if_pos h, if_pos h2, if_pos h, h6]
  split
  · rename_i e; exact e.symm
  · rfl
theorem void_two (G : List Trio) (M : List Jrn) (id : Int) : firstE [if (!hasId M id) = true then 9 else 0, if (oldJ M id).void = true then 11 else 0] = liveE M id := liveE_two M id
end Go.Proofs.YtmgncoialppmpaaGreat
