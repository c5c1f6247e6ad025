/-
  Several texts, one behind the other: what each holds stands ahead of it.
-/
import Derived.Test.YtafloaabjinkfaaGreatMany5
import Derived.Test.YtafloaabjinkfaaGreatMany24
import Derived.BigQuiet
import Derived.Test.YtafloaabjinkfaaGreatMany3
import Derived.Test.YtafloaabjinkfaaGreatMany7
import Derived.LoopN
import Derived.Laws.EntriesVeiled

/-
  Contracts of the reference's Get, Taken, Post, Voided, over journals.
-/
namespace Go.Proofs.YtafloaabjinkfaaGreat
open Go.RowKit

set_option maxRecDepth 100000 in
set_option maxHeartbeats 2000000 in
theorem refGet_some (l : List JR) (x : Int) (a : JR) (A : Option Addr) (n c B : Nat) (w : World) (h : Rd w B 6 A n (jrs l)) (hB : B ≤ w.heap.size) (hn : n ≤ 1000000) (hf : findK JR.id l x = some a) :
    Calls Tryz.prog 35 #[.slice A n c, .int .i64 x] w fun e w' => e = .returned (.tuple #[.agg #[.int .i64 a.j.id, .int .i64 a.j.ent, .int .i64 a.j.per, .string a.j.ref, .slice a.A a.j.lines.length a.c, .bool a.j.void], .bool true]) ∧ Below w.heap.size w w' := by
  obtain ⟨W, hW⟩ : ∃ W, w.alloc (.cells #[.int .i64 0, .int .i64 0, .int .i64 0, .string ⟨#[]⟩, .slice none 0 0, .bool false] 29) = W := ⟨_, rfl⟩
  have hbW : Below w.heap.size w W := by rw [← hW]; exact (Below.refl _ _).alloc (Nat.le_refl _) _
  have hres : JAt W w.heap.size zeroJ none 0 0 := by rw [← hW]; exact heap_new w _
  have HW := Lib.hid hW
  have HBW := Lib.hid hbW
  have HL := Lib.hid h.jrs_len
  have HR := Lib.hid (h.far hbW hB)
  obtain ⟨y0, y1, y2, y3, y4, y5⟩ := six_cells hres
  have yf := fun o => warm_of hres o
  have hlt3 : w.heap.size < W.heap.size := lt_of_blk hres
  have HF := Lib.hid hf
  clear h hres hbW hW hf
  go_enter Tryz.func35, Tryz.ntmps35
  go_wp2_with fail
  rw [HW.out]
  go_loopw [6] (fun iv wr => ∃ k : Nat, k ≤ n ∧ iv = .int .i64 k ∧ Hid (∀ i b, i < k → l[i]? = some b → JR.id b ≠ x) ∧ wr = W) (fun iv _ => n - (intOf iv).toNat)
  case atStart => exact ⟨0, Nat.zero_le _, rfl, fun i b hi => by omega, rfl⟩
  case round =>
    obtain ⟨k, hk, rfl, hno, rfl⟩ := hrel
    by_cases hlt : k < n
    · obtain ⟨ad, b, rfl, hb1, hx, p1, p2, p3, p4, p5, p6⟩ := HR.out.jr hlt
      have hkn : (k : Int) < (n : Int) := by omega
      have hblt : ad.block < wr.heap.size := by omega
      by_cases hid : b.j.id = x
      · have hba : b = a := by
          have h1 : findK JR.id l x = some b := by
            unfold findK
            rw [List.find?_eq_some_iff_getElem]
            obtain ⟨h2, h3⟩ := List.getElem?_eq_some_iff.1 hx
            refine ⟨by simpa [JR.id] using hid, k, h2, h3, fun i hi => ?_⟩
            have := hno.out i _ hi (List.getElem?_eq_getElem (by omega))
            simpa using this
          have h2 := HF.out
          rw [h1] at h2
          injection h2
        subst hba
        have ht : (b.j.id == x) = true := by simp [hid]
        clear hx hno hid
        go_wp2_with fail
        refine bodyPost_ret (v := .tuple #[.agg #[.int .i64 b.j.id, .int .i64 b.j.ent, .int .i64 b.j.per, .string b.j.ref, .slice b.A b.j.lines.length b.c, .bool b.j.void], .bool true]) (by simp [results, Tryz.results35, go_sem, y0, y1, y2, y3, y4, y5]) rfl ⟨rfl, ?_⟩
        exact below_six HBW.out (Nat.le_refl _) _ _ _ _ _ _
      · have ht : (b.j.id == x) = false := by simp [hid]
        have HNO : Hid (∀ i b, i < k + 1 → l[i]? = some b → JR.id b ≠ x) := by
          intro i b2 hi hb2
          rcases Nat.lt_or_ge i k with h1 | h1
          · exact hno.out i b2 h1 hb2
          · obtain rfl : i = k := by omega
            rw [hx] at hb2
            injection hb2 with hb2
            rw [← hb2]; exact hid
        clear hx hno hid
        go_wp2_with fail
        exact ⟨⟨k + 1, by omega, by go_num, HNO, by first | rfl | trivial⟩, by simp [intOf]; omega⟩
    · exfalso
      obtain ⟨h1, h2⟩ := findK_mem HF.out
      obtain ⟨i, hi⟩ := List.mem_iff_getElem?.1 h1
      exact hno.out i a (by have := (List.getElem?_eq_some_iff.1 hi).1; have := HL.out; omega) hi h2

set_option maxRecDepth 100000 in
set_option maxHeartbeats 2000000 in
theorem refGet_none (l : List JR) (x : Int) (A : Option Addr) (n c B : Nat) (w : World) (h : Rd w B 6 A n (jrs l)) (hB : B ≤ w.heap.size) (hn : n ≤ 1000000) (hf : findK JR.id l x = none) :
    Calls Tryz.prog 35 #[.slice A n c, .int .i64 x] w fun e w' => e = .returned (.tuple #[.agg #[.int .i64 0, .int .i64 0, .int .i64 0, .string ⟨#[]⟩, .slice none 0 0, .bool false], .bool false]) ∧ Below w.heap.size w w' := by
  obtain ⟨W, hW⟩ : ∃ W, w.alloc (.cells #[.int .i64 0, .int .i64 0, .int .i64 0, .string ⟨#[]⟩, .slice none 0 0, .bool false] 29) = W := ⟨_, rfl⟩
  have hbW : Below w.heap.size w W := by rw [← hW]; exact (Below.refl _ _).alloc (Nat.le_refl _) _
  have hres : JAt W w.heap.size zeroJ none 0 0 := by rw [← hW]; exact heap_new w _
  have HW := Lib.hid hW
  have HBW := Lib.hid hbW
  have HR := Lib.hid (h.far hbW hB)
  obtain ⟨y0, y1, y2, y3, y4, y5⟩ := six_cells hres
  have yf := fun o => warm_of hres o
  have hlt3 : w.heap.size < W.heap.size := lt_of_blk hres
  have HF := Lib.hid (findK_no hf)
  clear h hres hbW hW hf
  go_enter Tryz.func35, Tryz.ntmps35
  go_wp2_with fail
  rw [HW.out]
  go_loopw [6] (fun iv wr => ∃ k : Nat, k ≤ n ∧ iv = .int .i64 k ∧ wr = W) (fun iv _ => n - (intOf iv).toNat)
  case atStart => exact ⟨0, Nat.zero_le _, rfl, rfl⟩
  case round =>
    obtain ⟨k, hk, rfl, rfl⟩ := hrel
    by_cases hlt : k < n
    · obtain ⟨ad, b, rfl, hb1, hx, p1, p2, p3, p4, p5, p6⟩ := HR.out.jr hlt
      have hkn : (k : Int) < (n : Int) := by omega
      have ht : (b.j.id == x) = false := by
        have := HF.out b (List.mem_of_getElem? hx)
        simpa [JR.id] using this
      clear hx
      go_wp2_with fail
      exact ⟨⟨k + 1, by omega, by go_num, by first | rfl | trivial⟩, by simp [intOf]; omega⟩
    · go_wp2_with fail
      refine bodyPost_ret (v := .tuple #[.agg #[.int .i64 0, .int .i64 0, .int .i64 0, .string ⟨#[]⟩, .slice none 0 0, .bool false], .bool false]) (by simp [results, Tryz.results35, go_sem, y0, y1, y2, y3, y4, y5]) rfl ⟨rfl, ?_⟩
      exact below_six HBW.out (Nat.le_refl _) _ _ _ _ _ _

def hitJ (j b : Jrn) : Bool := !(b.id == j.id) && !b.void && (b.ref.toList == j.ref.toList) && (b.ent == j.ent)
theorem takenJ_hits {M : List Jrn} {j : Jrn} (h1 : (j.ref.toList == []) = false) (h2 : j.void = false) : takenJ M j = M.any (hitJ j) := by
  unfold takenJ
  rw [List.not_all_eq_any_not]
  congr 1
  funext b
  unfold leavesRef hitJ holdsRef
  rw [h1, h2]
  cases (b.id == j.id) <;> cases b.void <;> cases (b.ref.toList == j.ref.toList) <;> cases (b.ent == j.ent) <;> rfl
theorem takenJ_empty {M : List Jrn} {j : Jrn} (h1 : (j.ref.toList == []) = true) : takenJ M j = false := by
  unfold takenJ
  rw [Bool.not_eq_false', List.all_eq_true]
  intro b _
  unfold leavesRef holdsRef
  rw [h1]
  simp
theorem takenJ_void {M : List Jrn} {j : Jrn} (h2 : j.void = true) : takenJ M j = false := by
  unfold takenJ
  rw [Bool.not_eq_false', List.all_eq_true]
  intro b _
  unfold leavesRef
  rw [h2]
  simp
theorem any_maps {f : Jrn → Bool} (l : List JR) : (l.map JR.j).any f = l.any fun a => f a.j := by rw [List.any_map]; rfl
set_option maxRecDepth 100000 in
set_option maxHeartbeats 4000000 in
theorem refTakenR_any (l : List JR) (j : Jrn) (A A2 : Option Addr) (n c n2 c2 B : Nat) (w : World) (h : Rd w B 6 A n (jrs l)) (hB : B ≤ w.heap.size) (hn : n ≤ 1000000) :
    Calls Tryz.prog 63 #[.slice A n c, j.val A2 n2 c2] w fun e w' => e = .returned (.bool (takenJ (l.map JR.j) j)) ∧ Below w.heap.size w w' := by
  obtain ⟨W, hW⟩ : ∃ W, w.alloc (.cells #[.int .i64 j.id, .int .i64 j.ent, .int .i64 j.per, .string j.ref, .slice A2 n2 c2, .bool j.void] 29) = W := ⟨_, rfl⟩
  have hbW : Below w.heap.size w W := by rw [← hW]; exact (Below.refl _ _).alloc (Nat.le_refl _) _
  have hbox : W.heap[w.heap.size]? = some (.cells #[.int .i64 j.id, .int .i64 j.ent, .int .i64 j.per, .string j.ref, .slice A2 n2 c2, .bool j.void] 29 (0, 0)) := by rw [← hW]; exact heap_new w _
  obtain ⟨y0, y1, y2, y3, y4, y5⟩ := six_cells hbox
  have HW := Lib.hid hW
  have HBW := Lib.hid hbW
  have HL := Lib.hid h.jrs_len
  have HR := Lib.hid (h.far hbW hB)
  clear h hbW hW hbox
  by_cases h1 : (j.ref.toList == []) = true ∨ j.void = true
  · have HT : Hid (takenJ (l.map JR.j) j = false) := h1.elim (fun h => takenJ_empty h) fun h => takenJ_void h
    rw [HT.out]
    have HC : Hid ((j.ref.toList == []) = true ∨ (j.ref.toList == []) = false ∧ j.void = true) := by
      unfold Hid
      rcases h1 with h1 | h1
      · exact .inl h1
      · cases h5 : (j.ref.toList == [])
        · exact .inr ⟨rfl, h1⟩
        · exact .inl rfl
    obtain ⟨id, ent, per, ref, L, void⟩ := j
    unfold Jrn.val
    dsimp only at *
    rcases HC.out with h2 | ⟨h2, rfl⟩
    all_goals
      clear h1 HC HT
      by_cases hk : 0 < n
      all_goals
        go_enter Tryz.func63, Tryz.ntmps63
        go_wp2_with fail
        rw [HW.out]
        refine wp_loop_rounds 1 ?_
        rw [rounds_succ]
        go_wp2_with fail
        go_ret
        exact ⟨rfl, HBW.out⟩
  · have h2 : (j.ref.toList == []) = false := by
      cases h3 : (j.ref.toList == [])
      · rfl
      · exact absurd (.inl h3) h1
    have h3 : j.void = false := by
      cases h4 : j.void
      · rfl
      · exact absurd (.inr h4) h1
    rw [takenJ_hits h2 h3, any_maps]
    rw [h3] at HW y5
    clear h1
    obtain ⟨id, ent, per, ref, L, void⟩ := j
    unfold Jrn.val
    dsimp only at *
    subst h3
    go_enter Tryz.func63, Tryz.ntmps63
    go_wp2_with fail
    rw [HW.out]
    go_loopw [5] (fun iv wr => ∃ k : Nat, k ≤ n ∧ iv = .int .i64 k ∧ Hid (∀ i b, i < k → l[i]? = some b → hitJ ⟨id, ent, per, ref, L, false⟩ b.j = false) ∧ Drew W wr) (fun iv _ => n - (intOf iv).toNat)
    case atStart => exact ⟨0, Nat.zero_le _, rfl, fun i b hi => by omega, Drew.refl _⟩
    case round =>
      obtain ⟨k, hk, rfl, hno, q, rfl⟩ := hrel
      have HB2 : Hid (∀ q, Below w.heap.size w (W.drewN q)) := fun q => below_drewN HBW.out q
      by_cases hlt : k < n
      · obtain ⟨ad, b, rfl, hb1, hx, p1, p2, p3, p4, p5, p6⟩ := HR.out.jr hlt
        have hkn : (k : Int) < (n : Int) := by omega
        have HNO : Hid (hitJ ⟨id, ent, per, ref, L, false⟩ b.j = false → ∀ i b, i < k + 1 → l[i]? = some b → hitJ ⟨id, ent, per, ref, L, false⟩ b.j = false) := by
          intro h0 i b2 hi hb2
          rcases Nat.lt_or_ge i k with h1 | h1
          · exact hno.out i b2 h1 hb2
          · obtain rfl : i = k := by omega
            rw [hx] at hb2
            injection hb2 with hb2
            rw [← hb2]; exact h0
        have HYES : Hid (hitJ ⟨id, ent, per, ref, L, false⟩ b.j = true → (l.any fun a => hitJ ⟨id, ent, per, ref, L, false⟩ a.j) = true) := fun h0 => List.any_eq_true.2 ⟨b, List.mem_of_getElem? hx, h0⟩
        clear hx hno
        have HH : Hid (hitJ ⟨id, ent, per, ref, L, false⟩ b.j = (!(b.j.id == id) && !b.j.void && (b.j.ref.toList == ref.toList) && (b.j.ent == ent))) := rfl
        rw [HH.out] at HNO HYES
        generalize b.j.lines.length = bn at *
        obtain ⟨⟨i2, e2, pr2, r2, L2, v2⟩, A3, c3⟩ := b
        dsimp only at *
        clear HH
        cases t1 : (i2 == id)
        · have t1' : (i2 != id) = true := by simpa using t1
          cases v2
          · cases t3 : (r2.toList == ref.toList)
            · rw [t1, t3] at HNO
              go_wp2_with fail
              go_big_quiet (fail)
              go_wp2_with fail
              exact ⟨⟨k + 1, by omega, by go_num, HNO.out rfl, Drew.add _ _⟩, by simp [intOf]; omega⟩
            · cases t4 : (e2 == ent)
              · rw [t1, t3, t4] at HNO
                go_wp2_with fail
                go_big_quiet (fail)
                go_wp2_with fail
                exact ⟨⟨k + 1, by omega, by go_num, HNO.out rfl, Drew.add _ _⟩, by simp [intOf]; omega⟩
              · rw [t1, t3, t4] at HYES
                go_wp2_with fail
                go_big_quiet (fail)
                go_wp2_with fail
                go_ret
                exact ⟨ret_bool (HYES.out rfl).symm, by have := HB2.out; rw [World.drewN_drewN]; exact this _⟩
          · rw [t1] at HNO
            go_wp2_with fail
            go_big_quiet (fail)
            go_wp2_with fail
            exact ⟨⟨k + 1, by omega, by go_num, HNO.out (by rfl), Drew.add _ _⟩, by simp [intOf]; omega⟩
        · have t1' : (i2 != id) = false := by simpa using t1
          rw [t1] at HNO
          go_wp2_with fail
          go_big_quiet (fail)
          go_wp2_with fail
          exact ⟨⟨k + 1, by omega, by go_num, HNO.out rfl, Drew.add _ _⟩, by simp [intOf]; omega⟩
      · have HE : Hid ((l.any fun a => hitJ ⟨id, ent, per, ref, L, false⟩ a.j) = false) := by
          unfold Hid
          rw [List.any_eq_false]
          intro b hb
          obtain ⟨i, hi⟩ := List.mem_iff_getElem?.1 hb
          have := hno.out i b (by have := (List.getElem?_eq_some_iff.1 hi).1; have := HL.out; omega) hi
          rw [this]; decide
        clear hno
        go_wp2_with fail
        go_ret
        exact ⟨ret_bool HE.out.symm, HB2.out _⟩
end Go.Proofs.YtafloaabjinkfaaGreat

/-
  Contracts of the reference's Post, Voided.
-/
namespace Go.Proofs.YtafloaabjinkfaaGreat
open Go.RowKit

theorem postE_eqs (M : List Jrn) (j : Jrn) : (checkE j ≠ 0 ∧ postE M j = checkE j) ∨ (checkE j = 0 ∧ hasId M j.id = true ∧ postE M j = 7) ∨ (checkE j = 0 ∧ hasId M j.id = false ∧ takenJ M j = true ∧ postE M j = 8) ∨ (checkE j = 0 ∧ hasId M j.id = false ∧ takenJ M j = false ∧ 200 ≤ M.length ∧ postE M j = 13) ∨ (checkE j = 0 ∧ hasId M j.id = false ∧ takenJ M j = false ∧ ¬ 200 ≤ M.length ∧ postE M j = 0) := by
  unfold postE
  by_cases h1 : checkE j = 0
  · cases h2 : hasId M j.id
    · cases h3 : takenJ M j
      · by_cases h4 : 200 ≤ M.length
        · simp [h1, h4]
        · simp [h1, h4]
      · simp [h1]
    · simp [h1]
  · simp [h1]
/-- The reference's Get, whatever is found: the one that the book's Post asks. -/
theorem refGet_has (l : List JR) (x : Int) (A : Option Addr) (n c B : Nat) (w : World) (h : Rd w B 6 A n (jrs l)) (hB : B ≤ w.heap.size) (hn : n ≤ 1000000) :
    Calls Tryz.prog 35 #[.slice A n c, .int .i64 x] w fun e w' => (∃ (a0 a1 a2 : Int) (a3 : ByteArray) (a4 : Option Addr × Nat × Nat) (a5 : Bool), e = .returned (.tuple #[.agg #[.int .i64 a0, .int .i64 a1, .int .i64 a2, .string a3, .slice a4.1 a4.2.1 a4.2.2, .bool a5], .bool (hasId (l.map JR.j) x)])) ∧ Below w.heap.size w w' := by
  rw [hasId_map]
  cases hf : findK JR.id l x with
  | none => exact (refGet_none l x A n c B w h hB hn hf).mono fun e w' hh => ⟨⟨0, 0, 0, ⟨#[]⟩, (none, 0, 0), false, hh.1⟩, hh.2⟩
  | some a => exact (refGet_some l x a A n c B w h hB hn hf).mono fun e w' hh => ⟨⟨a.j.id, a.j.ent, a.j.per, a.j.ref, (a.A, a.j.lines.length, a.c), a.j.void, hh.1⟩, hh.2⟩

set_option maxRecDepth 100000 in
set_option maxHeartbeats 4000000 in
theorem refPost_any (l : List JR) (j : Jrn) (A A2 : Option Addr) (n c n2 c2 B B2 : Nat) (w : World) (h : Rd w B 6 A n (jrs l)) (hB : B ≤ w.heap.size) (hn : n ≤ 1000000) (h2 : Rd w B2 3 A2 n2 (lins j.lines)) (hB2 : B2 ≤ w.heap.size) :
    Calls Tryz.prog 57 #[.slice A n c, j.val A2 n2 c2] w fun e w' => e = .returned (.int .i64 (postE (l.map JR.j) j)) ∧ Below w.heap.size w w' := by
  obtain ⟨W, hW⟩ : ∃ W, w.alloc (.cells #[.int .i64 j.id, .int .i64 j.ent, .int .i64 j.per, .string j.ref, .slice A2 n2 c2, .bool j.void] 29) = W := ⟨_, rfl⟩
  have hbW : Below w.heap.size w W := by rw [← hW]; exact (Below.refl _ _).alloc (Nat.le_refl _) _
  have hzW : W.heap.size = w.heap.size + 1 := by rw [← hW]; simp
  have HW := Lib.hid hW
  have HBW := Lib.hid hbW
  have HR : Hid (∀ w1, Below W.heap.size W w1 → Rd w1 B 6 A n (jrs l)) := fun w1 hb => h.far (hbW.trans (hb.mono hbW.size)) hB
  have HFIN : Hid (∀ w1, Below W.heap.size W w1 → Below w.heap.size w w1) := fun w1 hb => hbW.trans (hb.mono hbW.size)
  have kc := Lib.hid (refCheck_any j A2 n2 c2 B2 W (h2.far hbW hB2) (by omega))
  have kg : Hid (∀ w1, Below W.heap.size W w1 → Calls Tryz.prog 35 #[.slice A n c, .int .i64 j.id] w1 fun e w' => (∃ (a0 a1 a2 : Int) (a3 : ByteArray) (a4 : Option Addr × Nat × Nat) (a5 : Bool), e = .returned (.tuple #[.agg #[.int .i64 a0, .int .i64 a1, .int .i64 a2, .string a3, .slice a4.1 a4.2.1 a4.2.2, .bool a5], .bool (hasId (l.map JR.j) j.id)])) ∧ Below w1.heap.size w1 w') := fun w1 hb => refGet_has l j.id A n c B w1 (HR.out w1 hb) (by have := hb.size; omega) hn
  have kt : Hid (∀ w1, Below W.heap.size W w1 → Calls Tryz.prog 63 #[.slice A n c, j.val A2 n2 c2] w1 fun e w' => e = .returned (.bool (takenJ (l.map JR.j) j)) ∧ Below w1.heap.size w1 w') := fun w1 hb => refTakenR_any l j A A2 n c n2 c2 B w1 (HR.out w1 hb) (by have := hb.size; omega) hn
  have hlen : (l.map JR.j).length = n := by rw [List.length_map]; exact h.jrs_len
  have HC := Lib.hid (postE_eqs (l.map JR.j) j)
  rw [hlen] at HC
  clear h h2 hW hbW hlen
  generalize postE (l.map JR.j) j = E at *
  generalize checkE j = K at *
  generalize hasId (l.map JR.j) j.id = G at *
  generalize takenJ (l.map JR.j) j = T at *
  obtain ⟨id, ent, per, ref, L, void⟩ := j
  unfold Jrn.val at *
  dsimp only at *
  rcases HC.out with ⟨h1, rfl⟩ | ⟨rfl, rfl, rfl⟩ | ⟨rfl, rfl, rfl, rfl⟩ | ⟨rfl, rfl, rfl, h4, rfl⟩ | ⟨rfl, rfl, rfl, h4, rfl⟩
  all_goals
    clear HC
    try have ht : (E != 0) = true := by simpa using h1
    try have hI : (200 : Int) ≤ (n : Int) := by omega
    try have hI : ¬ (200 : Int) ≤ (n : Int) := by omega
    go_enter Tryz.func57, Tryz.ntmps57
    go_wp2_with fail
    rw [HW.out]
    refine kc.out.mono ?_
    rintro e w1 ⟨rfl, hb1⟩
    have HB1 := Lib.hid hb1
    obtain ⟨b0, b1, b2, b3, b4, b5⟩ := box6 HW.out hb1
    clear hb1
    go_wp2_with fail
    refine (kg.out w1 HB1.out).mono ?_
    rintro e w2 ⟨⟨a0, a1, a2, a3, a4, a5, rfl⟩, hb2⟩
    have HB2 : Hid (Below W.heap.size W w2) := HB1.out.trans (hb2.mono HB1.out.size)
    clear hb2 b0 b1 b2 b3 b4 b5
    obtain ⟨x4, x5, x6⟩ := a4
    dsimp only
    have HB3 : Hid (∀ o, Below W.heap.size W (w2.alloc o)) := fun o => HB2.out.alloc HB2.out.size o
    obtain ⟨b0, b1, b2, b3, b4, b5⟩ := box6 HW.out HB2.out
    have hlt2 : w.heap.size < w2.heap.size := by have := HB2.out.size; omega
    go_wp2_with fail
    first
      | (go_ret; exact ⟨rfl, HFIN.out _ (HB3.out _)⟩)
      | (refine (kt.out _ (HB3.out _)).mono ?_
         rintro e w3 ⟨rfl, hb3⟩
         have HB4 := Lib.hid (HFIN.out _ ((HB3.out _).trans (hb3.mono (HB3.out _).size)))
         clear hb3 b0 b1 b2 b3 b4 b5
         go_wp2_with fail
         go_ret
         exact ⟨rfl, HB4.out⟩)
set_option maxRecDepth 100000 in
set_option maxHeartbeats 1000000 in
theorem refVoided_any (j : Jrn) (A : Option Addr) (n c : Nat) (w : World) :
    Calls Tryz.prog 65 #[j.val A n c] w fun e w' => e = .returned (.agg #[.int .i64 j.id, .int .i64 j.ent, .int .i64 j.per, .string j.ref, .slice A n c, .bool true]) ∧ Below w.heap.size w w' := by
  have HB : Hid (∀ o1 o2, Below w.heap.size w ((w.alloc o1).alloc o2)) := fun o1 o2 => ((Below.refl _ _).alloc (Nat.le_refl _) o1).alloc (by simp) o2
  unfold Jrn.val
  go_enter Tryz.func65, Tryz.ntmps65
  go_wp2_with fail
  refine bodyPost_ret (v := .agg #[.int .i64 j.id, .int .i64 j.ent, .int .i64 j.per, .string j.ref, .slice A n c, .bool true]) (by simp [results, Tryz.results65, go_sem]) rfl ⟨rfl, HB.out _ _⟩
end Go.Proofs.YtafloaabjinkfaaGreat

/-
  Contract of the reference's Copy.
-/
namespace Go.Proofs.YtafloaabjinkfaaGreat
open Go.RowKit

set_option maxRecDepth 100000 in
set_option maxHeartbeats 2000000 in
theorem refCopy_any (j : Jrn) (A : Option Addr) (n c B : Nat) (w : World) (h : Rd w B 3 A n (lins j.lines)) (hB : B ≤ w.heap.size) (hn : n ≤ 1000000) :
    Calls Tryz.prog 33 #[j.val A n c] w fun e w' => ∃ A' c', e = .returned (.agg #[.int .i64 j.id, .int .i64 j.ent, .int .i64 j.per, .string j.ref, .slice A' n c', .bool j.void]) ∧ w'.ownsRow w.heap.size 72 3 (.slice A' n c') n (lins j.lines) ∧ Below w.heap.size w w' := by
  obtain ⟨W2, hW2⟩ : ∃ W2, (w.alloc (.cells #[.int .i64 j.id, .int .i64 j.ent, .int .i64 j.per, .string j.ref, .slice A n c, .bool j.void] 29)).alloc (.cells #[.int .i64 0, .int .i64 0, .int .i64 0, .string ⟨#[]⟩, .slice none 0 0, .bool false] 29) = W2 := ⟨_, rfl⟩
  have hb2 : Below w.heap.size w W2 := by rw [← hW2]; exact ((Below.refl _ _).alloc (Nat.le_refl _) _).alloc (by simp) _
  have hz2 : W2.heap.size = w.heap.size + 2 := by rw [← hW2]; simp
  have hbox : JAt W2 w.heap.size j A n c := by
    rw [← hW2]
    exact (Below.heap_alloc _ _ _ (by simp)).trans (heap_new w _)
  have hres : JAt W2 (w.heap.size + 1) zeroJ none 0 0 := by
    rw [← hW2]
    have := heap_new (w.alloc (.cells #[.int .i64 j.id, .int .i64 j.ent, .int .i64 j.per, .string j.ref, .slice A n c, .bool j.void] 29)) (.cells #[.int .i64 0, .int .i64 0, .int .i64 0, .string ⟨#[]⟩, .slice none 0 0, .bool false] 29)
    rw [show (w.alloc (.cells #[.int .i64 j.id, .int .i64 j.ent, .int .i64 j.per, .string j.ref, .slice A n c, .bool j.void] 29)).heap.size = w.heap.size + 1 by simp] at this
    exact this
  obtain ⟨v3, w3, hrun, hown, hg, _⟩ := append_fresh (P := Tryz.prog) (w := W2) (ty := 27) (c := c) infoLin Tryz.underlying27 rfl (by omega) W2.heap.size (.slice none 0 0) 0 [] (World.ownsRow_nil _ _ _ _) (h.far hb2 hB) (linsOne _) (by unfold maxLen; omega) (by omega) (Nat.le_refl _)
  rw [Nat.zero_add, List.nil_append] at hown
  obtain ⟨A', c', rfl⟩ := own_form hown
  have hk : ∀ q, q < W2.heap.size → w3.heap[q]? = W2.heap[q]? := fun q hq => hg.block q hq (fun e => by cases e)
  have hbox3 : JAt w3 w.heap.size j A n c := (hk _ (by omega)).trans hbox
  have hres3 : JAt w3 (w.heap.size + 1) zeroJ none 0 0 := (hk _ (by omega)).trans hres
  have hb3 : Below W2.heap.size W2 w3 := ⟨hg.os, hg.tape, hg.output, hg.size, hk⟩
  obtain ⟨x0, x1, x2, x3, x4, x5⟩ := six_cells hbox3
  have xf := fun o => warm_of hbox3 o
  obtain ⟨y0, y1, y2, y3, y4, y5⟩ := six_cells hres3
  have yf := fun o => warm_of hres3 o
  have HR := Lib.hid hrun
  have HOWN := Lib.hid hown
  have HB : Hid (Below w.heap.size w w3) := hb2.trans (hb3.mono hb2.size)
  have HW2 := Lib.hid hW2
  have hlt3 : w.heap.size + 1 < w3.heap.size := lt_of_blk hres3
  have HZ2 := Lib.hid hz2
  clear hrun hown hg hW2 hb2 hbox hres hbox3 hres3 hb3 hk h hz2
  unfold Jrn.val
  go_enter Tryz.func33, Tryz.ntmps33
  go_wp2_with (at_builtin; rw [HW2.out]; refine wpList_append_run rfl _ _ _ rfl _ _ _ _ rfl rfl HR.out ?_)
  refine bodyPost_ret (v := .agg #[.int .i64 j.id, .int .i64 j.ent, .int .i64 j.per, .string j.ref, .slice A' n c', .bool j.void]) (by simp [results, Tryz.results33, go_sem, y0, y1, y2, y3, y4, y5]) rfl ⟨A', c', rfl, ?_, ?_⟩
  · refine own_base (own_six (own_kept HOWN.out fun q hq ho => ?_) (by have := HZ2.out; omega) _ _ _ _ _ _) (by have := HZ2.out; omega)
    have hge := own_ge HOWN.out q ho
    exact Below.heap_setCell _ _ _ _ (by have := HZ2.out; show q ≠ w.heap.size; omega)
  · exact below_six (HB.out.setCell (p := ⟨w.heap.size, 4, none⟩) (Nat.le_refl _) _) (Nat.le_succ _) _ _ _ _ _ _
end Go.Proofs.YtafloaabjinkfaaGreat
