/-
  Contracts of the reference's Get, Taken, Post, Voided, over journals.
-/
import Derived.Test.YtjlokkjbdgcooaaGreatMany27
import Derived.Test.YtjlokkjbdgcooaaGreatMany24
import Derived.BigQuiet
namespace Go.Proofs.YtjlokkjbdgcooaaGreat
open Go.RowKit

set_option maxRecDepth 100000 in
set_option maxHeartbeats 2000000 in
theorem refGet_some (l : List JR) (x : Int) (a : JR) (A : Option Addr) (n c B : Nat) (w : World) (h : Rd w B 6 A n (jrs l)) (hB : B ≤ w.heap.size) (hn : n ≤ 1000000) (hf : findK JR.id l x = some a) :
    Calls Tryz.prog 201 #[.slice A n c, .int .i64 x] w fun e w' => e = .returned (.tuple #[.agg #[.int .i64 a.j.id, .int .i64 a.j.ent, .int .i64 a.j.per, .string a.j.ref, .slice a.A a.j.lines.length a.c, .bool a.j.void], .bool true]) ∧ Below w.heap.size w w' := by
  obtain ⟨W, hW⟩ : ∃ W, w.alloc (.cells #[.int .i64 0, .int .i64 0, .int .i64 0, .string ⟨#[]⟩, .slice none 0 0, .bool false] 111) = W := ⟨_, rfl⟩
  have hbW : Below w.heap.size w W := by rw [← hW]; exact (Below.refl _ _).alloc (Nat.le_refl _) _
  have hres : JAt W w.heap.size zeroJ none 0 0 := by rw [← hW]; exact heap_new w _
  have HW := Lib.hid hW
  have HBW := Lib.hid hbW
  have HL := Lib.hid h.jrs_len
  have HR := Lib.hid (h.far hbW hB)
  obtain ⟨y0, y1, y2, y3, y4, y5⟩ := six_cells hres
  have yf := fun o => warm_of hres o
  have hlt3 : w.heap.size < W.heap.size := lt_of_blk hres
  have HF := Lib.hid hf
  clear h hres hbW hW hf
  go_enter Tryz.func201, Tryz.ntmps201
  go_wp2_with fail
  rw [HW.out]
  go_loopw [6] (fun iv wr => ∃ k : Nat, k ≤ n ∧ iv = .int .i64 k ∧ Hid (∀ i b, i < k → l[i]? = some b → JR.id b ≠ x) ∧ wr = W) (fun iv _ => n - (intOf iv).toNat)
  case atStart => exact ⟨0, Nat.zero_le _, rfl, fun i b hi => by omega, rfl⟩
  case round =>
    obtain ⟨k, hk, rfl, hno, rfl⟩ := hrel
    by_cases hlt : k < n
    · obtain ⟨ad, b, rfl, hb1, hx, p1, p2, p3, p4, p5, p6⟩ := HR.out.jr hlt
      have hkn : (k : Int) < (n : Int) := by omega
      have hblt : ad.block < wr.heap.size := by omega
      by_cases hid : b.j.id = x
      · have hba : b = a := by
          have h1 : findK JR.id l x = some b := by
            unfold findK
            rw [List.find?_eq_some_iff_getElem]
            obtain ⟨h2, h3⟩ := List.getElem?_eq_some_iff.1 hx
            refine ⟨by simpa [JR.id] using hid, k, h2, h3, fun i hi => ?_⟩
            have := hno.out i _ hi (List.getElem?_eq_getElem (by omega))
            simpa using this
          have h2 := HF.out
          rw [h1] at h2
          injection h2
        subst hba
        have ht : (b.j.id == x) = true := by simp [hid]
        clear hx hno hid
        go_wp2_with fail
        refine bodyPost_ret (v := .tuple #[.agg #[.int .i64 b.j.id, .int .i64 b.j.ent, .int .i64 b.j.per, .string b.j.ref, .slice b.A b.j.lines.length b.c, .bool b.j.void], .bool true]) (by simp [results, Tryz.results201, go_sem, y0, y1, y2, y3, y4, y5]) rfl ⟨rfl, ?_⟩
        exact below_six HBW.out (Nat.le_refl _) _ _ _ _ _ _
      · have ht : (b.j.id == x) = false := by simp [hid]
        have HNO : Hid (∀ i b, i < k + 1 → l[i]? = some b → JR.id b ≠ x) := by
          intro i b2 hi hb2
          rcases Nat.lt_or_ge i k with h1 | h1
          · exact hno.out i b2 h1 hb2
          · obtain rfl : i = k := by omega
            rw [hx] at hb2
            injection hb2 with hb2
            rw [← hb2]; exact hid
        clear hx hno hid
        go_wp2_with fail
        exact ⟨⟨k + 1, by omega, by go_num, HNO, by first | rfl | trivial⟩, by simp [intOf]; omega⟩
    · exfalso
      obtain ⟨h1, h2⟩ := findK_mem HF.out
      obtain ⟨i, hi⟩ := List.mem_iff_getElem?.1 h1
      exact hno.out i a (by have := (List.getElem?_eq_some_iff.1 hi).1; have := HL.out; omega) hi h2

set_option maxRecDepth 100000 in
set_option maxHeartbeats 2000000 in
theorem refGet_none (l : List JR) (x : Int) (A : Option Addr) (n c B : Nat) (w : World) (h : Rd w B 6 A n (jrs l)) (hB : B ≤ w.heap.size) (hn : n ≤ 1000000) (hf : findK JR.id l x = none) :
    Calls Tryz.prog 201 #[.slice A n c, .int .i64 x] w fun e w' => e = .returned (.tuple #[.agg #[.int .i64 0, .int .i64 0, .int .i64 0, .string ⟨#[]⟩, .slice none 0 0, .bool false], .bool false]) ∧ Below w.heap.size w w' := by
  obtain ⟨W, hW⟩ : ∃ W, w.alloc (.cells #[.int .i64 0, .int .i64 0, .int .i64 0, .string ⟨#[]⟩, .slice none 0 0, .bool false] 111) = W := ⟨_, rfl⟩
  have hbW : Below w.heap.size w W := by rw [← hW]; exact (Below.refl _ _).alloc (Nat.le_refl _) _
  have hres : JAt W w.heap.size zeroJ none 0 0 := by rw [← hW]; exact heap_new w _
  have HW := Lib.hid hW
  have HBW := Lib.hid hbW
  have HR := Lib.hid (h.far hbW hB)
  obtain ⟨y0, y1, y2, y3, y4, y5⟩ := six_cells hres
  have yf := fun o => warm_of hres o
  have hlt3 : w.heap.size < W.heap.size := lt_of_blk hres
  have HF := Lib.hid (findK_no hf)
  clear h hres hbW hW hf
  go_enter Tryz.func201, Tryz.ntmps201
  go_wp2_with fail
  rw [HW.out]
  go_loopw [6] (fun iv wr => ∃ k : Nat, k ≤ n ∧ iv = .int .i64 k ∧ wr = W) (fun iv _ => n - (intOf iv).toNat)
  case atStart => exact ⟨0, Nat.zero_le _, rfl, rfl⟩
  case round =>
    obtain ⟨k, hk, rfl, rfl⟩ := hrel
    by_cases hlt : k < n
    · obtain ⟨ad, b, rfl, hb1, hx, p1, p2, p3, p4, p5, p6⟩ := HR.out.jr hlt
      have hkn : (k : Int) < (n : Int) := by omega
      have ht : (b.j.id == x) = false := by
        have := HF.out b (List.mem_of_getElem? hx)
        simpa [JR.id] using this
      clear hx
      go_wp2_with fail
      exact ⟨⟨k + 1, by omega, by go_num, by first | rfl | trivial⟩, by simp [intOf]; omega⟩
    · go_wp2_with fail
      refine bodyPost_ret (v := .tuple #[.agg #[.int .i64 0, .int .i64 0, .int .i64 0, .string ⟨#[]⟩, .slice none 0 0, .bool false], .bool false]) (by simp [results, Tryz.results201, go_sem, y0, y1, y2, y3, y4, y5]) rfl ⟨rfl, ?_⟩
      exact below_six HBW.out (Nat.le_refl _) _ _ _ _ _ _

def hitJ (j b : Jrn) : Bool := !(b.id == j.id) && !b.void && (b.ref.toList == j.ref.toList) && (b.ent == j.ent)
theorem takenJ_hits {M : List Jrn} {j : Jrn} (h1 : (j.ref.toList == []) = false) (h2 : j.void = false) : takenJ M j = M.any (hitJ j) := by
  unfold takenJ
  rw [List.not_all_eq_any_not]
  congr 1
  funext b
  unfold leavesRef hitJ holdsRef
  rw [h1, h2]
  cases (b.id == j.id) <;> cases b.void <;> cases (b.ref.toList == j.ref.toList) <;> cases (b.ent == j.ent) <;> rfl
theorem takenJ_empty {M : List Jrn} {j : Jrn} (h1 : (j.ref.toList == []) = true) : takenJ M j = false := by
  unfold takenJ
  rw [Bool.not_eq_false', List.all_eq_true]
  intro b _
  unfold leavesRef holdsRef
  rw [h1]
  simp
theorem takenJ_void {M : List Jrn} {j : Jrn} (h2 : j.void = true) : takenJ M j = false := by
  unfold takenJ
  rw [Bool.not_eq_false', List.all_eq_true]
  intro b _
  unfold leavesRef
  rw [h2]
  simp
theorem any_maps {f : Jrn → Bool} (l : List JR) : (l.map JR.j).any f = l.any fun a => f a.j := by rw [List.any_map]; rfl
set_option maxRecDepth 100000 in
set_option maxHeartbeats 4000000 in
theorem refTakenR_any (l : List JR) (j : Jrn) (A A2 : Option Addr) (n c n2 c2 B : Nat) (w : World) (h : Rd w B 6 A n (jrs l)) (hB : B ≤ w.heap.size) (hn : n ≤ 1000000) :
    Calls Tryz.prog 202 #[.slice A n c, j.val A2 n2 c2] w fun e w' => e = .returned (.bool (takenJ (l.map JR.j) j)) ∧ Below w.heap.size w w' := by
  obtain ⟨W, hW⟩ : ∃ W, w.alloc (.cells #[.int .i64 j.id, .int .i64 j.ent, .int .i64 j.per, .string j.ref, .slice A2 n2 c2, .bool j.void] 111) = W := ⟨_, rfl⟩
  have hbW : Below w.heap.size w W := by rw [← hW]; exact (Below.refl _ _).alloc (Nat.le_refl _) _
  have hbox : W.heap[w.heap.size]? = some (.cells #[.int .i64 j.id, .int .i64 j.ent, .int .i64 j.per, .string j.ref, .slice A2 n2 c2, .bool j.void] 111 (0, 0)) := by rw [← hW]; exact heap_new w _
  obtain ⟨y0, y1, y2, y3, y4, y5⟩ := six_cells hbox
  have HW := Lib.hid hW
  have HBW := Lib.hid hbW
  have HL := Lib.hid h.jrs_len
  have HR := Lib.hid (h.far hbW hB)
  clear h hbW hW hbox
  by_cases h1 : (j.ref.toList == []) = true ∨ j.void = true
  · have HT : Hid (takenJ (l.map JR.j) j = false) := h1.elim (fun h => takenJ_empty h) fun h => takenJ_void h
    rw [HT.out]
    have HC : Hid ((j.ref.toList == []) = true ∨ (j.ref.toList == []) = false ∧ j.void = true) := by
      unfold Hid
      rcases h1 with h1 | h1
      · exact .inl h1
      · cases h5 : (j.ref.toList == [])
        · exact .inr ⟨rfl, h1⟩
        · exact .inl rfl
    obtain ⟨id, ent, per, ref, L, void⟩ := j
    unfold Jrn.val
    dsimp only at *
    rcases HC.out with h2 | ⟨h2, rfl⟩
    all_goals
      clear h1 HC HT
      by_cases hk : 0 < n
      all_goals
        go_enter Tryz.func202, Tryz.ntmps202
        go_wp2_with fail
        rw [HW.out]
        refine wp_loop_rounds 1 ?_
        rw [rounds_succ]
        go_wp2_with fail
        go_ret
        exact ⟨rfl, HBW.out⟩
  · have h2 : (j.ref.toList == []) = false := by
      cases h3 : (j.ref.toList == [])
      · rfl
      · exact absurd (.inl h3) h1
    have h3 : j.void = false := by
      cases h4 : j.void
      · rfl
      · exact absurd (.inr h4) h1
    rw [takenJ_hits h2 h3, any_maps]
    rw [h3] at HW y5
    clear h1
    obtain ⟨id, ent, per, ref, L, void⟩ := j
    unfold Jrn.val
    dsimp only at *
    subst h3
    go_enter Tryz.func202, Tryz.ntmps202
    go_wp2_with fail
    rw [HW.out]
    go_loopw [5] (fun iv wr => ∃ k : Nat, k ≤ n ∧ iv = .int .i64 k ∧ Hid (∀ i b, i < k → l[i]? = some b → hitJ ⟨id, ent, per, ref, L, false⟩ b.j = false) ∧ Drew W wr) (fun iv _ => n - (intOf iv).toNat)
    case atStart => exact ⟨0, Nat.zero_le _, rfl, fun i b hi => by omega, Drew.refl _⟩
    case round =>
      obtain ⟨k, hk, rfl, hno, q, rfl⟩ := hrel
      have HB2 : Hid (∀ q, Below w.heap.size w (W.drewN q)) := fun q => below_drewN HBW.out q
      by_cases hlt : k < n
      · obtain ⟨ad, b, rfl, hb1, hx, p1, p2, p3, p4, p5, p6⟩ := HR.out.jr hlt
        have hkn : (k : Int) < (n : Int) := by omega
        have HNO : Hid (hitJ ⟨id, ent, per, ref, L, false⟩ b.j = false → ∀ i b, i < k + 1 → l[i]? = some b → hitJ ⟨id, ent, per, ref, L, false⟩ b.j = false) := by
          intro h0 i b2 hi hb2
          rcases Nat.lt_or_ge i k with h1 | h1
          · exact hno.out i b2 h1 hb2
          · obtain rfl : i = k := by omega
            rw [hx] at hb2
            injection hb2 with hb2
            rw [← hb2]; exact h0
        have HYES : Hid (hitJ ⟨id, ent, per, ref, L, false⟩ b.j = true → (l.any fun a => hitJ ⟨id, ent, per, ref, L, false⟩ a.j) = true) := fun h0 => List.any_eq_true.2 ⟨b, List.mem_of_getElem? hx, h0⟩
        clear hx hno
        have HH : Hid (hitJ ⟨id, ent, per, ref, L, false⟩ b.j = (!(b.j.id == id) && !b.j.void && (b.j.ref.toList == ref.toList) && (b.j.ent == ent))) := rfl
        rw [HH.out] at HNO HYES
        generalize b.j.lines.length = bn at *
        obtain ⟨⟨i2, e2, pr2, r2, L2, v2⟩, A3, c3⟩ := b
        dsimp only at *
        clear HH
        cases t1 : (i2 == id)
        · have t1' : (i2 != id) = true := by simpa using t1
          cases v2
          · cases t3 : (r2.toList == ref.toList)
            · rw [t1, t3] at HNO
              go_wp2_with fail
              go_big_quiet (fail)
              go_wp2_with fail
              exact ⟨⟨k + 1, by omega, by go_num, HNO.out rfl, Drew.add _ _⟩, by simp [intOf]; omega⟩
            · cases t4 : (e2 == ent)
              · rw [t1, t3, t4] at HNO
                go_wp2_with fail
                go_big_quiet (fail)
                go_wp2_with fail
                exact ⟨⟨k + 1, by omega, by go_num, HNO.out rfl, Drew.add _ _⟩, by simp [intOf]; omega⟩
              · rw [t1, t3, t4] at HYES
                go_wp2_with fail
                go_big_quiet (fail)
                go_wp2_with fail
                go_ret
                exact ⟨ret_bool (HYES.out rfl).symm, by have := HB2.out; rw [World.drewN_drewN]; exact this _⟩
          · rw [t1] at HNO
            go_wp2_with fail
            go_big_quiet (fail)
            go_wp2_with fail
            exact ⟨⟨k + 1, by omega, by go_num, HNO.out (by rfl), Drew.add _ _⟩, by simp [intOf]; omega⟩
        · have t1' : (i2 != id) = false := by simpa using t1
          rw [t1] at HNO
          go_wp2_with fail
          go_big_quiet (fail)
          go_wp2_with fail
          exact ⟨⟨k + 1, by omega, by go_num, HNO.out rfl, Drew.add _ _⟩, by simp [intOf]; omega⟩
      · have HE : Hid ((l.any fun a => hitJ ⟨id, ent, per, ref, L, false⟩ a.j) = false) := by
          unfold Hid
          rw [List.any_eq_false]
          intro b hb
          obtain ⟨i, hi⟩ := List.mem_iff_getElem?.1 hb
          have := hno.out i b (by have := (List.getElem?_eq_some_iff.1 hi).1; have := HL.out; omega) hi
          rw [this]; decide
        clear hno
        go_wp2_with fail
        go_ret
        exact ⟨ret_bool HE.out.symm, HB2.out _⟩
end Go.Proofs.YtjlokkjbdgcooaaGreat

