/-
  Contracts of package chart's kinds: what each is asked, saysYes, known, questions, questionsOf, Debit.
-/
import Derived.Test.YtaliipcgekhepaaGreatOwn
import Derived.Deep.AppendLies
namespace Go.Proofs.YtaliipcgekhepaaGreat
open Go.RowKit

/-- The question to which kind q says yes. -/
def qf : Nat → FuncId
  | 1 => 72
  | 2 => 101
  | 3 => 102
  | 4 => 103
  | _ => 73
def qv (q : Nat) : Value := .func (.func (qf q)) #[] #[]
set_option maxRecDepth 100000 in
theorem ask_any (q : Nat) (k : Int) (w : World) (h1 : 1 ≤ q) (h5 : q ≤ 5) : Calls Tryz.prog (qf q) #[.int .i64 k] w fun e w' => e = .returned (.bool (k == (q : Int))) ∧ w = w' := by
  rcases (show q = 1 ∨ q = 2 ∨ q = 3 ∨ q = 4 ∨ q = 5 by omega) with rfl | rfl | rfl | rfl | rfl
  · show Calls Tryz.prog 72 _ _ _
    go_enter Tryz.func72, Tryz.ntmps72
    go_wp2
    go_ret
    exact ⟨rfl, rfl⟩
  · show Calls Tryz.prog 101 _ _ _
    go_enter Tryz.func101, Tryz.ntmps101
    go_wp2
    go_ret
    exact ⟨rfl, rfl⟩
  · show Calls Tryz.prog 102 _ _ _
    go_enter Tryz.func102, Tryz.ntmps102
    go_wp2
    go_ret
    exact ⟨rfl, rfl⟩
  · show Calls Tryz.prog 103 _ _ _
    go_enter Tryz.func103, Tryz.ntmps103
    go_wp2
    go_ret
    exact ⟨rfl, rfl⟩
  · show Calls Tryz.prog 73 _ _ _
    go_enter Tryz.func73, Tryz.ntmps73
    go_wp2
    go_ret
    exact ⟨rfl, rfl⟩

/-- A function with a body is entered. -/
theorem enter_body {P : Program} {f : FuncId} {fn : Func} {c : Code} (hf : P.funcs[f]? = some fn) (hname : (fn.name == "runtime.NumGoroutine") = false) (hb : fn.body = some c) (args : Array Value) (w : World) :
    (callFunc f args).run P w = .ok (.enter f args) w := by
  have h1 : fn.name ≠ "runtime.NumGoroutine" := by simpa using hname
  simp [callFunc, hf, h1, hb]
theorem qf_enter (q : Nat) (h1 : 1 ≤ q) (h5 : q ≤ 5) (args : Array Value) (w : World) : (callFunc (qf q) args).run Tryz.prog w = .ok (.enter (qf q) args) w := by
  rcases (show q = 1 ∨ q = 2 ∨ q = 3 ∨ q = 4 ∨ q = 5 by omega) with rfl | rfl | rfl | rfl | rfl
  · exact enter_body Tryz.func72 (by kernel_rfl) rfl _ _
  · exact enter_body Tryz.func101 (by kernel_rfl) rfl _ _
  · exact enter_body Tryz.func102 (by kernel_rfl) rfl _ _
  · exact enter_body Tryz.func103 (by kernel_rfl) rfl _ _
  · exact enter_body Tryz.func73 (by kernel_rfl) rfl _ _

theorem qv_one (qs : List Nat) : ∀ u ∈ qs.map qv, u.oneCell' = true := by
  intro u hu
  obtain ⟨q, _, rfl⟩ := List.mem_map.1 hu
  rfl

set_option maxRecDepth 100000 in
set_option maxHeartbeats 400000 in
theorem saysYes_any (qs : List Nat) (k : Int) (A : Option Addr) (n c B : Nat) (w : World) (h : Rd w B 1 A n (qs.map qv)) (hq : ∀ q ∈ qs, 1 ≤ q ∧ q ≤ 5) (hn : n ≤ 1000000) :
    Calls Tryz.prog 30 #[.int .i64 k, .slice A n c] w fun e w' => e = .returned (.bool (qs.any fun q => k == (q : Int))) ∧ w = w' := by
  have hl : qs.length = n := by have := h.1; simpa using this
  have HL := Lib.hid hl
  have HQ := Lib.hid hq
  have HR := Lib.hid h
  clear hl hq h
  go_enter Tryz.func30, Tryz.ntmps30
  go_wp2_with fail
  go_loop [9] (fun i => ∃ j : Nat, j ≤ n ∧ i = .int .i64 j ∧ Hid ((qs.take j).any (fun q => k == (q : Int)) = false)) (fun i => n - (intOf i).toNat)
  case atStart => exact ⟨0, Nat.zero_le _, rfl, by simp [Hid]⟩
  case round =>
    obtain ⟨j, hj, rfl, hs⟩ := hrel
    by_cases hlt : j < n
    · obtain ⟨ad, u, rfl, hb, hx, hc⟩ := HR.out.one hlt
      have hjl : j < qs.length := by have := HL.out; omega
      have hu : u = qv qs[j] := by
        rw [List.getElem?_map, List.getElem?_eq_getElem hjl] at hx
        simpa using hx.symm
      subst hu
      have hq1 := HQ.out qs[j] (List.getElem_mem hjl)
      have kk := fun w => ask_any qs[j] k w hq1.1 hq1.2
      have hT : Hid ((qs.take (j + 1)).any (fun q => k == (q : Int)) = (k == (qs[j] : Int))) := by
        have := hs.out
        rw [List.take_succ_eq_append_getElem hjl, Hid, List.any_append, this]
        simp
      have hA : Hid ((k == (qs[j] : Int)) = true → qs.any (fun q => k == (q : Int)) = true) := fun h => List.any_eq_true.2 ⟨_, List.getElem_mem hjl, h⟩
      have hkn : (j : Int) < (n : Int) := by omega
      clear hx hs
      have hen := qf_enter qs[j] hq1.1 hq1.2
      unfold qv at hc
      clear hq1
      generalize qf qs[j] = f at *
      generalize (k == (qs[j] : Int)) = t at *
      go_wp2_with fail
      refine (kk w).mono ?_
      rintro e w' ⟨rfl, rfl⟩
      cases t
      · go_wp2
        exact ⟨⟨j + 1, by omega, by go_num, hT.out⟩, by simp [intOf]; omega⟩
      · go_wp2
        go_ret
        exact ⟨ret_bool (hA.out (by first | rfl | trivial)).symm, rfl⟩
    · go_wp2
      go_ret
      refine ⟨ret_bool ?_, rfl⟩
      have := hs.out
      rw [List.take_of_length_le (by have := HL.out; omega)] at this
      exact this.symm

theorem rd_block (w : World) (vs : List Value) (T : TypeId) : Rd (w.alloc (.cells vs.toArray T)) (w.heap.size + 1) 1 (some ⟨w.heap.size, 0, none⟩) vs.length vs :=
  ⟨by simp, fun _ => ⟨_, rfl, by simp, cells_new w vs T⟩⟩

set_option maxRecDepth 100000 in
theorem questions_any (w : World) : Calls Tryz.prog 79 #[] w fun e w' => e = .returned (.slice (some ⟨w.heap.size, 0, none⟩) 5 5) ∧ w' = w.alloc (.cells ([1, 2, 3, 4, 5].map qv).toArray 103) := by
  go_enter Tryz.func79, Tryz.ntmps79
  go_wp2
  go_ret
  exact ⟨rfl, rfl⟩

/-- There is such a kind. -/
def kOk (k : Int) : Bool := decide (1 ≤ k ∧ k ≤ 5)
theorem five_any (k : Int) : ([1, 2, 3, 4, 5].any fun q : Nat => k == (q : Int)) = kOk k := by
  rw [Bool.eq_iff_iff]
  simp [kOk]
  omega

set_option maxRecDepth 100000 in
theorem known_any (k : Int) (w : World) : Calls Tryz.prog 74 #[.int .i64 k] w fun e w' => e = .returned (.bool (kOk k)) ∧ Below w.heap.size w w' := by
  have HY := Lib.hid (saysYes_any [1, 2, 3, 4, 5] k (some ⟨w.heap.size, 0, none⟩) 5 5 (w.heap.size + 1) _ (rd_block w ([1, 2, 3, 4, 5].map qv) 103) (by simp) (by omega))
  go_enter Tryz.func74, Tryz.ntmps74
  go_wp2_with fail
  refine (questions_any w).mono ?_
  rintro e w' ⟨rfl, rfl⟩
  generalize hw2 : w.alloc (.cells ([1, 2, 3, 4, 5].map qv).toArray 103) = w2 at *
  have HW := Lib.hid hw2
  clear hw2
  go_wp2_with fail
  refine HY.out.mono ?_
  rintro e w' ⟨rfl, rfl⟩
  rw [five_any]
  go_wp2
  go_ret
  refine ⟨rfl, ?_⟩
  rw [← HW.out]
  exact (Below.refl _ _).alloc (Nat.le_refl _) _

set_option maxRecDepth 100000 in
theorem debit_any (k : Int) (w : World) : Calls Tryz.prog 23 #[.int .i64 k] w fun e w' => e = .returned (.bool (k == 1 || k == 5)) ∧ Below w.heap.size w w' := by
  have HY := Lib.hid (saysYes_any [1, 5] k (some ⟨w.heap.size, 0, none⟩) 2 2 (w.heap.size + 1) _ (rd_block w ([1, 5].map qv) 103) (by simp) (by omega))
  go_enter Tryz.func23, Tryz.ntmps23
  go_wp2_with fail
  refine HY.out.mono ?_
  rintro e w' ⟨rfl, rfl⟩
  go_wp2
  go_ret
  exact ⟨ret_bool (by simp), (Below.refl _ _).alloc (Nat.le_refl _) _⟩
end Go.Proofs.YtaliipcgekhepaaGreat
