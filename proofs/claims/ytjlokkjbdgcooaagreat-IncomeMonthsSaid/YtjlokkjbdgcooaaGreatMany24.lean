/-
  Several texts, one behind the other: what each holds stands ahead of it.
-/
import Derived.Test.YtjlokkjbdgcooaaGreatMany23
import Derived.Test.YtjlokkjbdgcooaaGreatOwn
import Derived.Deep.AppendLies

/-
  Contract of slices.Insert over accounts: where there is room; all its ways in one.
-/
namespace Go.Proofs.YtjlokkjbdgcooaaGreat
open Go.RowKit

set_option maxRecDepth 100000 in
set_option maxHeartbeats 4000000 in
theorem insert_shiftCh (l : List Acc) (a : Acc) (B vb g i n c : Nat) (w : World) (hn : l.length = n) (hown : w.ownsRow B 165 3 (.slice (some ⟨g, 0, none⟩) n c) n (accs l)) (hvb : w.heap[vb]? = some (.cells a.cells.toArray 165 (0, 0))) (hgv : vb ≠ g) (hn2 : n ≤ 1000000) (hi : i < n) (hroom : n + 1 ≤ c) :
    Calls Tryz.prog 226 #[.slice (some ⟨g, 0, none⟩) n c, .int .i64 i, .slice (some ⟨vb, 0, none⟩) 1 1] w fun e w' => ∃ v', e = .returned v' ∧ InsertedCh w B (.slice (some ⟨g, 0, none⟩) n c) (l.take i ++ a :: l.drop i) v' w' := by
  obtain ⟨cur, hh, hBg, hnc, hcm, hcs, hcl⟩ := own_blk hown
  obtain ⟨i0, hi0, hz0, hz1, hz2⟩ := info_parts infoAcc
  obtain ⟨junk, hjl, hown0⟩ := own_more hown hroom
  have hcells := hown.cells (g := g) rfl
  have hxl : (accs l).length = n * 3 := hown.1
  have hinfo : (Tryz.prog.info? 165).map (·.size) = some 3 := by rw [hi0]; simp [hz1]
  have hsz : ∀ w, (Go.sizeOf 165).run Tryz.prog w = .ok 3 w := fun w => by simp [sizeOf, typeInfo, hi0, hz1]
  have hov : (callFunc 251 #[.slice (some ⟨vb, 0, none⟩) 1 1, .slice (some ⟨g, (i + 1) * 3, none⟩) (n - i) (c - (i + 1))]).run Tryz.prog w = .ok (.value (.bool false)) w := by
    rw [run_callFunc_extern Tryz.func251 (by kernel_rfl) (by kernel_rfl) (by kernel_rfl) (e := Extern.SlicesOverlaps.overlaps #[76, 76] #[4]) (by kernel_rfl),
      Lib.run_overlaps_apart w 76 4 165 Tryz.underlying76 3 hsz ⟨vb, 0, none⟩ ⟨g, (i + 1) * 3, none⟩ 1 1 (n - i) (c - (i + 1)) hgv 165 165 3 (c * 3) (by simp [World.shape?, hvb, Acc.cells]) (by simp [World.shape?, hh, hcs]) (by omega) (warm_of hvb _) (warm_of hvb _)]
    rfl
  have hsrc : ∀ j u, ((accs l).drop (i * 3))[j]? = some u → w.drew.cell? ((⟨g, i * 3, none⟩ : Addr).add j) = some u := by
    intro j u hu
    rw [List.getElem?_drop] at hu
    have := hcells _ u hu
    rw [Addr.add_lit] at this ⊢
    rw [Nat.zero_add] at this
    exact this
  have hcp1 : ∀ ty dc sc, _ := fun ty dc sc => copy_own (P := Tryz.prog) (w := w.drew) (ty := ty) hown0 Tryz.underlying76 hinfo (i + 1) (n - i) (n - i) dc (n + 1 - i) sc ⟨g, i * 3, none⟩ ((accs l).drop (i * 3)) (by simp only [Nat.min_def]; split <;> omega) (by simp [hxl]; omega) (by omega) hsrc (fun u hu => accs_one l u (List.mem_of_mem_drop hu))
  have hown1 := (hcp1 0 0 0).2
  generalize hW1 : w.drew.setCells g ((i + 1) * 3) ((accs l).drop (i * 3)) = W1 at hcp1 hown1
  have hk1 : ∀ k, k ≠ g → W1.heap[k]? = w.heap[k]? := fun k hk => by rw [← hW1, setCells_other _ _ _ _ hk]; rfl
  have hcp2 : ∀ ty dc, _ := fun ty dc => copy_own (P := Tryz.prog) (w := W1) (ty := ty) hown1 Tryz.underlying76 hinfo i 1 (n + 1 - i) dc 1 1 ⟨vb, 0, none⟩ a.cells (by simp only [Nat.min_def]; split <;> omega) rfl (by omega) (rd_atCh ((hk1 vb hgv).trans hvb)) (cells_oneA a)
  have hown2 := (hcp2 0 0).2
  rw [ins_here hxl (by omega) hjl rfl, ← accs_ins] at hown2
  generalize hW2 : W1.setCells g (i * 3) a.cells = W2 at hcp2 hown2
  have HI : Hid (InsertedCh w B (.slice (some ⟨g, 0, none⟩) n c) (l.take i ++ a :: l.drop i) (.slice (some ⟨g, 0, none⟩) (n + 1) c) W2) := by
    have h1 := setCells_below (B := 0) (g := g) (Nat.zero_le _) ((accs l).drop (i * 3)) w.drew ((i + 1) * 3)
    have h2 := setCells_below (B := 0) (g := g) (Nat.zero_le _) a.cells W1 (i * 3)
    rw [hW1] at h1
    rw [hW2] at h2
    refine ⟨?_, ⟨h2.os.trans h1.os, h2.tape.trans h1.tape, h2.output.trans h1.output, Nat.le_trans h1.size h2.size, fun k hk hne => ?_⟩, .inl rfl⟩
    · rw [show (l.take i ++ a :: l.drop i).length = n + 1 by simp; omega]; exact hown2
    · have hkg : k ≠ g := fun e => hne (by rw [e]; rfl)
      rw [← hW2, setCells_other _ _ _ _ hkg, hk1 k hkg]
  have HC1 := Lib.hid hcp1; have HC2 := Lib.hid hcp2
  have hc63 : c ≤ 9223372036854775807 := by unfold maxLen at hcm; omega
  clear hcp1 hcp2 hown hown0 hown1 hown2 hcells hsrc hh hcs hcl hz0 hz1 hz2 hi0 hinfo hxl hn hvb hk1 hW1 hW2 hcm hnc hjl hsz
  have hw1 : IntKind.i64.wrap ((i : Int) + 1) = (i : Int) + 1 := by rw [IntKind.wrap_i64]; omega
  have hb1 : (0 : Int) ≤ (i : Int) + 1 := by omega
  have htn : ((i : Int) + 1).toNat = i + 1 := by omega
  have hci : ¬ (c = i) := by omega
  have hci1 : ¬ (c = i + 1) := by omega
  have hin : i ≤ n := by omega
  have hb3 : (i : Int) ≤ (n : Int) + 1 := by omega
  have hb4 : i ≤ n + 1 := by omega
  have ht1 : ((i : Int) == (n : Int)) = false := by simp; omega
  have ht2 : decide ((c : Int) < (n : Int) + 1) = false := by simp; omega
  have hc2 := (HC2.out 3 (c - i)).1
  go_enter Tryz.func226, Tryz.ntmps226
  go_wp2_with fail
  go_region_law (refine step_copy_run rfl _ _ _ _ rfl (.slice (some ⟨g, (i + 1) * 3, none⟩) (n - i) (c - (i + 1))) (.slice (some ⟨g, i * 3, none⟩) (n + 1 - i) (c - i)) _ _ (by simp [Act.eval, Act.put]) (by simp [Act.eval, Act.put]) (HC1.out _ _ _).1 ?_)
  go_wp2
  go_ret
  exact ⟨_, rfl, HI.out⟩

theorem insert_anyCh (l : List Acc) (a : Acc) (B vb i n c : Nat) (A : Option Addr) (w : World) (hn : l.length = n) (hown : w.ownsRow B 165 3 (.slice A n c) n (accs l)) (hvb : w.heap[vb]? = some (.cells a.cells.toArray 165 (0, 0))) (hne : (Value.slice A n c).ownBlock ≠ some vb) (hn2 : n ≤ 1000000) (hB : B ≤ w.heap.size) (hi : i ≤ n) :
    Calls Tryz.prog 226 #[.slice A n c, .int .i64 i, .slice (some ⟨vb, 0, none⟩) 1 1] w fun e w' => ∃ v', e = .returned v' ∧ InsertedCh w B (.slice A n c) (l.take i ++ a :: l.drop i) v' w' := by
  by_cases he : i = n
  · subst he
    rw [List.take_of_length_le (by omega), List.drop_eq_nil_of_le (by omega)]
    exact insert_endCh l a B vb i c A w hn hown hvb hn2 hB
  · obtain ⟨g, cap, hv, _⟩ := hown.form (by omega)
    injection hv with hA _ hc
    subst hA hc
    by_cases hc : n + 1 ≤ c
    · exact insert_shiftCh l a B vb g i n c w hn hown hvb (fun e => hne (by rw [e]; rfl)) hn2 (by omega) hc
    · exact insert_growCh l a B vb g i n c w hn hown hvb hn2 hB (by omega) (by omega)
end Go.Proofs.YtjlokkjbdgcooaaGreat

/-
  Contracts of package chart's kinds: what each is asked, saysYes, known, questions, questionsOf, Debit.
-/
namespace Go.Proofs.YtjlokkjbdgcooaaGreat
open Go.RowKit

/-- The question to which kind q says yes. -/
def qf : Nat → FuncId
  | 1 => 261
  | 2 => 262
  | 3 => 263
  | 4 => 264
  | _ => 265
def qv (q : Nat) : Value := .func (.func (qf q)) #[] #[]
set_option maxRecDepth 100000 in
theorem ask_any (q : Nat) (k : Int) (w : World) (h1 : 1 ≤ q) (h5 : q ≤ 5) : Calls Tryz.prog (qf q) #[.int .i64 k] w fun e w' => e = .returned (.bool (k == (q : Int))) ∧ w = w' := by
  rcases (show q = 1 ∨ q = 2 ∨ q = 3 ∨ q = 4 ∨ q = 5 by omega) with rfl | rfl | rfl | rfl | rfl
  · show Calls Tryz.prog 261 _ _ _
    go_enter Tryz.func261, Tryz.ntmps261
    go_wp2
    go_ret
    exact ⟨rfl, rfl⟩
  · show Calls Tryz.prog 262 _ _ _
    go_enter Tryz.func262, Tryz.ntmps262
    go_wp2
    go_ret
    exact ⟨rfl, rfl⟩
  · show Calls Tryz.prog 263 _ _ _
    go_enter Tryz.func263, Tryz.ntmps263
    go_wp2
    go_ret
    exact ⟨rfl, rfl⟩
  · show Calls Tryz.prog 264 _ _ _
    go_enter Tryz.func264, Tryz.ntmps264
    go_wp2
    go_ret
    exact ⟨rfl, rfl⟩
  · show Calls Tryz.prog 265 _ _ _
    go_enter Tryz.func265, Tryz.ntmps265
    go_wp2
    go_ret
    exact ⟨rfl, rfl⟩

/-- A function with a body is entered. -/
theorem enter_body {P : Program} {f : FuncId} {fn : Func} {c : Code} (hf : P.funcs[f]? = some fn) (hname : (fn.name == "runtime.NumGoroutine") = false) (hb : fn.body = some c) (args : Array Value) (w : World) :
    (callFunc f args).run P w = .ok (.enter f args) w := by
  have h1 : fn.name ≠ "runtime.NumGoroutine" := by simpa using hname
  simp [callFunc, hf, h1, hb]
theorem qf_enter (q : Nat) (h1 : 1 ≤ q) (h5 : q ≤ 5) (args : Array Value) (w : World) : (callFunc (qf q) args).run Tryz.prog w = .ok (.enter (qf q) args) w := by
  rcases (show q = 1 ∨ q = 2 ∨ q = 3 ∨ q = 4 ∨ q = 5 by omega) with rfl | rfl | rfl | rfl | rfl
  · exact enter_body Tryz.func261 (by kernel_rfl) rfl _ _
  · exact enter_body Tryz.func262 (by kernel_rfl) rfl _ _
  · exact enter_body Tryz.func263 (by kernel_rfl) rfl _ _
  · exact enter_body Tryz.func264 (by kernel_rfl) rfl _ _
  · exact enter_body Tryz.func265 (by kernel_rfl) rfl _ _

theorem qv_one (qs : List Nat) : ∀ u ∈ qs.map qv, u.oneCell' = true := by
  intro u hu
  obtain ⟨q, _, rfl⟩ := List.mem_map.1 hu
  rfl

set_option maxRecDepth 100000 in
set_option maxHeartbeats 400000 in
theorem saysYes_any (qs : List Nat) (k : Int) (A : Option Addr) (n c B : Nat) (w : World) (h : Rd w B 1 A n (qs.map qv)) (hq : ∀ q ∈ qs, 1 ≤ q ∧ q ≤ 5) (hn : n ≤ 1000000) :
    Calls Tryz.prog 237 #[.int .i64 k, .slice A n c] w fun e w' => e = .returned (.bool (qs.any fun q => k == (q : Int))) ∧ w = w' := by
  have hl : qs.length = n := by have := h.1; simpa using this
  have HL := Lib.hid hl
  have HQ := Lib.hid hq
  have HR := Lib.hid h
  clear hl hq h
  go_enter Tryz.func237, Tryz.ntmps237
  go_wp2_with fail
  go_loop [9] (fun i => ∃ j : Nat, j ≤ n ∧ i = .int .i64 j ∧ Hid ((qs.take j).any (fun q => k == (q : Int)) = false)) (fun i => n - (intOf i).toNat)
  case atStart => exact ⟨0, Nat.zero_le _, rfl, by simp [Hid]⟩
  case round =>
    obtain ⟨j, hj, rfl, hs⟩ := hrel
    by_cases hlt : j < n
    · obtain ⟨ad, u, rfl, hb, hx, hc⟩ := HR.out.one hlt
      have hjl : j < qs.length := by have := HL.out; omega
      have hu : u = qv qs[j] := by
        rw [List.getElem?_map, List.getElem?_eq_getElem hjl] at hx
        simpa using hx.symm
      subst hu
      have hq1 := HQ.out qs[j] (List.getElem_mem hjl)
      have kk := fun w => ask_any qs[j] k w hq1.1 hq1.2
      have hT : Hid ((qs.take (j + 1)).any (fun q => k == (q : Int)) = (k == (qs[j] : Int))) := by
        have := hs.out
        rw [List.take_succ_eq_append_getElem hjl, Hid, List.any_append, this]
        simp
      have hA : Hid ((k == (qs[j] : Int)) = true → qs.any (fun q => k == (q : Int)) = true) := fun h => List.any_eq_true.2 ⟨_, List.getElem_mem hjl, h⟩
      have hkn : (j : Int) < (n : Int) := by omega
      clear hx hs
      have hen := qf_enter qs[j] hq1.1 hq1.2
      unfold qv at hc
      clear hq1
      generalize qf qs[j] = f at *
      generalize (k == (qs[j] : Int)) = t at *
      go_wp2_with fail
      refine (kk w).mono ?_
      rintro e w' ⟨rfl, rfl⟩
      cases t
      · go_wp2
        exact ⟨⟨j + 1, by omega, by go_num, hT.out⟩, by simp [intOf]; omega⟩
      · go_wp2
        go_ret
        exact ⟨ret_bool (hA.out (by first | rfl | trivial)).symm, rfl⟩
    · go_wp2
      go_ret
      refine ⟨ret_bool ?_, rfl⟩
      have := hs.out
      rw [List.take_of_length_le (by have := HL.out; omega)] at this
      exact this.symm

theorem rd_block (w : World) (vs : List Value) (T : TypeId) : Rd (w.alloc (.cells vs.toArray T)) (w.heap.size + 1) 1 (some ⟨w.heap.size, 0, none⟩) vs.length vs :=
  ⟨by simp, fun _ => ⟨_, rfl, by simp, cells_new w vs T⟩⟩

set_option maxRecDepth 100000 in
theorem questions_any (w : World) : Calls Tryz.prog 248 #[] w fun e w' => e = .returned (.slice (some ⟨w.heap.size, 0, none⟩) 5 5) ∧ w' = w.alloc (.cells ([1, 2, 3, 4, 5].map qv).toArray 333) := by
  go_enter Tryz.func248, Tryz.ntmps248
  go_wp2
  go_ret
  exact ⟨rfl, rfl⟩

/-- There is such a kind. -/
def kOk (k : Int) : Bool := decide (1 ≤ k ∧ k ≤ 5)
theorem five_any (k : Int) : ([1, 2, 3, 4, 5].any fun q : Nat => k == (q : Int)) = kOk k := by
  rw [Bool.eq_iff_iff]
  simp [kOk]
  omega

set_option maxRecDepth 100000 in
theorem known_any (k : Int) (w : World) : Calls Tryz.prog 224 #[.int .i64 k] w fun e w' => e = .returned (.bool (kOk k)) ∧ Below w.heap.size w w' := by
  have HY := Lib.hid (saysYes_any [1, 2, 3, 4, 5] k (some ⟨w.heap.size, 0, none⟩) 5 5 (w.heap.size + 1) _ (rd_block w ([1, 2, 3, 4, 5].map qv) 333) (by simp) (by omega))
  go_enter Tryz.func224, Tryz.ntmps224
  go_wp2_with fail
  refine (questions_any w).mono ?_
  rintro e w' ⟨rfl, rfl⟩
  generalize hw2 : w.alloc (.cells ([1, 2, 3, 4, 5].map qv).toArray 333) = w2 at *
  have HW := Lib.hid hw2
  clear hw2
  go_wp2_with fail
  refine HY.out.mono ?_
  rintro e w' ⟨rfl, rfl⟩
  rw [five_any]
  go_wp2
  go_ret
  refine ⟨rfl, ?_⟩
  rw [← HW.out]
  exact (Below.refl _ _).alloc (Nat.le_refl _) _

end Go.Proofs.YtjlokkjbdgcooaaGreat

/-
  Contracts of (*Chart).put, (*Chart).Add.
-/
namespace Go.Proofs.YtjlokkjbdgcooaaGreat
open Go.RowKit

theorem own_sliceCh {w : World} {base : Nat} {e : TypeId} {size n : Nat} {v : Value} {xs : List Value} (h : w.ownsRow base e size v n xs) : ∃ A m c, v = .slice A m c := by
  obtain ⟨A, c, h⟩ := own_form h
  exact ⟨A, n, c, h⟩
/-- A chart that was v, and has become l. -/
def ChartTo (w : World) (B c : Nat) (v : Value) (l : List Acc) (w' : World) : Prop :=
  ∃ v', ChartAt w' B c v' l ∧ But (InChart c v) w w' ∧ ∀ k, v'.ownBlock = some k → v.ownBlock = some k ∨ w.heap.size ≤ k
theorem ChartTo.same {w w' : World} {B c : Nat} {v : Value} {l : List Acc} (h : ChartAt w B c v l) (hb : Below w.heap.size w w') : ChartTo w B c v l w' :=
  ⟨v, h.below hb, But.of_below hb, fun _ hk => .inl hk⟩
theorem okRow_no1 {x k : Int} (h : x < 1) : okRow x k = false := by simp [okRow]; omega
theorem okRow_no2 {x k : Int} (h : 9999 < x) : okRow x k = false := by simp [okRow]; omega
theorem okRow_k {x k : Int} (h1 : ¬ x < 1) (h2 : ¬ 9999 < x) : okRow x k = kOk k := by
  unfold okRow kOk
  rw [Bool.eq_iff_iff]
  simp
  omega
theorem addE_bad {l : List Acc} {a : Acc} (h : okRow a.code a.kind = false) : addE l a = 1 ∧ addL l a = l := by
  have : addE l a = 1 := by simp [addE, h]
  exact ⟨this, by simp [addL, this]⟩
theorem addE_dup {l : List Acc} {a : Acc} (h : okRow a.code a.kind = true) (hf : (findA l a.code).isSome = true) : addE l a = 7 ∧ addL l a = l := by
  have : addE l a = 7 := by simp [addE, h, hf]
  exact ⟨this, by simp [addL, this]⟩
theorem addE_new {l : List Acc} {a : Acc} (h : okRow a.code a.kind = true) (hf : (findA l a.code).isSome = false) : addE l a = 0 ∧ addL l a = insA l a := by
  have : addE l a = 0 := by simp [addE, h, hf]
  exact ⟨this, by simp [addL, this]⟩

set_option maxRecDepth 100000 in
set_option maxHeartbeats 1000000 in
theorem put_bad (B c : Nat) (v : Value) (l : List Acc) (x k : Int) (r : Bool) (w : World) (h : ChartAt w B c v l) (ho : okRow x k = false) :
    Calls Tryz.prog 203 #[.pointer (some ⟨c, 0, none⟩), .agg #[.int .i64 x, .int .i64 k, .bool r]] w fun e w' => e = .returned (.int .i64 1) ∧ ChartTo w B c v l w' := by
  have HC := Lib.hid h
  have hclt := h.lt
  clear h
  by_cases h1 : x < 1
  · clear ho
    go_enter Tryz.func203, Tryz.ntmps203
    go_wp2
    go_ret
    exact ⟨rfl, ChartTo.same HC.out ((Below.refl _ _).alloc (Nat.le_refl _) _)⟩
  by_cases h2 : 9999 < x
  · clear ho
    go_enter Tryz.func203, Tryz.ntmps203
    go_wp2
    go_ret
    exact ⟨rfl, ChartTo.same HC.out ((Below.refl _ _).alloc (Nat.le_refl _) _)⟩
  rw [okRow_k h1 h2] at ho
  have kk := fun w => known_any k w
  rw [ho] at kk
  clear ho
  go_enter Tryz.func203, Tryz.ntmps203
  go_wp2_with fail
  refine (kk _).mono ?_
  rintro e w' ⟨rfl, hb⟩
  have HB : Hid (Below w.heap.size w w') := ((Below.refl _ _).alloc (Nat.le_refl _) _).trans (hb.mono (by simp))
  clear hb
  go_wp2
  go_ret
  exact ⟨rfl, ChartTo.same HC.out HB.out⟩

set_option maxRecDepth 100000 in
set_option maxHeartbeats 1000000 in
theorem put_dup (B c : Nat) (v : Value) (l : List Acc) (x k : Int) (r : Bool) (w : World) (h : ChartAt w B c v l) (ho : okRow x k = true) (hf : (findA l x).isSome = true) :
    Calls Tryz.prog 203 #[.pointer (some ⟨c, 0, none⟩), .agg #[.int .i64 x, .int .i64 k, .bool r]] w fun e w' => e = .returned (.int .i64 7) ∧ ChartTo w B c v l w' := by
  have HC := Lib.hid h
  have hclt := h.lt
  obtain ⟨q1, q2, _, _⟩ := okRow_t ho
  rw [okRow_k (by omega) (by omega)] at ho
  have kk := fun w => known_any k w
  rw [ho] at kk
  have HF := Lib.hid hf
  clear ho h hf
  go_enter Tryz.func203, Tryz.ntmps203
  go_wp2_with fail
  refine (kk _).mono ?_
  rintro e w1 ⟨rfl, hb⟩
  have hx : w1.cell? ⟨w.heap.size, 0, none⟩ = some (.int .i64 x) := by
    rw [hb.cell (by simp)]; simp [go_sem]
  have HB : Hid (Below w.heap.size w w1) := ((Below.refl _ _).alloc (Nat.le_refl _) _).trans (hb.mono (by simp))
  clear hb
  go_wp2_with fail
  refine (place_anyCh B c v l x w1 (HC.out.below HB.out)).mono ?_
  rintro e w2 ⟨rfl, hb⟩
  rw [HF.out]
  have HB2 : Hid (Below w.heap.size w w2) := HB.out.trans (hb.mono HB.out.size)
  clear hb hx
  go_wp2
  go_ret
  exact ⟨rfl, ChartTo.same HC.out HB2.out⟩

set_option maxRecDepth 100000 in
set_option maxHeartbeats 1000000 in
theorem put_new (B c : Nat) (v : Value) (l : List Acc) (x k : Int) (r : Bool) (w : World) (h : ChartAt w B c v l) (ho : okRow x k = true) (hf : (findA l x).isSome = false) :
    Calls Tryz.prog 203 #[.pointer (some ⟨c, 0, none⟩), .agg #[.int .i64 x, .int .i64 k, .bool r]] w fun e w' => e = .returned (.int .i64 0) ∧ ChartTo w B c v (insA l ⟨x, k, r⟩) w' := by
  have HC := Lib.hid h
  have hclt := h.lt
  have HG : Hid (GoodA (insA l ⟨x, k, r⟩)) := h.good.ins (a := ⟨x, k, r⟩) ho (by simpa using hf)
  obtain ⟨q1, q2, _, _⟩ := okRow_t ho
  rw [okRow_k (by omega) (by omega)] at ho
  have kk := fun w => known_any k w
  rw [ho] at kk
  have HF := Lib.hid hf
  have hlen := h.good.len
  obtain ⟨A, cap, rfl⟩ := h.form
  clear ho h hf
  go_enter Tryz.func203, Tryz.ntmps203
  go_wp2_with fail
  refine (kk _).mono ?_
  rintro e w1 ⟨rfl, hb⟩
  have hx0 : w1.cell? ⟨w.heap.size, 0, none⟩ = some (.int .i64 x) := by rw [hb.cell (by simp)]; simp [go_sem]
  have hx1 : w1.cell? ⟨w.heap.size, 1, none⟩ = some (.int .i64 k) := by rw [hb.cell (by simp)]; simp [go_sem]
  have hx2 : w1.cell? ⟨w.heap.size, 2, none⟩ = some (.bool r) := by rw [hb.cell (by simp)]; simp [go_sem]
  have HB : Hid (Below w.heap.size w w1) := ((Below.refl _ _).alloc (Nat.le_refl _) _).trans (hb.mono (by simp))
  have hz1 : w.heap.size + 1 ≤ w1.heap.size := by have := hb.size; simpa using this
  clear hb
  go_wp2_with fail
  refine (place_anyCh B c _ l x w1 (HC.out.below HB.out)).mono ?_
  rintro e w2 ⟨rfl, hb⟩
  rw [HF.out]
  have HP := Lib.hid (posn_le l x)
  have HI : Hid (insA l ⟨x, k, r⟩ = l.take (posn l x) ++ ⟨x, k, r⟩ :: l.drop (posn l x)) := rfl
  generalize posn l x = p at *
  have hc0 := (hb.cell (p := ⟨w.heap.size, 0, none⟩) (by show w.heap.size < _; omega)).trans hx0
  have hc1 := (hb.cell (p := ⟨w.heap.size, 1, none⟩) (by show w.heap.size < _; omega)).trans hx1
  have hc2 := (hb.cell (p := ⟨w.heap.size, 2, none⟩) (by show w.heap.size < _; omega)).trans hx2
  have HB2 : Hid (Below w.heap.size w w2) := HB.out.trans (hb.mono HB.out.size)
  have hz2 : w.heap.size + 1 ≤ w2.heap.size := by have := hb.size; omega
  have hC2 := HC.out.below HB2.out
  have hcc := hC2.cell
  have hcw := hC2.warm
  have hclt2 := hC2.lt
  have HC2 := Lib.hid hC2
  clear hb hx0 hx1 hx2 hC2
  have HIN : Hid (Calls Tryz.prog 226 #[.slice A l.length cap, .int .i64 p, .slice (some ⟨w2.heap.size, 0, none⟩) 1 1] (w2.alloc (.cells #[.int .i64 x, .int .i64 k, .bool r] 165)).drew fun e w' => ∃ v', e = .returned v' ∧ InsertedCh (w2.alloc (.cells #[.int .i64 x, .int .i64 k, .bool r] 165)).drew B (.slice A l.length cap) (l.take p ++ ⟨x, k, r⟩ :: l.drop p) v' w') :=
    insert_anyCh l ⟨x, k, r⟩ B w2.heap.size p l.length cap A _ rfl (own_kept HC2.out.own fun q hq _ => Below.heap_alloc w2 _ _ hq) (heap_new w2 _) (fun e => by have := own_lt HC2.out.own _ e; omega) (by omega) (by have := HC2.out.low; simp; omega) HP.out
  have HNE : Hid ((Value.slice A l.length cap).ownBlock ≠ some c) := HC2.out.apart
  go_wp2_with fail
  go_region_law ((go_simp; go_at_call 226; refine HIN.out.mono ?_; rintro e w3 ⟨v3, rfl, hins⟩; obtain ⟨A3, n3, c3, rfl⟩ := own_sliceCh hins.1; have hb3 : w3.heap[c]? = w2.heap[c]? := (hins.2.1.block c (by simp; omega) HNE.out).trans (Below.heap_alloc w2 _ _ hclt2); have hc3 : w3.cell? ⟨c, 0, none⟩ = some (.slice A l.length cap) := by { rw [cell_of (hb3.trans HC2.out.blk)]; rfl }; have hf3 : w3.frozen? ⟨c, 0, none⟩ = false := warm_of (hb3.trans HC2.out.blk) 0; have HB3 := Lib.hid hb3; have HIN3 := Lib.hid hins; clear hb3 hins))
  all_goals
    go_wp2
    go_ret
    refine ⟨rfl, .slice A3 n3 c3, ?_, ?_, ?_⟩
    · refine ⟨?_, HC2.out.low, ?_, HG.out⟩
      · rw [set_here (HB3.out.trans HC2.out.blk)]; rfl
      · rw [HI.out]
        refine own_kept HIN3.out.1 fun q _ hq => Below.heap_setCell _ _ _ _ (fun e => ?_)
        have e' : q = c := e
        rcases HIN3.out.2.2 with h | h
        · exact HNE.out (by rw [← h, hq]; exact congrArg some e)
        · rw [h] at hq
          injection hq with hq
          simp at hq
          omega
    · have h1 : But (InChart c (.slice A l.length cap)) w w2 := But.of_below HB2.out
      have h2 : But (InChart c (.slice A l.length cap)) w2 (w2.alloc (.cells #[.int .i64 x, .int .i64 k, .bool r] 165)).drew := But.of_below ((Below.refl _ _).alloc (Nat.le_refl _) _).drew
      have h3 : But (InChart c (.slice A l.length cap)) (w2.alloc (.cells #[.int .i64 x, .int .i64 k, .bool r] 165)).drew w3 := HIN3.out.2.1.wide fun q _ hq => .inr hq
      have h4 : But (InChart c (.slice A l.length cap)) w3 (w3.setCell ⟨c, 0, none⟩ (.slice A3 n3 c3)) := ⟨rfl, rfl, rfl, by simp, fun q _ hq => Below.heap_setCell _ _ _ _ (fun e => hq (.inl e))⟩
      exact ((h1.trans h2).trans h3).trans h4
    · intro q hq
      rcases HIN3.out.2.2 with h | h
      · exact .inl (by rw [← h]; exact hq)
      · rw [h] at hq
        injection hq with hq
        simp at hq
        exact .inr (by omega)

theorem put_any (B c : Nat) (v : Value) (l : List Acc) (a : Acc) (w : World) (h : ChartAt w B c v l) :
    Calls Tryz.prog 203 #[.pointer (some ⟨c, 0, none⟩), .agg #[.int .i64 a.code, .int .i64 a.kind, .bool a.ret]] w fun e w' => e = .returned (.int .i64 (addE l a)) ∧ ChartTo w B c v (addL l a) w' := by
  cases ho : okRow a.code a.kind
  · rw [(addE_bad (l := l) ho).1, (addE_bad (l := l) ho).2]
    exact put_bad B c v l a.code a.kind a.ret w h ho
  cases hf : (findA l a.code).isSome
  · rw [(addE_new ho hf).1, (addE_new ho hf).2]
    exact put_new B c v l a.code a.kind a.ret w h ho hf
  · rw [(addE_dup ho hf).1, (addE_dup ho hf).2]
    exact put_dup B c v l a.code a.kind a.ret w h ho hf

end Go.Proofs.YtjlokkjbdgcooaaGreat
