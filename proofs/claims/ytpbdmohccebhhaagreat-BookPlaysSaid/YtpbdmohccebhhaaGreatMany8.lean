/-
  Several texts, one behind the other: what each holds stands ahead of it.
-/
import Derived.Test.YtpbdmohccebhhaaGreatOwn
import Derived.Laws.BytesArg
import Derived.Test.YtpbdmohccebhhaaGreatTome
import Derived.Test.YtpbdmohccebhhaaGreatRefPut
import Derived.Test.YtpbdmohccebhhaaGreatBookKGrow
import Derived.Deep.QuietTactic
import Derived.StillTail
import Derived.Lib.QuietBelow

/-
  Contract of the statements' name.
-/
namespace Go.Proofs.YtpbdmohccebhhaaGreat
open Go.RowKit

def nameN (i k : Nat) : List Int := [109, 65 + (i : Int) % 26, 65 + (i : Int) / 26 % 26, 48 + (k : Int) % 10, 48 + (k : Int) / 10 % 10, 48 + (k : Int) / 100 % 10]
def nameS (i k : Nat) : ByteArray := strOfNums (nameN i k)
theorem nameS_size (i k : Nat) : (nameS i k).size = 6 := rfl
set_option maxRecDepth 100000 in
set_option maxHeartbeats 1000000 in
theorem name_any (i k : Nat) (w : World) (_hi : i ≤ 1000) (_hk : k ≤ 4000000) :
    Calls Tryz.prog 195 #[.int .i64 i, .int .i64 k] w fun e w' => e = .returned (.string (nameS i k)) ∧ Below w.heap.size w w' := by
  have HB : Hid (∀ o, Below w.heap.size w (w.alloc o)) := fun o => (Below.refl _ _).alloc (Nat.le_refl _) o
  have hc := run_convert_bytes_arg (P := Tryz.prog) (w.alloc (.cells #[.int .u8 109, .int .u8 (65 + (i : Int) % 26), .int .u8 (65 + (i : Int) / 26 % 26), .int .u8 (48 + (k : Int) % 10), .int .u8 (48 + (k : Int) / 10 % 10), .int .u8 (48 + (k : Int) / 100 % 10)] 5)) 232 5 Tryz.underlying232 Tryz.underlying5 w.heap.size 0 6 6 (nameN i k) rfl (fun j hj => by
    rw [Nat.zero_add, cell_of (heap_new w _)]
    obtain rfl | rfl | rfl | rfl | rfl | rfl : j = 0 ∨ j = 1 ∨ j = 2 ∨ j = 3 ∨ j = 4 ∨ j = 5 := by omega
    all_goals rfl) 9 Tryz.underlying9
  unfold nameS
  generalize strOfNums (nameN i k) = S at *
  go_enter Tryz.func195, Tryz.ntmps195
  go_wp2_with fail
  go_ret
  exact ⟨rfl, HB.out _⟩
end Go.Proofs.YtpbdmohccebhhaaGreat

/-
  Journals as a kind of a book's lists: marks.
-/
namespace Go.Proofs.YtpbdmohccebhhaaGreat
open Go.RowKit

def jrMark (i k : Nat) : JR := ⟨⟨0, 0, 0, nameS i k, [], false⟩, none, 0⟩
def kJournals : Kind where
  f := 10
  t := 25
  e := 43
  size := 6
  mark := fun i k => (jrMark i k).cells
  hf := by decide
  hs := by decide
  hte := by decide
  htb := by decide
  heb := by decide
  hm := fun _ _ => rfl
theorem infoJournals : (Tryz.prog.info? kJournals.t).map (fun i => (i.zero, i.size, i.bytes)) = some (some (.slice none 0 0), 1, 24) := by kernel_rfl
def markJrs (i a n : Nat) : List JR := (List.range n).map fun k => jrMark i (a + k)
theorem marks_jrs (i a n : Nat) : kJournals.marks i a n = jrs (markJrs i a n) := by
  unfold Kind.marks jrs markJrs
  rw [List.flatMap_map]; rfl
theorem markJrs_succ (i a n : Nat) : markJrs i a (n + 1) = markJrs i a n ++ [jrMark i (a + n)] := by unfold markJrs; rw [List.range_succ, List.map_append]; rfl
theorem marks_oneJr (i a n : Nat) : ∀ u ∈ kJournals.marks i a n, u.oneCell' = true := by rw [marks_jrs]; exact jrs_one _
theorem markJrs_mem {i a n : Nat} {x : JR} (h : x ∈ markJrs i a n) : ∃ k, x = jrMark i k := by
  obtain ⟨k, _, rfl⟩ := List.mem_map.1 h
  exact ⟨_, rfl⟩

set_option maxRecDepth 100000 in
set_option maxHeartbeats 1000000 in
theorem markJournals_any (i a n : Nat) (w : World) (hi : i ≤ 1000) (ha : a ≤ 900000) (hn : n ≤ 900000) :
    Calls Tryz.prog 167 #[.int .i64 i, .int .i64 a, .int .i64 n] w fun e w' => ∃ A c, e = .returned (.slice A n c) ∧ w'.ownsRow w.heap.size 43 6 (.slice A n c) n (kJournals.marks i a n) ∧ Below w.heap.size w w' := by
  go_enter Tryz.func167, Tryz.ntmps167
  go_wp2_with fail
  go_loopw [7, 8] (fun lv kv wr => ∃ (k : Nat) (A : Option Addr) (c : Nat), k ≤ n ∧ kv = .int .i64 ((a + k : Nat) : Int) ∧ lv = .slice A k c ∧ Hid (wr.ownsRow w.heap.size 43 6 (.slice A k c) k (jrs (markJrs i a k))) ∧ Below w.heap.size w wr) (fun _ kv _ => a + n - (intOf kv).toNat)
  case atStart => exact ⟨0, none, 0, Nat.zero_le _, by simp, rfl, World.ownsRow_nil _ _ _ _, Below.refl _ _⟩
  case round =>
    obtain ⟨k, A, c, hk, rfl, rfl, hown, hbel⟩ := hrel
    have hsz := hbel.size
    by_cases hlt : k < n
    · have kn := Lib.hid (name_any i (a + k) wr hi (by omega))
      have hlt2 : ((a + k : Nat) : Int) < (a : Int) + (n : Int) := by omega
      generalize hq : ((a + k : Nat) : Int) = q at *
      have HQ := Lib.hid hq
      have hqb : q ≤ 2000000 ∧ 0 ≤ q := by omega
      clear hq
      go_wp2_with fail
      refine kn.out.mono ?_
      rintro e w1 ⟨rfl, hb1⟩
      have ho1 : w1.ownsRow w.heap.size 43 6 (.slice A k c) k (jrs (markJrs i a k)) := own_kept hown.out fun x hx _ => hb1.block x hx
      obtain ⟨v', w2, hrun, ho2, hbut, hbl⟩ := append_jr (jrMark i (a + k)) ho1 (Nat.le_trans hsz hb1.size) (by omega)
      obtain ⟨A4, m4, c4, rfl, hm4⟩ : ∃ A4 m4 c4, v' = .slice A4 m4 c4 ∧ m4 = k + 1 := by obtain ⟨A4, c4, e⟩ := own_form ho2; exact ⟨A4, _, c4, e, rfl⟩
      subst hm4
      rw [← markJrs_succ] at ho2
      have HO2 := Lib.hid ho2
      have HB2 : Hid (Below w.heap.size w w2) := (hbel.trans (hb1.mono hsz)).trans hbl
      unfold jrMark at hrun
      dsimp only at hrun
      have HR := Lib.hid hrun
      clear hrun ho2 hbut hbl ho1 hown hbel hb1
      generalize nameS i (a + k) = S at *
      go_wp2_with (at_builtin; refine wpList_append_run rfl _ _ _ rfl _ _ _ _ rfl rfl (HR.out _) ?_)
      refine ⟨⟨k + 1, A4, c4, by omega, ?_, rfl, HO2, HB2.out⟩, by have := HQ.out; simp [intOf]; omega⟩
      have := HQ.out
      congr 1
      omega
    · obtain rfl : k = n := by omega
      have HO := Lib.hid hown.out
      have hlt2 : ¬ ((a + k : Nat) : Int) < (a : Int) + (k : Int) := by omega
      clear hown
      go_wp2_with fail
      go_ret
      exact ⟨A, c, rfl, by rw [marks_jrs]; exact HO.out, hbel⟩
end Go.Proofs.YtpbdmohccebhhaaGreat

/-
  A region that draws its order: operations that are quiet in a class of worlds, behind them a tail whose order is forced. Of no program.
-/
namespace Go.Proofs.YtpbdmohccebhhaaGreat
open Go Go.RowKit Go.Sort

section
variable {P : Program} {ops : Array Oper} {md : Region.Mode} {C : World → Prop}

/-- So many of the first n operations are still to come, each quiet, whichever comes next; then L. -/
def Heads (P : Program) (md : Region.Mode) (ops : Array Oper) (C : World → Prop) (n : Nat) (L : Array Bool → Act → Prop) : Nat → Array Bool → Act → Prop
  | 0, done, a => L done a
  | f + 1, done, a => Region.ready md ops done ≠ [] ∧ ∀ i ∈ Region.ready md ops done, i < n ∧ qOp P ops C i (Heads P md ops C n L f (done.setIfInBounds i true)) a

theorem Heads.any {n g : Nat} {L : Array Bool → Act → Prop} {Q : Exit → Act → World → Prop} (hL : ∀ done a w, C w → L done a → wpAny P md ops Q g done a w) : ∀ (f : Nat) (done : Array Bool) (a : Act) (w : World), C w → Heads P md ops C n L f done a → wpAny P md ops Q (f + g) done a w
  | 0, done, a, w, hw, h => by rw [Nat.zero_add]; exact hL _ _ _ hw h
  | f + 1, done, a, w, hw, h => by
    rw [show f + 1 + g = (f + g) + 1 by omega]
    exact ⟨fun h0 => absurd h0 h.1, fun i hi => wpOp_of_qOp hw (fun a' w' hw' h' => Heads.any hL f _ a' w' hw' h') (h.2 i hi).2⟩

theorem Heads.first {n i : Nat} {oi : Oper} {v : Value} {L : Array Bool → Act → Prop} (hi : ops[i]? = some oi) (hsel : ∀ (j : Nat) (o : Oper) cs b, ops[j]? = some o → o.op ≠ .select cs b)
    (hs : Region.sinkB md ops n = true) (hc : Region.chainB md ops n = true) (hn : n < ops.size) (hin : i < n) (hend : ∀ done a, L done a → ∀ j ∈ Region.ready md ops done, n ≤ j) (f : Nat) :
    ∀ (done : Array Bool) (a : Act), HeadInv md ops n done →
      (∀ j oj, ops[j]? = some oj → j ≠ i → done.getD j true = false → (∀ e ∈ oj.after, Region.binds md e = true → e.on ≠ i) → oi.apart ops oj = true) →
      i ∈ Region.ready md ops done → YieldsIn P ops C oi v a →
      Heads P md ops C n L f (done.setIfInBounds i true) (a.put oi.dst v) → Heads P md ops C n L (f + 1) done a := by
  induction f with
  | zero =>
    intro done a inv _ hr hy H
    have hun := (mem_ready.1 hr).1
    refine ⟨List.ne_nil_of_mem hr, fun j hj => ?_⟩
    have hjn : j < n := Nat.lt_of_not_le fun h => tail_waits hs hc hn inv _ i rfl hin hun j h hj
    refine ⟨hjn, ?_⟩
    by_cases e : j = i
    · rw [e]; exact hy.qOp hi H
    · exact absurd (hend _ _ H j (ready_mono hj e)) (by omega)
  | succ f ih =>
    intro done a inv hfree hr hy H
    have hun := (mem_ready.1 hr).1
    refine ⟨List.ne_nil_of_mem hr, fun j hj => ?_⟩
    have hjn : j < n := Nat.lt_of_not_le fun h => tail_waits hs hc hn inv _ i rfl hin hun j h hj
    refine ⟨hjn, ?_⟩
    by_cases e : j = i
    · rw [e]; exact hy.qOp hi H
    have h1 := (H.2 j (ready_mono hj e)).2
    obtain ⟨hjun, oj, hoj, hall⟩ := mem_ready.1 hj
    have hap := hfree j oj hoj e hjun fun x hx hb hxi => by
      have h2 := hall x hx hb
      rw [hxi, getD_both hun] at h2
      cases h2
    refine qOp_mono (fun a' h3 => ih _ a' (inv.set hj hjn) (fun k ok hk hki hku hno => hfree k ok hk hki ?_ hno) (ready_mono hr (Ne.symm e)) h3.1 ?_) (qOp_put hoj hap (fun cs b => hsel i oi cs b hi) (fun cs b => hsel j oj cs b hoj) hy h1)
    · by_cases hjk : j = k
      · rw [← hjk]; exact hjun
      · rwa [getD_set_ne true hjk] at hku
    · rw [Array.setIfInBounds_comm _ _ e]
      exact h3.2

theorem Heads.lex {n g : Nat} {R : Act → Prop} (hsel : Region.noSelect ops = true) (hs : Region.sinkB md ops n = true) (hc : Region.chainB md ops n = true) (hn : n < ops.size) :
    ∀ (l : List Oper) (k : Nat) (done : Array Bool) (a : Act), (∀ j, j < l.length → l[j]? = ops[k + j]?) → k + l.length = n → HeadInv md ops n done → Region.lexHead md ops g l.length k done = true → wpQuiet P ops C R l a →
    Heads P md ops C n (fun done' a' => Region.seqB md ops g n done' = true ∧ R a') l.length done a
  | [], k, done, a, _, hk, _, hB, h => by
    obtain rfl : k = n := by simpa using hk
    exact ⟨by simpa [Region.lexHead] using hB, h⟩
  | o :: l, k, done, a, hl, hk, inv, hB, h => by
    rw [List.length_cons] at hk
    have h0 : ops[k]? = some o := by simpa using (hl 0 (by simp)).symm
    simp only [List.length_cons, Region.lexHead, Bool.and_eq_true] at hB
    have hr : k ∈ Region.ready md ops done := by simpa using hB.1.1
    have hq : qOp P ops C k (wpQuiet P ops C R l) a := by unfold qOp; simp only [h0]; exact h
    obtain ⟨v, hy, hK⟩ := yieldsIn_of_qOp h0 hq
    refine Heads.first h0 (Region.noSelect_spec hsel) hs hc hn (by omega) (fun _ _ hL => seqB_ready hL.1) l.length done a inv (Region.free_spec h0 hB.1.2) hr hy (Heads.lex hsel hs hc hn l (k + 1) _ _ (fun j hj => ?_) (by omega) (inv.set hr (by omega)) hB.2 hK)
    have := hl (j + 1) (by simp; omega)
    rw [show k + 1 + j = k + (j + 1) by omega]
    simpa using this

/-- The first n operations are quiet in the class, what stands behind them goes in its order from whatever world of the class. -/
theorem wp_region_quiet_tail {id : Nat} {Q : Exit → Act → World → Prop} {a : Act} {w : World} {l : List Oper} (n : Nat) (hm : P.follows .mixedOrders = true) (hB : Region.lexTailB .any l.toArray n = true) (hC : C { w with drawn := w.drawn + 1 })
    (h : wpQuiet P l.toArray C (fun a' => ∀ w', C w' → wpList P l.toArray Q (l.drop n) a' w') (l.take n) a) : (Code.region id l.toArray true).wp P Q a w := by
  simp only [Region.lexTailB, Bool.and_eq_true, decide_eq_true_eq] at hB
  obtain ⟨⟨⟨⟨hsel, hn⟩, hs⟩, hc⟩, hlex⟩ := hB
  have hn' : n < l.length := by simpa using hn
  have htl : (l.take n).length = n := by simp; omega
  have hdl : (l.drop n).length = l.toArray.size - n := by simp
  have inv : HeadInv .any l.toArray n (Array.replicate l.toArray.size false) :=
    ⟨by simp, fun j oj _ hl => (by rw [getD_replicate_false] at hl; cases hl), fun t _ ht => getD_in (by simpa using ht) (getD_replicate_false _ _)⟩
  have H := Heads.lex (g := l.toArray.size - n) hsel hs hc hn (l.take n) 0 _ a (fun j hj => by rw [htl] at hj; simp [hj]) (by simpa using htl) inv (by rw [htl]; exact hlex) h
  refine wp_region_any hm ?_
  have := Heads.any (Q := Q) (g := l.toArray.size - n) (fun done a' w' hw' hL => by
    have := wpAny_of_seq (md := .any) (Q' := Q) (l.drop n) n done a' w' (fun j => by simp [List.getElem?_drop]) (by rw [hdl]; exact hL.1) (hL.2 w' hw')
    rwa [hdl] at this) _ _ _ _ hC H
  rw [htl, show n + (l.toArray.size - n) = l.toArray.size by omega] at this
  exact this
end

/-- At the class 'blocks laid behind, draws'. -/
theorem wp_region_below_tail {P : Program} {id : Nat} {Q : Exit → Act → World → Prop} {a : Act} {w : World} {l : List Oper} (n : Nat) (hm : P.follows .mixedOrders = true) (hB : Region.lexTailB .any l.toArray n = true)
    (h : wpQuiet P l.toArray (fun w' => ∃ p : Regrown, w' = grow (redrawn w p.d) p.os) (fun a' => ∀ w', (∃ p : Regrown, w' = grow (redrawn w p.d) p.os) → wpList P l.toArray Q (l.drop n) a' w') (l.take n) a) : (Code.region id l.toArray true).wp P Q a w :=
  wp_region_quiet_tail (C := fun w' => ∃ p : Regrown, w' = grow (redrawn w p.d) p.os) n hm hB ⟨⟨w.drawn + 1, #[]⟩, by rw [grow_empty]; rfl⟩ h
/-- At the class 'draws'. -/
theorem wp_region_drew_tail {P : Program} {id : Nat} {Q : Exit → Act → World → Prop} {a : Act} {w : World} {l : List Oper} (n : Nat) (hm : P.follows .mixedOrders = true) (hB : Region.lexTailB .any l.toArray n = true)
    (h : wpQuiet P l.toArray (fun w' => ∃ q, w' = w.drewN q) (fun a' => ∀ w', (∃ q, w' = w.drewN q) → wpList P l.toArray Q (l.drop n) a' w') (l.take n) a) : (Code.region id l.toArray true).wp P Q a w :=
  wp_region_quiet_tail (C := fun w' => ∃ q, w' = w.drewN q) n hm hB ⟨1, rfl⟩ h
/-- A callee's contract that ends in 'Below', in whatever world of the class. -/
theorem regrown_calls {P : Program} {f : FuncId} {args : Array Value} {w : World} {v : Value} (h : ∀ w1, Below w.heap.size w w1 → Calls P f args w1 fun e w' => e = .returned v ∧ Below w1.heap.size w1 w') (d : Nat) (os : Array Obj) :
    Calls P f args (grow (redrawn w d) os) fun e w'' => e = .returned v ∧ ∃ p : Regrown, w'' = grow (redrawn w p.d) p.os :=
  Calls.regrown_of (h _ (below_regrown w d os))
end Go.Proofs.YtpbdmohccebhhaaGreat
