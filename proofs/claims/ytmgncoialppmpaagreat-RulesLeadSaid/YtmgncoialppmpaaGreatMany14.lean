/-
  Several texts, one behind the other: what each holds stands ahead of it.
-/
import Derived.Test.YtmgncoialppmpaaGreatMany13
import Derived.Test.YtmgncoialppmpaaGreatMany10
import Derived.Test.YtmgncoialppmpaaGreatMany8
import Derived.Deep.RegionHeldLaw
import Derived.Test.YtmgncoialppmpaaGreatMany11
import Derived.Test.YtmgncoialppmpaaGreatMany7
import Derived.BigQuiet
import Derived.Laws.MakeOwn

/-
  Contract of rules' (*wish).findsLive: the journal that stands under the number.
-/
namespace Go.Proofs.YtmgncoialppmpaaGreat
open Go.RowKit

theorem oldJ_none {l : List JR} {x : Int} (h : findK JR.id l x = none) : oldJ (l.map JR.j) x = zeroJ ∧ hasId (l.map JR.j) x = false ∧ liveE (l.map JR.j) x = 9 := by
  have h1 : findK Jrn.id (l.map JR.j) x = none := by rw [findK_map JR.j l x]; exact congrArg (Option.map JR.j) h
  unfold oldJ hasId liveE
  rw [h1]
  exact ⟨rfl, rfl, rfl⟩
theorem oldJ_some {l : List JR} {x : Int} {a : JR} (h : findK JR.id l x = some a) : oldJ (l.map JR.j) x = a.j ∧ hasId (l.map JR.j) x = true ∧ liveE (l.map JR.j) x = if a.j.void = true then 11 else 0 := by
  have h1 : findK Jrn.id (l.map JR.j) x = some a.j := by rw [findK_map JR.j l x]; exact congrArg (Option.map JR.j) h
  unfold oldJ hasId liveE
  rw [h1]
  exact ⟨rfl, rfl, rfl⟩
/-- What Get tells. -/
theorem getJ_any (B c : Nat) (v : Value) (l : List JR) (x : Int) (w : World) (h : TomeAt w B c v l) :
    Calls Tryz.prog 163 #[.pointer (some ⟨c, 0, none⟩), .int .i64 x] w fun e w' => ∃ A' c', e = .returned (.tuple #[.agg #[.int .i64 (oldJ (l.map JR.j) x).id, .int .i64 (oldJ (l.map JR.j) x).ent, .int .i64 (oldJ (l.map JR.j) x).per, .string (oldJ (l.map JR.j) x).ref, .slice A' (oldJ (l.map JR.j) x).lines.length c', .bool (oldJ (l.map JR.j) x).void], .bool (hasId (l.map JR.j) x)]) ∧
      w'.ownsRow w.heap.size 64 3 (.slice A' (oldJ (l.map JR.j) x).lines.length c') (oldJ (l.map JR.j) x).lines.length (lins (oldJ (l.map JR.j) x).lines) ∧ Below w.heap.size w w' := by
  cases hf : findK JR.id l x with
  | none =>
    obtain ⟨h1, h2, _⟩ := oldJ_none hf
    rw [h1, h2]
    exact (get_none B c v l x w h hf).mono fun e w' hh => ⟨none, 0, hh.1, World.ownsRow_nil _ _ _ _, hh.2⟩
  | some a =>
    obtain ⟨h1, h2, _⟩ := oldJ_some hf
    rw [h1, h2]
    exact get_some B c v l x a w h hf
theorem live_parts (M : List Jrn) (x : Int) : liveE M x = if hasId M x = true then (if (oldJ M x).void = true then 11 else 0) else 9 := by
  unfold oldJ hasId liveE
  cases findK Jrn.id M x with
  | none => rfl
  | some b => rfl

set_option maxRecDepth 100000 in
theorem set_old {w : World} {q : Nat} {cp gp bp tv : Value} {id : Int} {j o : JR} (h : WishAt w q cp gp bp id j o tv) (a : JR) (b : Bool) (hb : a.j.void = b) :
    WishAt ((((((w.setCell ⟨q, 10, none⟩ (.int .i64 a.j.id)).setCell ⟨q, 11, none⟩ (.int .i64 a.j.ent)).setCell ⟨q, 12, none⟩ (.int .i64 a.j.per)).setCell ⟨q, 13, none⟩ (.string a.j.ref)).setCell ⟨q, 14, none⟩ (.slice a.A a.j.lines.length a.c)).setCell ⟨q, 15, none⟩ (.bool b)) q cp gp bp id j a tv := by
  subst hb
  have h0 := set_here (i := 10) (u := .int .i64 a.j.id) h.blk
  simp only [List.setIfInBounds_toArray, List.set_cons_succ, List.set_cons_zero] at h0
  have h1 := set_here (i := 11) (u := .int .i64 a.j.ent) h0
  simp only [List.setIfInBounds_toArray, List.set_cons_succ, List.set_cons_zero] at h1
  have h2 := set_here (i := 12) (u := .int .i64 a.j.per) h1
  simp only [List.setIfInBounds_toArray, List.set_cons_succ, List.set_cons_zero] at h2
  have h3 := set_here (i := 13) (u := .string a.j.ref) h2
  simp only [List.setIfInBounds_toArray, List.set_cons_succ, List.set_cons_zero] at h3
  have h4 := set_here (i := 14) (u := .slice a.A a.j.lines.length a.c) h3
  simp only [List.setIfInBounds_toArray, List.set_cons_succ, List.set_cons_zero] at h4
  have h5 := set_here (i := 15) (u := .bool a.j.void) h4
  simp only [List.setIfInBounds_toArray, List.set_cons_succ, List.set_cons_zero] at h5
  exact ⟨h5⟩

def FindsEnd (w : World) (q : Nat) (cp gp bp tv : Value) (id : Int) (j : JR) (M : List Jrn) (w' : World) : Prop :=
  But (fun k => k = q) w w' ∧ (liveE M id = 0 → ∃ a : JR, a.j = oldJ M id ∧ WishAt w' q cp gp bp id j a tv ∧ Rd w' w'.heap.size 3 a.A a.j.lines.length (lins a.j.lines))

set_option maxRecDepth 100000 in
set_option maxHeartbeats 4000000 in
theorem findsLive_any (q B c : Nat) (v : Value) (l : List JR) (cp gp tv : Value) (id : Int) (j o : JR) (w : World) (h : WishAt w q cp gp (.pointer (some ⟨c, 0, none⟩)) id j o tv) (hT : TomeAt w B c v l) :
    Calls Tryz.prog 64 #[.pointer (some ⟨q, 0, none⟩)] w fun e w' => e = .returned (.int .i64 (liveE (l.map JR.j) id)) ∧ FindsEnd w q cp gp (.pointer (some ⟨c, 0, none⟩)) tv id j (l.map JR.j) w' := by
  obtain ⟨p0, p1, p2, p3, p16⟩ := h.head
  have hqc := h.lt
  have kg0 := Lib.hid (getJ_any B c v l id w.drew (hT.below (Below.refl _ _).drew))
  have kg1 := Lib.hid (fun o => (getJ_any B c v l id (w.alloc o).drew (hT.below ((Below.refl _ _).alloc (Nat.le_refl _) o).drew)).mono fun e w' hh =>
    show (∃ A' c', e = _ ∧ w'.ownsRow _ _ _ _ _ _ ∧ Below _ _ w' ∧ (∀ i, w'.cell? ⟨w.heap.size, i, none⟩ = (w.alloc o).cell? ⟨w.heap.size, i, none⟩) ∧ (∀ i, w'.frozen? ⟨w.heap.size, i, none⟩ = (w.alloc o).frozen? ⟨w.heap.size, i, none⟩) ∧ w.heap.size < w'.heap.size ∧ Hid (w'.heap[w.heap.size]? = some o)) by
      obtain ⟨A', c', h1, h2, h3⟩ := hh
      have hz : w.heap.size < (w.alloc o).drew.heap.size := by simp
      have hz2 := h3.size
      exact ⟨A', c', h1, h2, h3, fun i => h3.cell (p := ⟨w.heap.size, i, none⟩) hz, fun i => h3.frozen (p := ⟨w.heap.size, i, none⟩) hz, by omega, (h3.block _ hz).trans (heap_new w o)⟩)
  have HLV := Lib.hid (live_parts (l.map JR.j) id)
  have HW := Lib.hid h
  clear h hT
  unfold FindsEnd
  generalize l.map JR.j = M at *
  generalize hasId M id = on at *
  generalize hjj : oldJ M id = jj at *
  have HJJ := Lib.hid hjj
  clear hjj
  go_enter Tryz.func64, Tryz.ntmps64
  go_wp2_with fail
  rename_i K hK
  have REST : ∀ (A' : Option Addr) (c' ob N : Nat) (w5 : World), Below w.heap.size w w5 → w.heap.size ≤ N → w5.ownsRow N 64 3 (.slice A' jj.lines.length c') jj.lines.length (lins jj.lines) → w.heap.size ≤ ob → JAt w5 ob jj A' jj.lines.length c' →
      ∀ (u1 u2 u5 u6 u7 u8 u9 u10 u11 u12 u13 u14 u15 u16 u17 u18 u19 u20 u21 u22 u23 u24 u25 : Value), K ⟨#[.pointer (some ⟨q, 0, none⟩), u1, u2, .pointer (some ⟨ob, 0, none⟩), .bool on, u5, u6, u7, u8, u9, u10, u11, u12, u13, u14, u15, u16, u17, u18, u19, u20, u21, u22, u23, u24, u25], []⟩ w5 := by
    intro A' c' ob N w5 hb hN hown hob hj u1 u2 u5 u6 u7 u8 u9 u10 u11 u12 u13 u14 u15 u16 u17 u18 u19 u20 u21 u22 u23 u24 u25
    refine hK _ _ ?_
    have hW5 := HW.out.below hb
    have HB := Lib.hid hb
    obtain ⟨t0, t1, t2, t3, t4, t5⟩ := six_cells hj
    have f := fun i => hW5.warm i
    obtain ⟨r10, r11, r12, r13, r14, r15⟩ := hW5.old
    have hqz : q < w5.heap.size := hW5.lt
    have HW5 := Lib.hid hW5; have HO := Lib.hid hown; have HJ := Lib.hid hj
    clear hb hown hj hW5 hK kg0 kg1
    cases on
    · have HE : Hid (liveE M id = 9) := HLV.out
      go_wp2_with fail
      go_ret
      exact ⟨ret_int HE.out.symm, But.of_below HB.out, fun h => by rw [HE.out] at h; cases h⟩
    · cases hv : jj.void
      · have HE : Hid (liveE M id = 0) := by
          have := HLV.out
          rw [hv] at this
          exact this
        rw [hv] at t5
        obtain ⟨w6, hw6⟩ : ∃ w6, w5.setCells q 10 [.int .i64 jj.id, .int .i64 jj.ent, .int .i64 jj.per, .string jj.ref, .slice A' jj.lines.length c', .bool false] = w6 := ⟨_, rfl⟩
        have hw6' : (((((w5.setCell ⟨q, 10, none⟩ (.int .i64 jj.id)).setCell ⟨q, 11, none⟩ (.int .i64 jj.ent)).setCell ⟨q, 12, none⟩ (.int .i64 jj.per)).setCell ⟨q, 13, none⟩ (.string jj.ref)).setCell ⟨q, 14, none⟩ (.slice A' jj.lines.length c')).setCell ⟨q, 15, none⟩ (.bool false) = w6 := hw6
        have HW6 := Lib.hid hw6'
        have HW66 := Lib.hid hw6
        clear hw6 hw6'
        have HV := Lib.hid hv
        have HN := Lib.hid hN
        clear hv hN
        go_wp2_with fail
        rw [HW6.out]
        go_ret
        refine ⟨ret_int HE.out.symm, (But.of_below HB.out).trans ?_, fun _ => ⟨⟨jj, A', c'⟩, rfl, ?_, ?_⟩⟩
        · rw [← HW66.out]
          have hsb := setCells_below (B := q) (g := q) (Nat.le_refl q) [.int .i64 jj.id, .int .i64 jj.ent, .int .i64 jj.per, .string jj.ref, .slice A' jj.lines.length c', .bool false] w5 10
          exact ⟨hsb.os, hsb.tape, hsb.output, hsb.size, fun k _ hk => setCells_other _ _ _ _ hk⟩
        · rw [← HW6.out]
          exact set_old HW5.out ⟨jj, A', c'⟩ false HV.out
        · rw [← HW66.out]
          exact rd_of_own (own_kept HO.out fun k _ hk2 => setCells_other _ _ _ _ (by have := own_ge HO.out k hk2; have := HN.out; omega))
      · have HE : Hid (liveE M id = 11) := by
          have := HLV.out
          rw [hv] at this
          exact this
        rw [hv] at t5
        go_wp2_with fail
        go_ret
        exact ⟨ret_int HE.out.symm, But.of_below HB.out, fun h => by rw [HE.out] at h; cases h⟩
  have HREST := Lib.hid REST
  clear REST hK
  go_region_law (first | (go_simp; go_at_call 163; refine (kg1.out _).mono ?_; rintro e w5 ⟨A', c', rfl, hown, hb, q0, f0, hz7, HBK⟩) | (go_simp; go_at_call 163; refine kg0.out.mono ?_; rintro e w5 ⟨A', c', rfl, hown, hb⟩))
  all_goals go_simp
  all_goals first
    | exact HREST.out A' c' w.heap.size (w.heap.size + 1) _ (below_six (((Below.refl _ _).alloc (Nat.le_refl _) _).drew.trans (hb.mono (by simp))) (Nat.le_refl _) _ _ _ _ _ _) (Nat.le_succ _) (own_six (by simpa using hown) (Nat.lt_succ_self _) _ _ _ _ _ _) (Nat.le_refl _) (six_jat jj A' _ c' HBK.out) _ _ _ _ _ _ _ _ _ _ _ _ _ _ _ _ _ _ _ _ _ _ _
    | exact HREST.out A' c' w5.heap.size w.heap.size _ ((((Below.refl _ w).drew).trans hb).alloc hb.size _) (Nat.le_refl _) (own_kept hown fun k hk _ => Below.heap_alloc _ _ _ hk) hb.size (heap_new w5 _) _ _ _ _ _ _ _ _ _ _ _ _ _ _ _ _ _ _ _ _ _ _ _
end Go.Proofs.YtmgncoialppmpaaGreat

/-
  Contracts of SameJournals (of lists that are alike), (*Book).has, Same (of books that are alike), All.
-/
namespace Go.Proofs.YtmgncoialppmpaaGreat
open Go.RowKit

set_option maxRecDepth 100000 in
set_option maxHeartbeats 2000000 in
theorem sameJournals_any (l m : List JR) (A1 A2 : Option Addr) (n c1 c2 B1 B2 : Nat) (w : World) (h1 : JlRd w B1 A1 n l) (h2 : JlRd w B2 A2 n m) (hB1 : B1 ≤ w.heap.size) (hB2 : B2 ≤ w.heap.size) (hn : n ≤ 1000000) (he : l.map JR.j = m.map JR.j) :
    Calls Tryz.prog 47 #[.slice A1 n c1, .slice A2 n c2] w fun e w' => e = .returned (.bool true) ∧ Below w.heap.size w w' := by
  have H1 := Lib.hid h1
  have H2 := Lib.hid h2
  have HE := Lib.hid he
  have t1 : ((n : Int) != (n : Int)) = false := by simp
  clear h1 h2 he
  go_enter Tryz.func47, Tryz.ntmps47
  go_wp2_with fail
  go_loopw [5] (fun iv wr => ∃ k : Nat, k ≤ n ∧ iv = .int .i64 k ∧ Below w.heap.size w wr) (fun iv _ => n - (intOf iv).toNat)
  case atStart => exact ⟨0, Nat.zero_le _, rfl, Below.refl _ _⟩
  case round =>
    obtain ⟨k, hk, rfl, hbel⟩ := hrel
    have hzr := hbel.size
    by_cases hlt : k < n
    · have hkn : (k : Int) < (n : Int) := by omega
      have r1 := H1.out.far hbel hB1
      have r2 := H2.out.far hbel hB2
      obtain ⟨ad, a, rfl, hb1, hx, p1, p2, p3, p4, p5, p6⟩ := r1.rd.jr hlt
      obtain ⟨ad2, b, rfl, hb2, hy, q1, q2, q3, q4, q5, q6⟩ := r2.rd.jr hlt
      have hab : a.j = b.j := by
        have e1 : (l.map JR.j)[k]? = some a.j := by rw [List.getElem?_map, hx]; rfl
        have e2 : (m.map JR.j)[k]? = some b.j := by rw [List.getElem?_map, hy]; rfl
        rw [HE.out, e2] at e1
        injection e1 with e1
        exact e1.symm
      have ma := List.mem_of_getElem? hx
      have mb := List.mem_of_getElem? hy
      have Q : Hid _ := regrown_calls (w := wr) fun w1 hb => by
        have := refSame_any a.j b.j a.A b.A a.j.lines.length b.j.lines.length a.c b.c B1 B2 w1 ((r1.lines a ma).far hb (by omega)) ((r2.lines b mb).far hb (by omega)) (by have := hb.size; omega) (by have := hb.size; omega) (H1.out.size a ma).2 (H2.out.size b mb).2
        rw [hab, sameJ_self] at this
        exact this
      rw [hab] at p1 p2 p3 p4 p5 p6
      unfold Jrn.val at Q
      replace p1 := cell_regrown p1; replace p2 := cell_regrown p2; replace p3 := cell_regrown p3; replace p4 := cell_regrown p4; replace p5 := cell_regrown p5; replace p6 := cell_regrown p6
      replace q1 := cell_regrown q1; replace q2 := cell_regrown q2; replace q3 := cell_regrown q3; replace q4 := cell_regrown q4; replace q5 := cell_regrown q5; replace q6 := cell_regrown q6
      have HB := Lib.hid hbel
      clear hx hy hbel r1 r2 ma mb hab
      go_wp2_with fail
      refine wp_region_quiet_below (by kernel_rfl) (by kernel_rfl) ?_
      repeat (go_big_quiet_step (fail))
      go_big_quiet_want
      go_big_quiet_op
      go_big_quiet_call (exact Q.out _ _)
      repeat (go_big_quiet_step (fail))
      refine wpQuiet_nil ?_
      intro _ hw'
      obtain ⟨⟨dq, osq⟩, hw''⟩ := hw'
      subst hw''
      have HB2 := Lib.hid (HB.out.trans ((below_regrown wr dq osq).mono HB.out.size))
      go_wp2_with fail
      exact ⟨⟨k + 1, by omega, by go_num, HB2.out⟩, by simp [intOf]; omega⟩
    · have HB := Lib.hid hbel
      clear hbel
      go_wp2_with fail
      go_ret
      exact ⟨rfl, HB.out⟩

set_option maxRecDepth 100000 in
set_option maxHeartbeats 1000000 in
theorem has_yes (B c : Nat) (v : Value) (l : List JR) (a : JR) (A : Option Addr) (cap Br : Nat) (w : World) (h : TomeAt w B c v l) (ha : a ∈ l) (hR : Rd w Br 3 A a.j.lines.length (lins a.j.lines)) (hBr : Br ≤ w.heap.size) :
    Calls Tryz.prog 90 #[.pointer (some ⟨c, 0, none⟩), .agg #[.int .i64 a.j.id, .int .i64 a.j.ent, .int .i64 a.j.per, .string a.j.ref, .slice A a.j.lines.length cap, .bool a.j.void]] w fun e w' => e = .returned (.bool true) ∧ Below w.heap.size w w' := by
  obtain ⟨i, hi⟩ := List.mem_iff_getElem?.1 ha
  have hf := findK_of (key := JR.id) h.rise hi
  have hp := posK_of (key := JR.id) h.rise hi
  obtain ⟨W, hW⟩ : ∃ W, w.alloc (.cells #[.int .i64 a.j.id, .int .i64 a.j.ent, .int .i64 a.j.per, .string a.j.ref, .slice A a.j.lines.length cap, .bool a.j.void] 29) = W := ⟨_, rfl⟩
  have hbW : Below w.heap.size w W := by rw [← hW]; exact (Below.refl _ _).alloc (Nat.le_refl _) _
  have hzW : W.heap.size = w.heap.size + 1 := by rw [← hW]; simp
  have kp : Hid (Calls Tryz.prog 92 #[.pointer (some ⟨c, 0, none⟩), .int .i64 a.j.id] W fun e w' => e = .returned (.tuple #[.int .i64 (i : Nat), .bool true]) ∧ Below W.heap.size W w') := by
    have := place_any B c v l a.j.id W (h.below hbW)
    rw [show posK JR.id l a.j.id = i from hp, show findK JR.id l a.j.id = some a from hf] at this
    exact this
  have HC := Lib.hid (h.below hbW)
  have HI := Lib.hid hi
  have HW := Lib.hid hW
  have HBW := Lib.hid hbW
  have HR := Lib.hid (hR.far hbW hBr)
  have hlen := h.len
  have hsz := checkE_max (h.ok a ha)
  clear h hf hp hi hW hbW hR
  go_enter Tryz.func90, Tryz.ntmps90
  go_wp2_with fail
  rw [HW.out]
  refine kp.out.mono ?_
  rintro e w1 ⟨rfl, hb1⟩
  have h1 := HC.out.below hb1
  have hc1 := h1.cell
  obtain ⟨g, cap2, rfl, hpl, hgl, hBg, hcs, hfz⟩ := h1.at HI.out
  have p0 := hcs 0 _ rfl
  rw [Nat.add_zero] at p0
  have p1 := hcs 1 _ rfl
  have p2 := hcs 2 _ rfl
  have p3 := hcs 3 _ rfl
  have p4 := hcs 4 _ rfl
  have p5 := hcs 5 _ rfl
  have hpI : (i : Int) < (l.length : Int) := by omega
  obtain ⟨b0, b1, b2, b3, b4, b5⟩ := box6 HW.out hb1
  have Q : Hid _ := regrown_calls (w := w1) fun w2 hb => by
    have := same_any a.j a.j a.A A a.j.lines.length a.j.lines.length a.c cap _ Br w2 ((h1.rd ha).below hb) ((HR.out.far hb1 (by omega)).far hb (by have := hb1.size; omega)) hb.size (by have := hb.size; have := hb1.size; omega) hsz.2 hsz.2
    rw [sameJ_self] at this
    exact this
  unfold Jrn.val at Q
  replace hc1 := cell_regrown hc1
  replace p0 := cell_regrown p0; replace p1 := cell_regrown p1; replace p2 := cell_regrown p2; replace p3 := cell_regrown p3; replace p4 := cell_regrown p4; replace p5 := cell_regrown p5
  replace b0 := cell_regrown b0; replace b1 := cell_regrown b1; replace b2 := cell_regrown b2; replace b3 := cell_regrown b3; replace b4 := cell_regrown b4; replace b5 := cell_regrown b5
  have HB1 := Lib.hid (HBW.out.trans (hb1.mono HBW.out.size))
  clear hb1 h1 hcs hfz
  go_wp2_with fail
  refine wp_region_quiet_below (by kernel_rfl) (by kernel_rfl) ?_
  repeat (go_big_quiet_step (fail))
  go_big_quiet_want
  go_big_quiet_op
  go_big_quiet_call (exact Q.out _ _)
  repeat (go_big_quiet_step (fail))
  refine wpQuiet_nil ?_
  intro _ hw'
  obtain ⟨⟨dq, osq⟩, hw''⟩ := hw'
  subst hw''
  have HB2 := Lib.hid (HB1.out.trans ((below_regrown w1 dq osq).mono HB1.out.size))
  go_wp2_with fail
  go_ret
  exact ⟨rfl, HB2.out⟩

set_option maxRecDepth 100000 in
set_option maxHeartbeats 1000000 in
theorem same_yes (B1 B2 c1 c2 : Nat) (v1 v2 : Value) (l1 l2 : List JR) (w : World) (h1 : TomeAt w B1 c1 v1 l1) (h2 : TomeAt w B2 c2 v2 l2) (he : l1.map JR.j = l2.map JR.j) :
    Calls Tryz.prog 24 #[.pointer (some ⟨c1, 0, none⟩), .pointer (some ⟨c2, 0, none⟩)] w fun e w' => e = .returned (.bool true) ∧ Below w.heap.size w w' := by
  have hl : l1.length = l2.length := by rw [← List.length_map (f := JR.j), he, List.length_map]
  have k1 := Lib.hid (len_any B1 c1 v1 l1 w h1)
  have k2 := Lib.hid (len_any B2 c2 v2 l2 w h2)
  have kh : Hid (Calls Tryz.prog 89 #[.pointer (some ⟨c1, 0, none⟩), .func (.func 90) #[.pointer (some ⟨c2, 0, none⟩)] #[]] w fun e w' => e = .returned (.bool (l1.all fun _ => true)) ∧ Below w.heap.size w w') :=
    holds_any _ (.inr rfl) _ (fun _ => true) B1 c1 v1 l1 w h1 fun a w1 ha hb => by
      obtain ⟨b, hb2, hj⟩ : ∃ b ∈ l2, b.j = a.j := by
        have : a.j ∈ l2.map JR.j := by rw [← he]; exact List.mem_map.2 ⟨a, ha, rfl⟩
        obtain ⟨b, h3, h4⟩ := List.mem_map.1 this
        exact ⟨b, h3, h4⟩
      have := has_yes B2 c2 v2 l2 b a.A a.c w.heap.size w1 (h2.below hb) hb2 (by rw [hj]; exact (h1.rd ha).far hb (Nat.le_refl _)) hb.size
      rw [hj] at this
      exact this
  rw [show (l1.all fun _ => true) = true by simp] at kh
  rw [hl] at k1
  have t1 : ((l2.length : Int) == (l2.length : Int)) = true := by simp
  clear h1 h2 he hl
  go_enter Tryz.func24, Tryz.ntmps24
  go_wp2_with fail
  refine k1.out.mono ?_
  rintro e w1 ⟨rfl, rfl⟩
  go_wp2_with fail
  refine k2.out.mono ?_
  rintro e w1 ⟨rfl, rfl⟩
  go_wp2_with fail
  refine kh.out.mono ?_
  rintro e w1 ⟨rfl, hb⟩
  go_wp2_with fail
  go_ret
  exact ⟨rfl, hb⟩

def zeroR : JR := ⟨zeroJ, none, 0⟩
theorem made_jrs (n : Nat) : (madeCells (Value.agg #[.int .i64 0, .int .i64 0, .int .i64 0, .string ⟨#[]⟩, .slice none 0 0, .bool false]).cells (n * 6)).toList = jrs (List.replicate n zeroR) := by
  apply List.ext_getElem?
  intro i
  by_cases hi : i < n * 6
  · have h1 : (jrs (List.replicate n zeroR))[i / 6 * 6 + i % 6]? = zeroR.cells[i % 6]? := by
      have hlt : i % 6 < zeroR.cells.length := by show i % 6 < 6; omega
      rw [List.getElem?_eq_getElem hlt]
      exact jrs_at _ (i / 6) zeroR (by rw [List.getElem?_replicate, if_pos (by omega)]) (i % 6) _ (List.getElem?_eq_getElem hlt)
    rw [show i / 6 * 6 + i % 6 = i by omega] at h1
    rw [h1]
    unfold madeCells
    rw [Array.getElem?_toList, Array.getElem?_map, Array.getElem?_range, if_pos hi]
    have h6 : i % 6 = 0 ∨ i % 6 = 1 ∨ i % 6 = 2 ∨ i % 6 = 3 ∨ i % 6 = 4 ∨ i % 6 = 5 := by omega
    simp only [Value.cells, Option.map_some]
    rcases h6 with h | h | h | h | h | h <;> simp [h, JR.cells, zeroR, zeroJ]
  · rw [List.getElem?_eq_none (by rw [Array.length_toList, size_madeCells]; omega), List.getElem?_eq_none (by rw [jrs_len]; simp; omega)]
theorem make_jrs {q : IntKind} {n : Nat} (hn : n ≤ 1000000) (w : World) : (Instr.makeSlice 24 (.int q (n : Int)) (.int q (n : Int))).run Tryz.prog w = .ok (.slice (some ⟨w.heap.size, 0, none⟩) n n) (w.alloc (.cells (jrs (List.replicate n zeroR)).toArray 29)) := by
  obtain ⟨i, hi, hz, h1, h2⟩ := info_parts infoJrn
  have := run_make (P := Tryz.prog) w 24 29 i _ Tryz.underlying24 hi hz q q n n (by omega) (by omega) (by rw [h2]; omega) (by omega)
  rw [this, h1]
  simp only [Int.toNat_natCast]
  rw [← made_jrs, Array.toArray_toList]
/-- Journals in rows of one's own. -/
structure OwnJl (w : World) (B : Nat) (A : Option Addr) (n c : Nat) (l : List JR) : Prop where
  own : w.ownsRow B 29 6 (.slice A n c) n (jrs l)
  lines : ∀ a ∈ l, w.ownsRow B 64 3 a.lv a.j.lines.length (lins a.j.lines)
theorem OwnJl.kept {w w' : World} {B n c : Nat} {A : Option Addr} {l : List JR} (h : OwnJl w B A n c l) (hb : Below w.heap.size w w') : OwnJl w' B A n c l := ⟨own_kept h.own fun k hk _ => hb.block k hk, fun a ha => own_kept (h.lines a ha) fun k hk _ => hb.block k hk⟩
theorem OwnJl.rd {w : World} {B n c : Nat} {A : Option Addr} {l : List JR} (h : OwnJl w B A n c l) (hs : ∀ a ∈ l, a.j.ref.size ≤ maxLen ∧ a.j.lines.length ≤ maxLen) : JlRd w w.heap.size A n l := ⟨rd_of_own h.own, fun a ha => rd_of_own (h.lines a ha), fun a ha => own_nil (h.lines a ha), hs⟩
theorem own_make (w : World) (n : Nat) (hn : n ≤ 1000000) : (w.alloc (.cells (jrs (List.replicate n zeroR)).toArray 29)).ownsRow w.heap.size 29 6 (.slice (some ⟨w.heap.size, 0, none⟩) n n) n (jrs (List.replicate n zeroR)) :=
  ⟨by rw [jrs_len]; simp, .inr ⟨w.heap.size, n, _, rfl, Nat.le_refl _, heap_new _ _, Nat.le_refl _, by unfold maxLen; omega, by rw [List.size_toArray, jrs_len]; simp, by rw [List.take_of_length_le (by rw [jrs_len]; simp)]⟩⟩
theorem set_next {m : List JR} {r : Nat} {a : JR} (hr : 0 < r) : (m ++ List.replicate r zeroR).set m.length a = (m ++ [a]) ++ List.replicate (r - 1) zeroR := by
  obtain ⟨r, rfl⟩ : ∃ q, r = q + 1 := ⟨r - 1, by omega⟩
  rw [List.set_append_right _ _ (Nat.le_refl _), Nat.sub_self, List.replicate_succ, List.set_cons_zero]
  simp
end Go.Proofs.YtmgncoialppmpaaGreat
