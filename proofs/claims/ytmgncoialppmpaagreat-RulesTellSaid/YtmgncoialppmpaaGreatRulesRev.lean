/-
  Contract of rules' (Rules).Reverse.
-/
import Derived.Test.YtmgncoialppmpaaGreatMany24
import Derived.Test.YtmgncoialppmpaaGreatEntryReverse
import Derived.Test.YtmgncoialppmpaaGreatRefBook
namespace Go.Proofs.YtmgncoialppmpaaGreat
open Go.RowKit

def rRevE (C : List Acc) (G : List Trio) (M : List Jrn) (id nu pe : Int) : Int :=
  if liveE M id = 0 then (if revE (oldJ M id) nu pe = 0 then rPostE C G M (revV (oldJ M id) nu pe) else revE (oldJ M id) nu pe) else liveE M id
def rRevJ (C : List Acc) (G : List Trio) (M : List Jrn) (id nu pe : Int) : Jrn := if rRevE C G M id nu pe = 0 then revV (oldJ M id) nu pe else zeroJ
def RRevEnd (w : World) (E : Int) (J : Jrn) (e : Ending) (w' : World) : Prop :=
  ∃ A n c, e = .returned (.tuple #[.agg #[.int .i64 J.id, .int .i64 J.ent, .int .i64 J.per, .string J.ref, .slice A n c, .bool J.void], .int .i64 E]) ∧ w'.ownsRow w.heap.size 64 3 (.slice A n c) n (lins J.lines) ∧ Below w.heap.size w w'
theorem RRevEnd.no {w w' : World} {E : Int} {J : Jrn} {e : Ending} (hJ : J = zeroJ) (he : e = .returned (.tuple #[.agg #[.int .i64 0, .int .i64 0, .int .i64 0, .string ⟨#[]⟩, .slice none 0 0, .bool false], .int .i64 E])) (hb : Below w.heap.size w w') : RRevEnd w E J e w' := by
  subst hJ
  exact ⟨none, 0, 0, he, World.ownsRow_nil _ _ _ _, hb⟩
theorem oldJ_ok {M : List Jrn} {id : Int} (hok : ∀ j ∈ M, checkE j = 0) (h : liveE M id = 0) : checkE (oldJ M id) = 0 := by
  unfold liveE at h
  unfold oldJ
  cases hf : findK Jrn.id M id with
  | none => rw [hf] at h; cases h
  | some b => exact hok b (findK_mem hf).1

def revFs : List FuncId := [63, 64]
/-- Behind the two questions. -/
def RevMid (W : World) (q c g bk : Nat) (id : Int) (M : List Jrn) (w2 : World) : Prop :=
  Below W.heap.size W w2 ∧ (liveE M id = 0 → ∃ o tv, o.j = oldJ M id ∧ WishAt w2 q (ptr c) (ptr g) (ptr bk) id zeroR o tv ∧ Rd w2 w2.heap.size 3 o.A o.j.lines.length (lins o.j.lines))
theorem rev_steps {w : World} {q r c g bk : Nat} {C : List Acc} {G : List Trio} {l : List JR} {id : Int} (hP : PartsAt w c g bk C G l) :
    ∀ i F x w1, revFs[i]? = some F → ([0, liveE (l.map JR.j) id])[i]? = some x → WI w q r revFs (ptr c) (ptr g) (ptr bk) id zeroR (l.map JR.j) [] 1 3 i w1 →
      Calls Tryz.prog F #[.pointer (some ⟨q, 0, none⟩)] w1 fun e w2 => e = .returned (.int .i64 x) ∧ (x = 0 → WI w q r revFs (ptr c) (ptr g) (ptr bk) id zeroR (l.map JR.j) [] 1 3 (i + 1) w2) ∧ (x ≠ 0 → RevMid w q c g bk id (l.map JR.j) w2) := by
  intro i F x w1 hF hx h
  match i with
  | 0 =>
    obtain rfl := Option.some.inj hF; obtain rfl := Option.some.inj hx
    exact (q_parts h (by omega) (by omega)).mono fun e w2 hh => ⟨hh.1, hh.2.1, fun h => absurd rfl h⟩
  | 1 =>
    obtain rfl := Option.some.inj hF; obtain rfl := Option.some.inj hx
    exact (ask_finds h hP (by omega)).mono fun e w2 hh => ⟨hh.1, hh.2.1, fun h => ⟨hh.2.2 h, fun h0 => absurd h0 h⟩⟩
  | n + 2 => cases hF

theorem one_of {w W4 : World} {o1 o2 : Obj} (h : (w.alloc o1).alloc o2 = W4) : W4.heap[w.heap.size]? = some o1 ∧ W4.heap[w.heap.size + 1]? = some o2 ∧ Below w.heap.size w W4 := by
  rw [← h]
  refine ⟨(Below.heap_alloc _ _ _ (by simp)).trans (heap_new w o1), ?_, ((Below.refl _ _).alloc (Nat.le_refl _) o1).alloc (by simp) o2⟩
  have h1 := heap_new (w.alloc o1) o2
  have e1 : (w.alloc o1).heap.size = w.heap.size + 1 := by simp
  rw [e1] at h1
  exact h1
theorem firstE_two (x : Int) : firstE [0, x] = x := by
  unfold firstE firstE firstE
  by_cases h : x = 0 <;> simp [h]

set_option maxRecDepth 100000 in
set_option maxHeartbeats 4000000 in
theorem rulesReverse_any (c g bk : Nat) (C : List Acc) (G : List Trio) (l : List JR) (id nu pe : Int) (w : World) (hP : PartsAt w c g bk C G l) :
    Calls Tryz.prog 12 #[.agg #[.pointer (some ⟨c, 0, none⟩), .pointer (some ⟨g, 0, none⟩), .pointer (some ⟨bk, 0, none⟩)], .int .i64 id, .int .i64 nu, .int .i64 pe] w (RRevEnd w (rRevE C G (l.map JR.j) id nu pe) (rRevJ C G (l.map JR.j) id nu pe)) := by
  have hok : ∀ j ∈ l.map JR.j, checkE j = 0 := fun j hj => by
    obtain ⟨a, ha, rfl⟩ := List.mem_map.1 hj
    obtain ⟨B, v, hT⟩ := hP.book
    exact hT.ok a ha
  obtain ⟨W2, hW2⟩ : ∃ W2, (w.alloc (.cells #[.pointer (some ⟨c, 0, none⟩), .pointer (some ⟨g, 0, none⟩), .pointer (some ⟨bk, 0, none⟩)] 35)).alloc (.cells #[.int .i64 0, .int .i64 0, .int .i64 0, .string ⟨#[]⟩, .slice none 0 0, .bool false] 29) = W2 := ⟨_, rfl⟩
  have hb2 : Below w.heap.size w W2 := by rw [← hW2]; exact ((Below.refl _ _).alloc (Nat.le_refl _) _).alloc (by simp) _
  have hz2 : W2.heap.size = w.heap.size + 1 + 1 := by rw [← hW2]; simp
  have hbox : W2.heap[w.heap.size]? = some (.cells #[.pointer (some ⟨c, 0, none⟩), .pointer (some ⟨g, 0, none⟩), .pointer (some ⟨bk, 0, none⟩)] 35 (0, 0)) := by
    rw [← hW2]
    exact (Below.heap_alloc _ _ _ (by simp)).trans (heap_new w _)
  have hres : JAt W2 (w.heap.size + 1) zeroJ none 0 0 := by
    rw [← hW2]
    have := heap_new (w.alloc (.cells #[.pointer (some ⟨c, 0, none⟩), .pointer (some ⟨g, 0, none⟩), .pointer (some ⟨bk, 0, none⟩)] 35)) (.cells #[.int .i64 0, .int .i64 0, .int .i64 0, .string ⟨#[]⟩, .slice none 0 0, .bool false] 29)
    rw [show (w.alloc (.cells #[.pointer (some ⟨c, 0, none⟩), .pointer (some ⟨g, 0, none⟩), .pointer (some ⟨bk, 0, none⟩)] 35)).heap.size = w.heap.size + 1 by simp] at this
    exact this
  have b0 : W2.cell? ⟨w.heap.size, 0, none⟩ = some (.pointer (some ⟨c, 0, none⟩)) := cell_of hbox 0
  have b1 : W2.cell? ⟨w.heap.size, 1, none⟩ = some (.pointer (some ⟨g, 0, none⟩)) := cell_of hbox 1
  have b2 : W2.cell? ⟨w.heap.size, 2, none⟩ = some (.pointer (some ⟨bk, 0, none⟩)) := cell_of hbox 2
  have HP2 := Lib.hid (hP.below hb2)
  have HW2 := Lib.hid hW2; have HB2 := Lib.hid hb2; have HBOX := Lib.hid hbox; have HRES := Lib.hid hres; have HZ2 := Lib.hid hz2
  have HOLD : Hid (liveE (l.map JR.j) id = 0 → checkE (oldJ (l.map JR.j) id) = 0) := fun h => oldJ_ok hok h
  clear hW2 hb2 hbox hres hz2 hP hok
  go_enter Tryz.func12, Tryz.ntmps12
  go_wp2_with fail
  rw [HW2.out]
  go_wp2_with fail
  generalize hW : World.alloc _ _ = W4
  obtain ⟨hq, hr, hb4⟩ := one_of hW
  rw [HZ2.out] at hq hr
  have hmid : MidW W2 W4 (w.heap.size + 1 + 1) (w.heap.size + 1 + 1 + 1) revFs := ⟨hb4, Nat.le_of_eq HZ2.out, hr, by omega⟩
  have hwish : WishAt W4 (w.heap.size + 1 + 1) (ptr c) (ptr g) (ptr bk) id zeroR zeroR (.pointer none) := ⟨hq⟩
  have ka := wishAsk_any (.pointer (some ⟨w.heap.size + 1 + 1, 0, none⟩)) revFs [0, liveE (l.map JR.j) id] revFs.length revFs.length (w.heap.size + 1 + 1 + 1 + 1) (some ⟨w.heap.size + 1 + 1 + 1, 0, none⟩) W4 _ (RevMid W2 (w.heap.size + 1 + 1) c g bk id (l.map JR.j)) rfl rfl (by decide) (by unfold Asks revFs; decide) (fun i w1 hi => hi.1.rd) ⟨hmid, fun _ => ⟨_, hwish⟩, fun h => absurd h (by omega), fun h => absurd h (by omega)⟩ (rev_steps HP2.out) (fun w1 hi => ⟨hi.1.bel, fun _ => hi.2.2.1 (by decide) (by decide)⟩)
  rw [firstE_two] at ka
  have KA := Lib.hid ka
  have HRV : Hid (∀ x, rRevE C G (l.map JR.j) id nu pe = x → x ≠ 0 → rRevJ C G (l.map JR.j) id nu pe = zeroJ) := fun x h1 h2 => by unfold rRevJ; rw [h1, if_neg h2]
  have HRE : Hid (rRevE C G (l.map JR.j) id nu pe = if liveE (l.map JR.j) id = 0 then (if revE (oldJ (l.map JR.j) id) nu pe = 0 then rPostE C G (l.map JR.j) (revV (oldJ (l.map JR.j) id) nu pe) else revE (oldJ (l.map JR.j) id) nu pe) else liveE (l.map JR.j) id) := rfl
  have HRJ : Hid (rRevE C G (l.map JR.j) id nu pe = 0 → rRevJ C G (l.map JR.j) id nu pe = revV (oldJ (l.map JR.j) id) nu pe) := fun h => by unfold rRevJ; rw [if_pos h]
  clear hW hq hr hb4 hmid hwish ka b0 b1 b2
  refine KA.out.mono ?_
  rintro e w5 ⟨rfl, hb5, hold⟩
  have hrs5 : JAt w5 (w.heap.size + 1) zeroJ none 0 0 := (hb5.block _ (lt_of_blk HRES.out)).trans HRES.out
  have hbx5 := (hb5.block _ (lt_of_blk HBOX.out)).trans HBOX.out
  have HB5 : Hid (Below w.heap.size w w5) := HB2.out.trans (hb5.mono HB2.out.size)
  have HB25 := Lib.hid hb5
  have HR5 := Lib.hid hrs5; have HX5 := Lib.hid hbx5; have HOL := Lib.hid hold
  clear hb5 hold KA
  have z0 : ((0 : Int) != 0) = false := rfl
  by_cases hl : liveE (l.map JR.j) id = 0
  · rw [hl]
    obtain ⟨o, tv, ho, hw5, hrd⟩ := HOL.out hl
    obtain ⟨p10, p11, p12, p13, p14, p15⟩ := hw5.old
    have hck := HOLD.out hl
    rw [← ho] at hck
    obtain ⟨_, hlen, _, _⟩ := checkE_fits hck
    have href := (checkE_len hck).2.2.2
    have kr := Lib.hid (reverse_any o.j o.A o.j.lines.length o.c w5.heap.size nu pe w5 hrd (Nat.le_refl _) (by unfold maxLen; omega) (by unfold maxLen; omega))
    unfold Jrn.val at kr
    have HRE2 : Hid (rRevE C G (l.map JR.j) id nu pe = if revE o.j nu pe = 0 then rPostE C G (l.map JR.j) (revV o.j nu pe) else revE o.j nu pe) := by rw [ho]; exact HRE.out.trans (if_pos hl)
    have HRJ2 : Hid (rRevE C G (l.map JR.j) id nu pe = 0 → rRevJ C G (l.map JR.j) id nu pe = revV o.j nu pe) := by rw [ho]; exact HRJ.out
    clear hrs5 hbx5 hw5 hrd hck hlen href ho
    go_wp2_with fail
    refine kr.out.mono ?_
    rintro e w6 ⟨A, n, cc, rfl, hown, hb6⟩
    have HB6 : Hid (Below w.heap.size w w6) := HB5.out.trans (hb6.mono HB5.out.size)
    have HB26 : Hid (Below W2.heap.size W2 w6) := HB25.out.trans (hb6.mono HB25.out.size)
    have hrs6 : JAt w6 (w.heap.size + 1) zeroJ none 0 0 := (hb6.block _ (lt_of_blk HR5.out)).trans HR5.out
    have hbx6 := (hb6.block _ (lt_of_blk HX5.out)).trans HX5.out
    have HOW := Lib.hid (own_base hown (show w.heap.size + 1 + 1 ≤ w5.heap.size by have := HB25.out.size; have := HZ2.out; omega))
    have hnl : (revV o.j nu pe).lines.length = n := by have := hown.1; rw [lins_len] at this; omega
    have HNL := Lib.hid hnl
    have HNIL := Lib.hid (own_nil hown)
    clear hown hb6 p10 p11 p12 p13 p14 p15 hnl
    by_cases hv : revE o.j nu pe = 0
    · have hrev : revV o.j nu pe = revJ o.j nu pe := by unfold revV; rw [if_pos hv]
      have hchk : checkE (revV o.j nu pe) = 0 := by rw [hrev]; exact (revE_two hv).2
      have HCK := Lib.hid hchk
      have HRE3 : Hid (rRevE C G (l.map JR.j) id nu pe = rPostE C G (l.map JR.j) (revV o.j nu pe)) := HRE2.out.trans (if_pos hv)
      rw [hv]
      clear hrev hchk hv
      generalize revV o.j nu pe = J at *
      obtain ⟨W7, hW7⟩ : ∃ W7, w6.alloc (.cells #[.int .i64 J.id, .int .i64 J.ent, .int .i64 J.per, .string J.ref, .slice A n cc, .bool J.void] 29) = W7 := ⟨_, rfl⟩
      have hb7 : Below w6.heap.size w6 W7 := by rw [← hW7]; exact (Below.refl _ _).alloc (Nat.le_refl _) _
      have hbx7 : JAt W7 w6.heap.size J A n cc := by rw [← hW7]; exact heap_new w6 _
      have hJr : JrIn W7 ⟨J, A, cc⟩ := by
        obtain ⟨_, hlen, _, _⟩ := checkE_fits HCK.out
        have href := (checkE_len HCK.out).2.2.2
        refine ⟨?_, HNIL.out, by show J.lines.length ≤ 1000; omega, by show J.ref.size ≤ maxLen; unfold maxLen; omega⟩
        have := rd_of_own (own_kept HOW.out fun k hk _ => hb7.block k hk)
        show Rd W7 W7.heap.size 3 A J.lines.length (lins J.lines)
        rw [HNL.out]
        exact this
      have kp := rulesPost_any c g bk C G l ⟨J, A, cc⟩ W7 (HP2.out.below (HB26.out.trans (hb7.mono HB26.out.size))) hJr
      rw [show (JR.mk J A cc).j.lines.length = n from HNL.out] at kp
      dsimp only at kp
      have KP := Lib.hid kp
      have HW7 := Lib.hid hW7
      have x0 := cell_of hbx6 0
      have x1 := cell_of hbx6 1
      have x2 := cell_of hbx6 2
      simp only [List.getElem?_toArray, List.getElem?_cons_zero, List.getElem?_cons_succ] at x0 x1 x2
      have hlt6 : w.heap.size < w6.heap.size := lt_of_blk hbx6
      have HR6 := Lib.hid hrs6
      have HB7 := Lib.hid hb7; have HBX7 := Lib.hid hbx7
      clear hrs6 hbx6 hW7 hb7 hbx7 hJr kp kr
      go_wp2_with fail
      rw [HW7.out]
      refine KP.out.mono ?_
      rintro e w8 ⟨rfl, hb8⟩
      have hr8 : JAt w8 (w.heap.size + 1) zeroJ none 0 0 := by
        have h7 : JAt W7 (w.heap.size + 1) zeroJ none 0 0 := (HB7.out.block _ (lt_of_blk HR6.out)).trans HR6.out
        exact (hb8.block _ (lt_of_blk h7)).trans h7
      have hj8 : JAt w8 w6.heap.size J A n cc := (hb8.block _ (lt_of_blk HBX7.out)).trans HBX7.out
      have HB8 : Hid (Below w.heap.size w w8) := HB6.out.trans ((HB7.out.trans (hb8.mono HB7.out.size)).mono HB6.out.size)
      have HO8 : Hid (w8.ownsRow (w.heap.size + 1 + 1) 64 3 (.slice A n cc) n (lins J.lines)) := own_kept (own_kept HOW.out fun k hk _ => HB7.out.block k hk) fun k hk _ => hb8.block k hk
      obtain ⟨y0, y1, y2, y3, y4, y5⟩ := six_cells hr8
      have yf := fun o => warm_of hr8 o
      obtain ⟨z0', z1, z2, z3, z4, z5⟩ := six_cells hj8
      have hne : w.heap.size + 1 ≠ w6.heap.size := by have := lt_of_blk HR6.out; omega
      clear hr8 hj8 hb8 x0 x1 x2
      generalize rPostE C G (l.map JR.j) J = E at *
      by_cases hE : E = 0
      · subst hE
        have HE := Lib.hid HRE3.out
        have HJ := Lib.hid (HRJ2.out HE.out)
        go_wp2_with fail
        refine bodyPost_ret (v := .tuple #[.agg #[.int .i64 J.id, .int .i64 J.ent, .int .i64 J.per, .string J.ref, .slice A n cc, .bool J.void], .int .i64 0]) (by simp [results, Tryz.results12, go_sem, y0, y1, y2, y3, y4, y5]) rfl ?_
        rw [HE.out, HJ.out]
        exact ⟨A, n, cc, rfl, own_base (own_six HO8.out (Nat.lt_succ_self _) _ _ _ _ _ _) (by omega), below_six HB8.out (Nat.le_succ _) _ _ _ _ _ _⟩
      · have ht : (E != 0) = true := by simpa using hE
        have HE := Lib.hid HRE3.out
        have HJ0 := Lib.hid (HRV.out _ HE.out hE)
        clear hE
        go_wp2_with fail
        refine bodyPost_ret (v := .tuple #[.agg #[.int .i64 0, .int .i64 0, .int .i64 0, .string ⟨#[]⟩, .slice none 0 0, .bool false], .int .i64 E]) (by simp [results, Tryz.results12, go_sem, y0, y1, y2, y3, y4, y5]) rfl ?_
        rw [HE.out]
        exact RRevEnd.no HJ0.out rfl (below_six HB8.out (Nat.le_succ _) _ _ _ _ _ _)
    · have ht : (revE o.j nu pe != 0) = true := by simpa using hv
      have HE : Hid (rRevE C G (l.map JR.j) id nu pe = revE o.j nu pe) := HRE2.out.trans (if_neg hv)
      have HJ0 := Lib.hid (HRV.out _ HE.out hv)
      obtain ⟨y0, y1, y2, y3, y4, y5⟩ := six_cells hrs6
      have yf := fun o => warm_of hrs6 o
      have hlt6 : w.heap.size + 1 < w6.heap.size := lt_of_blk hrs6
      have hq9 : ∀ u, JAt (((((((w6.setCell ⟨w.heap.size + 1, 0, none⟩ (.int .i64 0)).setCell ⟨w.heap.size + 1, 1, none⟩ (.int .i64 0)).setCell ⟨w.heap.size + 1, 2, none⟩ (.int .i64 0)).setCell ⟨w.heap.size + 1, 3, none⟩ (.string ⟨#[]⟩)).setCell ⟨w.heap.size + 1, 4, none⟩ (.slice none 0 0)).setCell ⟨w.heap.size + 1, 5, none⟩ (.bool false)).alloc u) (w.heap.size + 1) zeroJ none 0 0 := fun u =>
        (Below.heap_alloc _ _ _ (by simpa using hlt6)).trans (six_jat zeroJ none 0 0 hrs6)
      have c0 := fun u => (six_cells (hq9 u)).1
      have c1 := fun u => (six_cells (hq9 u)).2.1
      have c2 := fun u => (six_cells (hq9 u)).2.2.1
      have c3 := fun u => (six_cells (hq9 u)).2.2.2.1
      have c4 := fun u => (six_cells (hq9 u)).2.2.2.2.1
      have c5 := fun u => (six_cells (hq9 u)).2.2.2.2.2
      clear hrs6 hbx6 hv kr hq9
      generalize revE o.j nu pe = E at *
      generalize revV o.j nu pe = J at *
      have HC := Lib.hid (And.intro c0 (And.intro c1 (And.intro c2 (And.intro c3 (And.intro c4 c5)))))
      clear c0 c1 c2 c3 c4 c5
      go_wp2_with fail
      obtain ⟨c0, c1, c2, c3, c4, c5⟩ := HC.out
      refine bodyPost_ret (v := .tuple #[.agg #[.int .i64 0, .int .i64 0, .int .i64 0, .string ⟨#[]⟩, .slice none 0 0, .bool false], .int .i64 E]) (by simp [results, Tryz.results12, go_sem, c0, c1, c2, c3, c4, c5, zeroJ]) rfl ?_
      rw [HE.out]
      exact RRevEnd.no HJ0.out rfl ((below_six HB6.out (Nat.le_succ _) _ _ _ _ _ _).alloc (by simpa using HB6.out.size) _)
  · have ht : (liveE (l.map JR.j) id != 0) = true := by simpa using hl
    have HE : Hid (rRevE C G (l.map JR.j) id nu pe = liveE (l.map JR.j) id) := HRE.out.trans (if_neg hl)
    have HJ0 := Lib.hid (HRV.out _ HE.out hl)
    obtain ⟨y0, y1, y2, y3, y4, y5⟩ := six_cells hrs5
    have yf := fun o => warm_of hrs5 o
    have HES := Lib.hid HE.out.symm
    clear hrs5 hbx5 hl
    generalize liveE (l.map JR.j) id = E at *
    go_wp2_with fail
    refine bodyPost_ret (v := .tuple #[.agg #[.int .i64 0, .int .i64 0, .int .i64 0, .string ⟨#[]⟩, .slice none 0 0, .bool false], .int .i64 E]) (by simp [results, Tryz.results12, go_sem, y0, y1, y2, y3, y4, y5]) rfl ?_
    rw [HE.out]
    exact RRevEnd.no HJ0.out rfl (below_six HB5.out (Nat.le_succ _) _ _ _ _ _ _)
end Go.Proofs.YtmgncoialppmpaaGreat

