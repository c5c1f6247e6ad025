/-
  Several texts, one behind the other: what each holds stands ahead of it.
-/
import Derived.Test.YtjlokkjbdgcooaaGreatMany29
import Derived.Test.YtjlokkjbdgcooaaGreatMany2
import Derived.Test.YtjlokkjbdgcooaaGreatMany3

/-
  Contracts of the reference of chapter 10: Lines, Right.
-/
namespace Go.Proofs.YtjlokkjbdgcooaaGreat
open Mo
open Go.RowKit

theorem covO_parts2 {o : OfT} {j : Jrn} : covO o j = (((!j.void && (j.ent == o.ent)) && decide (o.frm ≤ j.per)) && decide (j.per ≤ o.til)) := by
  unfold covO
  rw [show decide (j.ent = o.ent) = (j.ent == o.ent) by rw [Bool.eq_iff_iff]; simp]
set_option maxRecDepth 100000 in
set_option maxHeartbeats 4000000 in
theorem refLines_any (o : OfT) (X : List JR) (A : Option Addr) (n c B : Nat) (w : World) (h : JlRd w B A n X) (hB : B ≤ w.heap.size) (hn : n ≤ 1000) (h8 : ∀ a ∈ X, a.j.lines.length ≤ 8) :
    Calls Tryz.prog 114 #[.slice A n c, .int .i64 o.ent, .int .i64 o.frm, .int .i64 o.til] w fun e w' => ∃ A' c', e = .returned (.slice A' (gathL (pkL o) (X.map JR.j)).length c') ∧ w'.ownsRow w.heap.size 113 3 (.slice A' (gathL (pkL o) (X.map JR.j)).length c') (gathL (pkL o) (X.map JR.j)).length (lins (gathL (pkL o) (X.map JR.j))) ∧ Below w.heap.size w w' := by
  have HJ := Lib.hid h
  have H8 := Lib.hid h8
  have HL : Hid (X.length = n) := by have := h.rd.1; rw [jrs_len] at this; rw [Hid]; omega
  obtain ⟨M, hM⟩ : ∃ M, X.map JR.j = M := ⟨_, rfl⟩
  have HM := Lib.hid hM
  rw [hM]
  clear h h8 hM
  go_enter Tryz.func114, Tryz.ntmps114
  go_wp2_with fail
  go_loopw [9, 10] (fun lv iv wr => ∃ k : Nat, k ≤ n ∧ iv = .int .i64 k ∧ (∃ L A' c', lv = .slice A' (List.length L) c' ∧ List.length L ≤ 8 * k ∧ Hid (gathL (pkL o) (M.take k) = L) ∧ wr.ownsRow w.heap.size 113 3 (.slice A' (List.length L) c') (List.length L) (lins L)) ∧ Below w.heap.size w wr) (fun _ iv _ => n - (intOf iv).toNat)
  case atStart => exact ⟨0, Nat.zero_le _, rfl, ⟨[], none, 0, rfl, by simp, rfl, World.ownsRow_nil _ _ _ _⟩, Below.refl _ _⟩
  case round =>
    obtain ⟨k, hk, rfl, ⟨L, A', c', rfl, hLl, HI, hown⟩, hbel⟩ := hrel
    have hzr := hbel.size
    have HBE := Lib.hid hbel
    have HO := Lib.hid hown
    by_cases hlt : k < n
    · have hJr := HJ.out.far hbel hB
      obtain ⟨ad, a, rfl, hb0, hx, p0, p1, p2, p3, p4, p5⟩ := hJr.rd.jr hlt
      have hkI : (k : Int) < (n : Int) := by omega
      have hma := List.mem_of_getElem? hx
      have h8a := H8.out a hma
      have hMk : M[k]? = some a.j := by rw [← HM.out, List.getElem?_map, hx]; rfl
      have hST := gathL_step (pk := pkL o) hMk
      rw [HI.out] at hST
      have HST := Lib.hid hST
      have HCP := Lib.hid (covO_parts2 (o := o) (j := a.j))
      have HPK : Hid (pkL o a.j = if covO o a.j = true then a.j.lines else []) := rfl
      obtain ⟨v7, w7, hrun, hown7, hb7, _⟩ := append_linsG (c := a.c) hown (hJr.lines a hma) hzr (by omega)
      obtain ⟨A7, c7, rfl⟩ := own_form hown7
      have HO7 := Lib.hid hown7
      have HB7 := Lib.hid (hbel.trans hb7)
      clear hx hown hbel hown7 hb7 hb0 hma hMk hST hJr
      obtain ⟨⟨jid, jent, jper, jref, jl, void⟩, Aj, cj⟩ := a
      obtain ⟨oe, of, ot⟩ := o
      dsimp only at *
      have HLL : Hid ((L ++ jl).length = L.length + jl.length) := List.length_append
      have HLn : Hid (gathL (pkL ⟨oe, of, ot⟩) (M.take (k + 1)) = if covO ⟨oe, of, ot⟩ ⟨jid, jent, jper, jref, jl, void⟩ = true then L ++ jl else L) := by
        rw [Hid, HST.out, HPK.out]
        split
        · rfl
        · rw [List.append_nil]
      generalize jl.length = La at *
      cases void
      · by_cases e1 : jent = oe
        · have d1 : (jent == oe) = true := beq_iff_eq.2 e1
          by_cases e2 : of ≤ jper
          · by_cases e3 : jper ≤ ot
            · have HC : Hid (gathL (pkL ⟨oe, of, ot⟩) (M.take (k + 1)) = L ++ jl) := by rw [Hid, HLn.out, HCP.out, d1, decide_eq_true e2, decide_eq_true e3]; rfl
              have E1 := Lib.hid e1
              clear e1 HCP HLn HPK
              go_wp2_with (at_builtin; refine Lib.wpList_append_run _ rfl _ _ _ _ rfl _ _ rfl rfl _ _ (hrun _) ?_)
              refine ⟨⟨k + 1, by omega, by go_num, ⟨L ++ jl, A7, c7, ?_, ?_, HC, ?_⟩, HB7.out⟩, by simp [intOf]; omega⟩
              · rw [HLL.out]
              · rw [HLL.out]; omega
              · rw [HLL.out]; exact HO7.out
            · have HC : Hid (gathL (pkL ⟨oe, of, ot⟩) (M.take (k + 1)) = L) := by rw [Hid, HLn.out, HCP.out, d1, decide_eq_true e2, decide_eq_false e3]; rfl
              have E1 := Lib.hid e1
              clear e1 HCP hrun HLn HPK
              go_wp2_with fail
              exact ⟨⟨k + 1, by omega, by go_num, ⟨L, A', c', rfl, by omega, HC, HO.out⟩, HBE.out⟩, by simp [intOf]; omega⟩
          · have HC : Hid (gathL (pkL ⟨oe, of, ot⟩) (M.take (k + 1)) = L) := by rw [Hid, HLn.out, HCP.out, d1, decide_eq_false e2]; rfl
            have E1 := Lib.hid e1
            clear e1 HCP hrun HLn HPK
            go_wp2_with fail
            exact ⟨⟨k + 1, by omega, by go_num, ⟨L, A', c', rfl, by omega, HC, HO.out⟩, HBE.out⟩, by simp [intOf]; omega⟩
        · have d1 : (jent == oe) = false := beq_eq_false_iff_ne.2 e1
          have HC : Hid (gathL (pkL ⟨oe, of, ot⟩) (M.take (k + 1)) = L) := by rw [Hid, HLn.out, HCP.out, d1]; rfl
          have E1 := Lib.hid e1
          clear e1 HCP hrun HLn HPK
          go_wp2_with fail
          exact ⟨⟨k + 1, by omega, by go_num, ⟨L, A', c', rfl, by omega, HC, HO.out⟩, HBE.out⟩, by simp [intOf]; omega⟩
      · have HC : Hid (gathL (pkL ⟨oe, of, ot⟩) (M.take (k + 1)) = L) := by rw [Hid, HLn.out, HCP.out]; rfl
        clear HCP hrun HLn HPK
        go_wp2_with fail
        exact ⟨⟨k + 1, by omega, by go_num, ⟨L, A', c', rfl, by omega, HC, HO.out⟩, HBE.out⟩, by simp [intOf]; omega⟩
    · have e : M.take k = M := List.take_of_length_le (by rw [← HM.out, List.length_map, HL.out]; omega)
      have HI2 : Hid (gathL (pkL o) M = L) := by have h := HI.out; rw [e] at h; exact h
      clear hown hbel e
      go_wp2_with fail
      go_ret
      refine ⟨A', c', ?_, ?_, HBE.out⟩
      · rw [HI2.out]; rfl
      · rw [HI2.out]; exact HO.out

set_option maxRecDepth 100000 in
theorem refRight_any (o : OfT) (w : World) : Calls Tryz.prog 113 #[.int .i64 o.ent, .int .i64 o.frm, .int .i64 o.til] w fun e w' => e = .returned (.bool (mayO o)) ∧ w = w' := by
  obtain ⟨oe, of, ot⟩ := o
  have k1 := Lib.hid (refValid_any of w)
  have k2 := Lib.hid (refValid_any ot w)
  have HE : Hid (mayO ⟨oe, of, ot⟩ = (inB oe 1 9 && (okP of && okP ot) && decide (of ≤ ot))) := rfl
  obtain ⟨z, hz⟩ : ∃ z, mayO ⟨oe, of, ot⟩ = z := ⟨_, rfl⟩
  rw [hz] at HE ⊢
  clear hz
  dsimp only
  by_cases h1 : 1 ≤ oe
  · by_cases h2 : oe ≤ 9
    · have HI : Hid (inB oe 1 9 = true) := by unfold inB; simp [Hid]; omega
      obtain ⟨f, hf⟩ : ∃ f, okP of = f := ⟨_, rfl⟩
      obtain ⟨t, ht⟩ : ∃ t, okP ot = t := ⟨_, rfl⟩
      rw [hf] at k1
      rw [ht] at k2
      have HF : Hid (z = ((f && t) && decide (of ≤ ot))) := by rw [Hid, HE.out, HI.out, hf, ht]; rfl
      clear hf ht HE
      cases f
      · go_enter Tryz.func113, Tryz.ntmps113
        go_wp2_with fail
        refine k1.out.mono ?_
        rintro e w1 ⟨rfl, rfl⟩
        go_wp2_with fail
        go_ret
        exact ⟨by rw [HF.out]; rfl, rfl⟩
      · cases t
        · go_enter Tryz.func113, Tryz.ntmps113
          go_wp2_with fail
          refine k1.out.mono ?_
          rintro e w1 ⟨rfl, rfl⟩
          go_wp2_with fail
          refine k2.out.mono ?_
          rintro e w1 ⟨rfl, rfl⟩
          go_wp2_with fail
          go_ret
          exact ⟨by rw [HF.out]; rfl, rfl⟩
        · obtain ⟨d, hd⟩ : ∃ d, decide (of ≤ ot) = d := ⟨_, rfl⟩
          go_enter Tryz.func113, Tryz.ntmps113
          go_wp2_with fail
          refine k1.out.mono ?_
          rintro e w1 ⟨rfl, rfl⟩
          go_wp2_with fail
          refine k2.out.mono ?_
          rintro e w1 ⟨rfl, rfl⟩
          go_wp2_with fail
          go_ret
          exact ⟨by rw [HF.out, hd]; rfl, rfl⟩
    · have HI : Hid (z = false) := by rw [Hid, HE.out]; unfold inB; simp [h2]
      go_enter Tryz.func113, Tryz.ntmps113
      go_wp2_with fail
      go_ret
      exact ⟨by rw [HI.out]; rfl, rfl⟩
  · have HI : Hid (z = false) := by rw [Hid, HE.out]; unfold inB; simp [h1]
    go_enter Tryz.func113, Tryz.ntmps113
    go_wp2_with fail
    go_ret
    exact ⟨by rw [HI.out]; rfl, rfl⟩
end Go.Proofs.YtjlokkjbdgcooaaGreat

/-
  What a journal that may be keeps. No code.
-/
namespace Go.Proofs.YtjlokkjbdgcooaaGreat
open Go.RowKit

theorem checkE_ok {j : Jrn} (h : checkE j = 0) : frontOk j = true ∧ linesOk j = true ∧ fitsL j.lines = true ∧ sumA j.lines = 0 := by
  unfold checkE at h
  split at h
  · rename_i h1
    rw [Bool.and_eq_true] at h1
    split at h
    · rename_i h2
      split at h
      · exact ⟨h1.1, h1.2, h2, by assumption⟩
      · cases h
    · cases h
  · cases h
end Go.Proofs.YtjlokkjbdgcooaaGreat

/-
  What the reference of chapter 10 puts together is what comes together. No code.
-/
namespace Go.Proofs.YtjlokkjbdgcooaaGreat
open Mo
open Go.RowKit

def putF (acc : List Bal) (l : List Bal) : List Bal := l.foldl (fun acc b => putM acc b.acct b.amt) acc
def putsM (l : List Bal) : List Bal := putF [] l
theorem putsM_step {l : List Bal} {k : Nat} {b : Bal} (h : l[k]? = some b) : putsM (l.take (k + 1)) = putM (putsM (l.take k)) b.acct b.amt := by
  obtain ⟨hk, rfl⟩ := List.getElem?_eq_some_iff.1 h
  unfold putsM putF
  rw [List.take_succ_eq_append_getElem hk, List.foldl_append]
  rfl
theorem putF_sum (c : Int) : ∀ (l acc : List Bal), sumB c (putF acc l) = sumB c acc + sumB c l
  | [], acc => by simp [putF, sumB]
  | b :: r, acc => by
    have ih := putF_sum c r (putM acc b.acct b.amt)
    unfold putF at ih ⊢
    rw [List.foldl_cons, ih, putM_sum]
    simp only [sumB]
    omega
theorem putF_rise : ∀ (l acc : List Bal), (acc.Pairwise fun p q => p.acct < q.acct) → (putF acc l).Pairwise fun p q => p.acct < q.acct
  | [], _, h => h
  | b :: r, acc, h => putF_rise r (putM acc b.acct b.amt) (putM_rise _ _ h)
theorem putF_len : ∀ (l acc : List Bal), (putF acc l).length ≤ acc.length + l.length
  | [], acc => Nat.le_refl _
  | b :: r, acc => by
    have h1 := putF_len r (putM acc b.acct b.amt)
    have h2 := putM_len acc b.acct b.amt
    unfold putF at h1 ⊢
    rw [List.foldl_cons, List.length_cons]
    omega
theorem putM_has : ∀ (l : List Bal) (a x : Int), ∃ y ∈ putM l a x, y.acct = a
  | [], a, x => ⟨⟨a, x⟩, by simp [putM], rfl⟩
  | b :: r, a, x => by
    obtain ⟨y, hy, e⟩ := putM_has r a x
    unfold putM
    split
    · rename_i h1
      exact ⟨_, List.mem_cons_self .., h1⟩
    · split
      · exact ⟨_, List.mem_cons_self .., rfl⟩
      · exact ⟨y, List.mem_cons_of_mem _ hy, e⟩
theorem putM_keeps : ∀ {l : List Bal} {a x : Int} {z : Bal}, z ∈ l → ∃ y ∈ putM l a x, y.acct = z.acct
  | b :: r, a, x, z, h => by
    unfold putM
    rcases List.mem_cons.1 h with rfl | h
    · split
      · exact ⟨_, List.mem_cons_self .., rfl⟩
      · split
        · exact ⟨_, List.mem_cons_of_mem _ (List.mem_cons_self ..), rfl⟩
        · exact ⟨_, List.mem_cons_self .., rfl⟩
    · split
      · exact ⟨z, List.mem_cons_of_mem _ h, rfl⟩
      · split
        · exact ⟨z, List.mem_cons_of_mem _ (List.mem_cons_of_mem _ h), rfl⟩
        · obtain ⟨y, hy, e⟩ := putM_keeps (a := a) (x := x) h
          exact ⟨y, List.mem_cons_of_mem _ hy, e⟩
theorem putF_has : ∀ (l acc : List Bal) (c : Int), ((∃ z ∈ acc, z.acct = c) ∨ ∃ z ∈ l, z.acct = c) → ∃ y ∈ putF acc l, y.acct = c
  | [], acc, c, h => by
    rcases h with h | ⟨z, hz, _⟩
    · exact h
    · cases hz
  | b :: r, acc, c, h => by
    refine putF_has r (putM acc b.acct b.amt) c ?_
    rcases h with ⟨z, hz, rfl⟩ | ⟨z, hz, rfl⟩
    · exact .inl (putM_keeps hz)
    · rcases List.mem_cons.1 hz with rfl | hz
      · exact .inl (putM_has _ _ _)
      · exact .inr ⟨z, hz, rfl⟩
theorem putsM_sum (c : Int) (l : List Bal) : sumB c (putsM l) = sumB c l := by unfold putsM; rw [putF_sum]; simp [sumB]
theorem putsM_rise (l : List Bal) : (putsM l).Pairwise fun p q => p.acct < q.acct := putF_rise l [] List.Pairwise.nil
theorem putsM_len (l : List Bal) : (putsM l).length ≤ l.length := by
  have := putF_len l []
  show (putF [] l).length ≤ _
  simpa using this
theorem putsM_amt {l : List Bal} {b : Bal} (h : b ∈ putsM l) : b.amt = sumB b.acct l := by rw [← putsM_sum, sumB_rise (putsM_rise l) b h]
theorem sumB_bound (c : Int) : ∀ {l : List Bal}, (∀ x ∈ l, fits1 x.amt = true) → -1000000000000000 * (l.length : Int) ≤ sumB c l ∧ sumB c l ≤ 1000000000000000 * (l.length : Int)
  | [], _ => by simp [sumB]
  | x :: r, h => by
    have ih := sumB_bound c fun y hy => h y (List.mem_cons_of_mem _ hy)
    have h1 := h x (List.mem_cons_self ..)
    unfold fits1 at h1
    simp only [decide_eq_true_eq] at h1
    simp only [sumB, List.length_cons]
    split <;> omega
theorem putsM_bound {l : List Bal} (h : ∀ x ∈ l, fits1 x.amt = true) (hl : l.length ≤ 1000) : ∀ b ∈ putsM l, -4000000000000000000 ≤ b.amt ∧ b.amt ≤ 4000000000000000000 := fun b hb => by
  have := sumB_bound b.acct h
  rw [putsM_amt hb]
  omega
theorem putsM_fits {l : List Bal} (h : ∀ x ∈ l, fits1 x.amt = true) : ((putsM l).all fun x => fits1 x.amt) = plusB l := by
  rw [Bool.eq_iff_iff, plusB_iff, List.all_eq_true]
  constructor
  · intro hp x hx
    refine ⟨h x hx, ?_⟩
    obtain ⟨y, hy, e⟩ := putF_has l [] x.acct (.inr ⟨x, hx, rfl⟩)
    have h1 := hp y hy
    rw [putsM_amt hy, e] at h1
    exact h1
  · intro hp b hb
    rw [putsM_amt hb]
    by_cases hx : ∃ x ∈ l, x.acct = b.acct
    · obtain ⟨x, hx, e⟩ := hx
      rw [← e]
      exact (hp x hx).2
    · rw [sumB_out fun x hm e => hx ⟨x, hm, e⟩]
      rfl
theorem sumB_nz (c : Int) : ∀ l : List Bal, sumB c (l.filter fun x => x.amt != 0) = sumB c l
  | [] => rfl
  | x :: r => by
    have ih := sumB_nz c r
    rw [List.filter_cons]
    by_cases h : x.amt = 0
    · rw [if_neg (by simp [h]), ih]
      simp only [sumB, h]
      split <;> omega
    · rw [if_pos (by simpa using h)]
      simp only [sumB, ih]
theorem putsM_plus (l : List Bal) : PlusOf l ((putsM l).filter fun x => x.amt != 0) :=
  ⟨(putsM_rise l).sublist List.filter_sublist, fun x hx => by simpa using (List.mem_filter.1 hx).2, fun a => by rw [sumB_nz, putsM_sum]⟩
/-- The lines of journals that may be fit. -/
theorem gath_fitsB {o : OfT} {M : List Jrn} (h : ∀ j ∈ M, checkE j = 0) : ∀ x ∈ balsOf (gathL (pkL o) M), fits1 x.amt = true := fun x hx => by
  obtain ⟨y, hy, rfl⟩ := List.mem_map.1 hx
  obtain ⟨j, hj, hyj⟩ := List.mem_flatMap.1 hy
  have hf := (checkE_ok (h j hj)).2.2.1
  unfold fitsL at hf
  rw [List.all_eq_true] at hf
  unfold pkL at hyj
  split at hyj
  · exact hf y hyj
  · cases hyj
end Go.Proofs.YtjlokkjbdgcooaaGreat
