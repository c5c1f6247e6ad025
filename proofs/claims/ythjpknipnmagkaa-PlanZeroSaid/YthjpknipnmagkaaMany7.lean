/-
  Several texts, one behind the other: what each holds stands ahead of it.
-/
import Derived.Test.YthjpknipnmagkaaMany5
import Derived.Test.YthjpknipnmagkaaMany6

/-
  Templates: what may be. No code.
-/
namespace Go.Proofs.Ythjpknipnmagkaa
open Mo
open Go.RowKit

/-- A template, with the rows of its targets and weights. -/
structure Tpl where
  kind : Int
  id : Int
  ent : Int
  frm : Int
  til : Int
  ev : Int
  amt : Int
  deb : Int
  cre : Int
  tg : List Int
  wt : List Int
  At : Option Addr
  ct : Nat
  Aw : Option Addr
  cw : Nat
  rk : Int
def Tpl.cells (t : Tpl) : List Value := [.int .i64 t.kind, .int .i64 t.id, .int .i64 t.ent, .int .i64 t.frm, .int .i64 t.til, .int .i64 t.ev, .int .i64 t.amt, .int .i64 t.deb, .int .i64 t.cre, .slice t.At t.tg.length t.ct, .slice t.Aw t.wt.length t.cw, .int .i64 t.rk]
def isAcc (c : Int) : Bool := inB c 1 9999
/-- Targets that rise, none of them Credit. -/
def tgOk (cre : Int) : Int → List Int → Bool
  | _, [] => true
  | b, x :: r => isAcc x && decide (b < x) && !(x == cre) && tgOk cre x r
def frontT (t : Tpl) : Bool := inB t.id 1 999999 && inB t.ent 1 9 && (okP t.frm && okP t.til) && decide (t.frm ≤ t.til) && inB t.ev 1 60 && inB t.amt 1 1000000000000000 && isAcc t.cre
def accrT (t : Tpl) : Bool := isAcc t.deb && !(t.deb == t.cre) && decide (t.tg.length = 0) && decide (t.wt.length = 0)
def allocT (t : Tpl) : Bool := inB t.tg.length 1 7 && decide (t.wt.length = t.tg.length) && tgOk t.cre 0 t.tg && splitOk t.amt t.wt
def chkT (t : Tpl) : Bool := frontT t && ((decide (t.kind = 1) && accrT t) || (decide (t.kind = 2) && allocT t))
def chkTE (t : Tpl) : Int := if chkT t = true then 0 else 1
theorem tgOk_step {cre b x : Int} {l : List Int} {k : Nat} (hx : l[k]? = some x) : tgOk cre b (l.drop k) = (isAcc x && decide (b < x) && !(x == cre) && tgOk cre x (l.drop (k + 1))) := by
  obtain ⟨hk, rfl⟩ := List.getElem?_eq_some_iff.1 hx
  rw [List.drop_eq_getElem_cons hk]
  rfl
/-- What can be read of a template. -/
structure TplIn (w : World) (t : Tpl) : Prop where
  tg : Rd w w.heap.size 1 t.At t.tg.length (ints .i64 t.tg)
  wt : Rd w w.heap.size 1 t.Aw t.wt.length (ints .i64 t.wt)
  lt : t.tg.length ≤ maxLen
  lw : t.wt.length ≤ maxLen
theorem TplIn.below {w w' : World} {t : Tpl} (h : TplIn w t) (hb : Below w.heap.size w w') : TplIn w' t := ⟨(h.tg.below hb).wide hb.size, (h.wt.below hb).wide hb.size, h.lt, h.lw⟩
def TplAt (w : World) (b : Nat) (t : Tpl) : Prop := w.heap[b]? = some (.cells #[.int .i64 t.kind, .int .i64 t.id, .int .i64 t.ent, .int .i64 t.frm, .int .i64 t.til, .int .i64 t.ev, .int .i64 t.amt, .int .i64 t.deb, .int .i64 t.cre, .slice t.At t.tg.length t.ct, .slice t.Aw t.wt.length t.cw, .int .i64 t.rk] 24 (0, 0))
theorem tpl_cells {w : World} {b : Nat} {t : Tpl} (h : TplAt w b t) :
    (w.cell? ⟨b, 0, none⟩ = some (.int .i64 t.kind) ∧ w.cell? ⟨b, 1, none⟩ = some (.int .i64 t.id) ∧ w.cell? ⟨b, 2, none⟩ = some (.int .i64 t.ent) ∧ w.cell? ⟨b, 3, none⟩ = some (.int .i64 t.frm) ∧ w.cell? ⟨b, 4, none⟩ = some (.int .i64 t.til) ∧ w.cell? ⟨b, 5, none⟩ = some (.int .i64 t.ev)) ∧
    (w.cell? ⟨b, 6, none⟩ = some (.int .i64 t.amt) ∧ w.cell? ⟨b, 7, none⟩ = some (.int .i64 t.deb) ∧ w.cell? ⟨b, 8, none⟩ = some (.int .i64 t.cre) ∧ w.cell? ⟨b, 9, none⟩ = some (.slice t.At t.tg.length t.ct) ∧ w.cell? ⟨b, 10, none⟩ = some (.slice t.Aw t.wt.length t.cw) ∧ w.cell? ⟨b, 11, none⟩ = some (.int .i64 t.rk)) :=
  ⟨⟨cell_of h 0, cell_of h 1, cell_of h 2, cell_of h 3, cell_of h 4, cell_of h 5⟩, cell_of h 6, cell_of h 7, cell_of h 8, cell_of h 9, cell_of h 10, cell_of h 11⟩
theorem TplAt.below {w w' : World} {b : Nat} {t : Tpl} (h : TplAt w b t) (hb : Below w.heap.size w w') : TplAt w' b t := (hb.block _ (lt_of_blk h)).trans h
end Go.Proofs.Ythjpknipnmagkaa

/-
  Contracts of plan's within, isAccount, targetsMayBe, accrualMayBe, allocationMayBe, frontMayBe.
-/
namespace Go.Proofs.Ythjpknipnmagkaa
open Mo
open Go.RowKit

set_option maxRecDepth 100000 in
set_option maxHeartbeats 400000 in
theorem within_pl (n a b : Int) (w : World) : Calls Try.prog 82 #[.int .i64 n, .int .i64 a, .int .i64 b] w fun e w' => e = .returned (.bool (inB n a b)) ∧ w = w' := by
  have HT : Hid (a ≤ n → n ≤ b → inB n a b = true) := fun h1 h2 => inB_iff.2 ⟨h1, h2⟩
  have HF : Hid (¬ (a ≤ n ∧ n ≤ b) → inB n a b = false) := fun h => by
    cases hb : inB n a b
    · rfl
    · exact absurd (inB_iff.1 hb) h
  by_cases h1 : a ≤ n
  · by_cases h2 : n ≤ b
    · have HE := Lib.hid (HT.out h1 h2)
      clear HT HF
      go_enter Try.func82, Try.ntmps82
      go_wp2_with fail
      go_ret
      exact ⟨ret_bool HE.out.symm, rfl⟩
    · have HE := Lib.hid (HF.out fun h => h2 h.2)
      clear HT HF
      go_enter Try.func82, Try.ntmps82
      go_wp2_with fail
      go_ret
      exact ⟨ret_bool HE.out.symm, rfl⟩
  · have HE := Lib.hid (HF.out fun h => h1 h.1)
    clear HT HF
    go_enter Try.func82, Try.ntmps82
    go_wp2_with fail
    go_ret
    exact ⟨ret_bool HE.out.symm, rfl⟩
set_option maxRecDepth 100000 in
set_option maxHeartbeats 400000 in
theorem isAcc_any (n : Int) (w : World) : Calls Try.prog 83 #[.int .i64 n] w fun e w' => e = .returned (.bool (isAcc n)) ∧ w = w' := by
  go_enter Try.func83, Try.ntmps83
  go_wp2_with fail
  refine (within_pl n 1 9999 w).mono ?_
  rintro e w1 ⟨rfl, rfl⟩
  go_wp2_with fail
  go_ret
  exact ⟨rfl, rfl⟩
set_option maxRecDepth 100000 in
set_option maxHeartbeats 1000000 in
theorem targets_any (t : Tpl) (w : World) (h : TplIn w t) : Calls Try.prog 87 #[.agg t.cells.toArray] w fun e w' => e = .returned (.bool (tgOk t.cre 0 t.tg)) ∧ Below w.heap.size w w' := by
  obtain ⟨W, hW⟩ : ∃ W, w.alloc (.cells t.cells.toArray 24) = W := ⟨_, rfl⟩
  have hb : Below w.heap.size w W := by rw [← hW]; exact (Below.refl _ _).alloc (Nat.le_refl _) _
  have hx : TplAt W w.heap.size t := by rw [← hW]; exact heap_new w _
  have hR := h.tg.below hb
  have hlen := h.lt
  obtain ⟨_, _, _, x8, x9, _⟩ := tpl_cells hx
  have HW := Lib.hid hW; have HB := Lib.hid hb; have HR := Lib.hid hR
  unfold maxLen at hlen
  clear hW hb hx hR h
  unfold Tpl.cells at *
  have HN : Hid (∀ k, t.tg.length ≤ k → t.tg.drop k = []) := fun k hk => List.drop_eq_nil_of_le hk
  have HX : Hid (∀ k, k < t.tg.length → ∃ x, t.tg[k]? = some x) := fun k hk => ⟨_, List.getElem?_eq_getElem hk⟩
  generalize t.tg.length = n at *
  go_enter Try.func87, Try.ntmps87
  go_wp2_with fail
  rw [HW.out]
  go_loopw [3, 5, 9] (fun bv _ iv wr => ∃ (k : Nat) (b : Int), k ≤ n ∧ iv = .int .i64 k ∧ bv = .int .i64 b ∧ Hid (tgOk t.cre 0 t.tg = tgOk t.cre b (t.tg.drop k)) ∧ wr = W) (fun _ _ iv _ => n - (intOf iv).toNat)
  case atStart => exact ⟨0, 0, Nat.zero_le _, rfl, rfl, rfl, rfl⟩
  case round =>
    obtain ⟨k, b, hk, rfl, rfl, hE, rfl⟩ := hrel
    by_cases hlt : k < n
    · have hkn : (k : Int) < (n : Int) := by omega
      obtain ⟨ad, hA, hab, hc⟩ := HR.out.int hlt
      obtain ⟨x, hx⟩ := HX.out k hlt
      rw [hx] at hc
      have hE2 := hE.out
      rw [tgOk_step hx] at hE2
      have HE := Lib.hid hE2
      have ki := Lib.hid (isAcc_any x wr)
      simp only [Option.getD_some] at hc
      clear hE hE2 hx hab
      rw [hA] at x9 ⊢
      generalize isAcc x = I at *
      cases I
      · have HE3 : Hid (tgOk t.cre 0 t.tg = false) := HE.out.trans (by simp)
        go_wp2_with fail
        refine ki.out.mono ?_
        rintro e w1 ⟨rfl, rfl⟩
        go_wp2_with fail
        go_ret
        exact ⟨ret_bool HE3.out.symm, HB.out⟩
      · by_cases hb : b < x
        · have hbI : ¬ x ≤ b := by omega
          by_cases hq : x = t.cre
          · have hqB : (x == t.cre) = true := by simpa using hq
            have HE3 : Hid (tgOk t.cre 0 t.tg = false) := HE.out.trans (by simp [hqB])
            clear hq
            go_wp2_with fail
            refine ki.out.mono ?_
            rintro e w1 ⟨rfl, rfl⟩
            go_wp2_with fail
            go_ret
            exact ⟨ret_bool HE3.out.symm, HB.out⟩
          · have hqB : (x == t.cre) = false := by simpa using hq
            have HE3 : Hid (tgOk t.cre 0 t.tg = tgOk t.cre x (t.tg.drop (k + 1))) := HE.out.trans (by simp [hqB, hb])
            clear hq
            go_wp2_with fail
            refine ki.out.mono ?_
            rintro e w1 ⟨rfl, rfl⟩
            go_wp2_with fail
            exact ⟨⟨k + 1, x, by omega, by go_num, rfl, HE3.out, by first | rfl | trivial⟩, by simp [intOf]; omega⟩
        · have hbI : x ≤ b := by omega
          have HE3 : Hid (tgOk t.cre 0 t.tg = false) := HE.out.trans (by simp [hb])
          go_wp2_with fail
          refine ki.out.mono ?_
          rintro e w1 ⟨rfl, rfl⟩
          go_wp2_with fail
          go_ret
          exact ⟨ret_bool HE3.out.symm, HB.out⟩
    · obtain rfl : k = n := by omega
      rw [HN.out _ (Nat.le_refl _)] at hE
      have HE : Hid (tgOk t.cre 0 t.tg = true) := hE.out
      go_wp2_with fail
      go_ret
      exact ⟨ret_bool HE.out.symm, HB.out⟩
set_option maxRecDepth 100000 in
set_option maxHeartbeats 1000000 in
theorem accr_any (t : Tpl) (w : World) : Calls Try.prog 59 #[.agg t.cells.toArray] w fun e w' => e = .returned (.bool (accrT t)) ∧ Below w.heap.size w w' := by
  obtain ⟨W, hW⟩ : ∃ W, w.alloc (.cells t.cells.toArray 24) = W := ⟨_, rfl⟩
  have hb : Below w.heap.size w W := by rw [← hW]; exact (Below.refl _ _).alloc (Nat.le_refl _) _
  have hx : TplAt W w.heap.size t := by rw [← hW]; exact heap_new w _
  obtain ⟨_, _, x7, x8, x9, x10, _⟩ := tpl_cells hx
  have HW := Lib.hid hW; have HB := Lib.hid hb
  have HT : Hid (isAcc t.deb = true → t.deb ≠ t.cre → t.tg.length = 0 → t.wt.length = 0 → accrT t = true) := fun h1 h2 h3 h4 => by
    unfold accrT
    rw [h1, h3, h4]
    simpa using h2
  have HF : Hid (isAcc t.deb = false ∨ t.deb = t.cre ∨ ¬ t.tg.length = 0 ∨ ¬ t.wt.length = 0 → accrT t = false) := fun h => by
    unfold accrT
    rcases h with h | h | h | h
    · rw [h]; rfl
    · simp [h]
    · rw [decide_eq_false h]; simp
    · rw [decide_eq_false h]; simp
  have ki := Lib.hid (isAcc_any t.deb W)
  clear hW hb hx
  unfold Tpl.cells at *
  generalize accrT t = R at *
  generalize isAcc t.deb = I at *
  generalize t.tg.length = n at *
  generalize t.wt.length = m at *
  cases I
  · have HE := Lib.hid (HF.out (.inl rfl))
    clear HT HF
    go_enter Try.func59, Try.ntmps59
    go_wp2_with fail
    rw [HW.out]
    refine ki.out.mono ?_
    rintro e w1 ⟨rfl, rfl⟩
    go_wp2_with fail
    go_ret
    exact ⟨ret_bool HE.out.symm, HB.out⟩
  by_cases h1 : t.deb = t.cre
  · have h1B : (t.deb != t.cre) = false := by simpa using h1
    have HE := Lib.hid (HF.out (.inr (.inl h1)))
    clear HT HF h1
    go_enter Try.func59, Try.ntmps59
    go_wp2_with fail
    rw [HW.out]
    refine ki.out.mono ?_
    rintro e w1 ⟨rfl, rfl⟩
    go_wp2_with fail
    go_ret
    exact ⟨ret_bool HE.out.symm, HB.out⟩
  have h1B : (t.deb != t.cre) = true := by simpa using h1
  by_cases h2 : n = 0
  · by_cases h3 : m = 0
    all_goals
      first
        | have HE := Lib.hid (HT.out rfl h1 h2 h3)
        | have HE := Lib.hid (HF.out (.inr (.inr (.inr h3))))
      have h2B : ((n : Int) == 0) = true := by simpa using h2
      try have h3B : ((m : Int) == 0) = true := by simpa using h3
      try have h3B : ((m : Int) == 0) = false := by rw [beq_eq_false_iff_ne]; omega
      clear HT HF h1 h2 h3
      go_enter Try.func59, Try.ntmps59
      go_wp2_with fail
      rw [HW.out]
      refine ki.out.mono ?_
      rintro e w1 ⟨rfl, rfl⟩
      go_wp2_with fail
      go_ret
      exact ⟨ret_bool HE.out.symm, HB.out⟩
  · have HE := Lib.hid (HF.out (.inr (.inr (.inl h2))))
    have h2B : ((n : Int) == 0) = false := by rw [beq_eq_false_iff_ne]; omega
    clear HT HF h1 h2
    go_enter Try.func59, Try.ntmps59
    go_wp2_with fail
    rw [HW.out]
    refine ki.out.mono ?_
    rintro e w1 ⟨rfl, rfl⟩
    go_wp2_with fail
    go_ret
    exact ⟨ret_bool HE.out.symm, HB.out⟩
end Go.Proofs.Ythjpknipnmagkaa
