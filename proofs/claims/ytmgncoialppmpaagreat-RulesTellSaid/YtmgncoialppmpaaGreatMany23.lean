/-
  Several texts, one behind the other: what each holds stands ahead of it.
-/
import Derived.Test.YtmgncoialppmpaaGreatGatesSteps
import Derived.Laws.EntriesVeiled
import Derived.Test.YtmgncoialppmpaaGreatMany21
import Derived.Test.YtmgncoialppmpaaGreatChartGet
import Derived.Test.YtmgncoialppmpaaGreatMany11
import Derived.Test.YtmgncoialppmpaaGreatMany17
import Derived.Test.YtmgncoialppmpaaGreatMany12

/-
  Contract of (*Gates).Set.
-/
namespace Go.Proofs.YtmgncoialppmpaaGreat
open Go.RowKit

theorem GatesTo.on {w w1 w' : World} {B c : Nat} {v : Value} {l : List Trio} (hb : Below w.heap.size w w1) (h : GatesTo w1 B c v l w') : GatesTo w B c v l w' := by
  obtain ⟨v', h1, h2, h3⟩ := h
  refine ⟨v', h1, (But.of_below hb).trans h2, fun k hk => ?_⟩
  rcases h3 k hk with h | h
  · exact .inl h
  · exact .inr (Nat.le_trans hb.size h)
theorem setE_bad {l : List Trio} {en pe s : Int} (h : okT en pe = false ∨ s < 0 ∨ 2 < s) : setE l en pe s = 1 ∧ setT l en pe s = l := by
  have : setE l en pe s = 1 := by
    unfold setE
    rw [if_neg]
    rintro ⟨h1, h2, h3⟩
    rcases h with h | h | h
    · rw [h1] at h; cases h
    · omega
    · omega
  exact ⟨this, by simp [setT, this]⟩
theorem setE_locked {l : List Trio} {en pe s : Int} (ho : okT en pe = true) (h0 : ¬ s < 0) (h2 : ¬ 2 < s) (h : stT l en pe = 2 ∨ (s = 2 ∧ stT l en pe ≠ 1)) : setE l en pe s = 11 ∧ setT l en pe s = l := by
  have : setE l en pe s = 11 := by
    unfold setE
    rw [if_pos ⟨ho, by omega, by omega⟩, if_pos h]
  exact ⟨this, by simp [setT, this]⟩
theorem setE_goes {l : List Trio} {en pe s : Int} (ho : okT en pe = true) (h0 : ¬ s < 0) (h2 : ¬ 2 < s) (h : ¬ (stT l en pe = 2 ∨ (s = 2 ∧ stT l en pe ≠ 1))) : setE l en pe s = 0 ∧ setT l en pe s = newT l en pe s := by
  have : setE l en pe s = 0 := by
    unfold setE
    rw [if_pos ⟨ho, by omega, by omega⟩, if_neg h]
  exact ⟨this, by simp [setT, this]⟩

set_option maxRecDepth 100000 in
set_option maxHeartbeats 400000 in
theorem set_nil (en pe s : Int) (w : World) : Calls Tryz.prog 33 #[.pointer none, .int .i64 en, .int .i64 pe, .int .i64 s] w fun e w' => e = .returned (.int .i64 1) ∧ w = w' := by
  go_enter Tryz.func33, Tryz.ntmps33
  go_wp2_with fail
  go_ret
  exact ⟨rfl, rfl⟩

set_option maxRecDepth 100000 in
set_option maxHeartbeats 400000 in
theorem set_bad (B c : Nat) (v : Value) (l : List Trio) (en pe s : Int) (w : World) (h : GatesAt w B c v l) (hx : okT en pe = false ∨ s < 0 ∨ 2 < s) :
    Calls Tryz.prog 33 #[.pointer (some ⟨c, 0, none⟩), .int .i64 en, .int .i64 pe, .int .i64 s] w fun e w' => e = .returned (.int .i64 1) ∧ GatesTo w B c v l w' := by
  have HC := Lib.hid h
  have hclt := h.lt
  have kk := known_anyGt en pe w
  clear h
  cases ho : okT en pe
  · rw [ho] at kk
    clear ho hx
    go_enter Tryz.func33, Tryz.ntmps33
    go_wp2_with fail
    refine kk.mono ?_
    rintro e w1 ⟨rfl, hb⟩
    go_wp2_with fail
    go_ret
    exact ⟨rfl, GatesTo.same HC.out hb⟩
  · rw [ho] at kk hx
    replace hx : s < 0 ∨ 2 < s := by simpa using hx
    clear ho
    by_cases h1 : s < 0
    · go_enter Tryz.func33, Tryz.ntmps33
      go_wp2_with fail
      refine kk.mono ?_
      rintro e w1 ⟨rfl, hb⟩
      go_wp2_with fail
      go_ret
      exact ⟨rfl, GatesTo.same HC.out hb⟩
    · have h2 : 2 < s := by omega
      clear hx
      go_enter Tryz.func33, Tryz.ntmps33
      go_wp2_with fail
      refine kk.mono ?_
      rintro e w1 ⟨rfl, hb⟩
      go_wp2_with fail
      go_ret
      exact ⟨rfl, GatesTo.same HC.out hb⟩

set_option maxRecDepth 100000 in
set_option maxHeartbeats 400000 in
theorem set_locked (B c : Nat) (v : Value) (l : List Trio) (en pe s : Int) (w : World) (h : GatesAt w B c v l) (ho : okT en pe = true) (h0 : ¬ s < 0) (h2 : ¬ 2 < s) (hs : stT l en pe = 2) :
    Calls Tryz.prog 33 #[.pointer (some ⟨c, 0, none⟩), .int .i64 en, .int .i64 pe, .int .i64 s] w fun e w' => e = .returned (.int .i64 11) ∧ GatesTo w B c v l w' := by
  have HC := Lib.hid h
  have hclt := h.lt
  have kk := known_anyGt en pe w
  have ks := Lib.hid (fun w1 (hb : Below w.heap.size w w1) => state_any B c v l en pe w1 (HC.out.below hb))
  rw [ho] at kk
  rw [hs] at ks
  clear h ho hs
  go_enter Tryz.func33, Tryz.ntmps33
  go_wp2_with fail
  refine kk.mono ?_
  rintro e w1 ⟨rfl, hb⟩
  go_wp2_with fail
  refine (ks.out w1 hb).mono ?_
  rintro e w2 ⟨rfl, hb2⟩
  go_wp2_with fail
  go_ret
  exact ⟨rfl, GatesTo.same HC.out (hb.trans (hb2.mono hb.size))⟩

set_option maxRecDepth 100000 in
set_option maxHeartbeats 400000 in
theorem set_goes (B c : Nat) (v : Value) (l : List Trio) (en pe s : Int) (F : FuncId) (E : Int) (m : List Trio) (w : World) (h : GatesAt w B c v l) (ho : okT en pe = true) (h0 : ¬ s < 0) (h2 : ¬ 2 < s) (hs : ¬ stT l en pe = 2) (hF : (s = 0 ∧ F = 100) ∨ (s = 1 ∧ F = 101) ∨ (s = 2 ∧ F = 102))
    (k : ∀ w1, GatesAt w1 B c v l → Calls Tryz.prog F #[.pointer (some ⟨c, 0, none⟩), .int .i64 en, .int .i64 pe] w1 fun e w' => e = .returned (.int .i64 E) ∧ GatesTo w1 B c v m w') :
    Calls Tryz.prog 33 #[.pointer (some ⟨c, 0, none⟩), .int .i64 en, .int .i64 pe, .int .i64 s] w fun e w' => e = .returned (.int .i64 E) ∧ GatesTo w B c v m w' := by
  have HC := Lib.hid h
  have hclt := h.lt
  have kk := known_anyGt en pe w
  have ks := Lib.hid (fun w1 (hb : Below w.heap.size w w1) => state_any B c v l en pe w1 (HC.out.below hb))
  have KF := Lib.hid k
  rw [ho] at kk
  generalize stT l en pe = st at *
  clear h ho k
  have ht : (st == 2) = false := by simp [hs]
  clear hs
  rcases hF with ⟨rfl, rfl⟩ | ⟨rfl, rfl⟩ | ⟨rfl, rfl⟩
  all_goals
    clear h0 h2
    go_enter Tryz.func33, Tryz.ntmps33
    go_wp2_with fail
    refine kk.mono ?_
    rintro e w1 ⟨rfl, hb⟩
    go_wp2_with fail
    refine (ks.out w1 hb).mono ?_
    rintro e w2 ⟨rfl, hb2⟩
    have HB : Hid (Below w.heap.size w w2) := hb.trans (hb2.mono hb.size)
    have hz := HB.out.size
    clear hb hb2
    go_wp2_with fail
    refine (KF.out _ (HC.out.below (HB.out.alloc hz _))).mono ?_
    rintro e w3 ⟨rfl, hto⟩
    have HT := Lib.hid (GatesTo.on (HB.out.alloc hz _) hto)
    clear hto
    go_wp2_with fail
    go_ret
    exact ⟨rfl, HT.out⟩

theorem set_any (B c : Nat) (v : Value) (l : List Trio) (en pe s : Int) (w : World) (h : GatesAt w B c v l) :
    Calls Tryz.prog 33 #[.pointer (some ⟨c, 0, none⟩), .int .i64 en, .int .i64 pe, .int .i64 s] w fun e w' => e = .returned (.int .i64 (setE l en pe s)) ∧ GatesTo w B c v (setT l en pe s) w' := by
  by_cases hx : okT en pe = false ∨ s < 0 ∨ 2 < s
  · rw [(setE_bad (l := l) hx).1, (setE_bad (l := l) hx).2]
    exact set_bad B c v l en pe s w h hx
  have ho : okT en pe = true := by
    cases h1 : okT en pe
    · exact absurd (.inl h1) hx
    · rfl
  have h0 : ¬ s < 0 := fun h1 => hx (.inr (.inl h1))
  have h2 : ¬ 2 < s := fun h1 => hx (.inr (.inr h1))
  by_cases hl : stT l en pe = 2
  · rw [(setE_locked ho h0 h2 (.inl hl)).1, (setE_locked ho h0 h2 (.inl hl)).2]
    exact set_locked B c v l en pe s w h ho h0 h2 hl
  have hst : stT l en pe = zOf (findT l (en * 2000 + pe)) := by simp [stT, ho]
  obtain rfl | rfl | rfl : s = 0 ∨ s = 1 ∨ s = 2 := by omega
  · have hg : ¬ (stT l en pe = 2 ∨ ((0 : Int) = 2 ∧ stT l en pe ≠ 1)) := by omega
    rw [(setE_goes ho h0 h2 hg).1, (setE_goes ho h0 h2 hg).2]
    exact set_goes B c v l en pe 0 _ _ _ w h ho h0 h2 hl (.inl ⟨rfl, rfl⟩) fun w1 h1 => open_any B c v l en pe w1 h1 ho
  · have hg : ¬ (stT l en pe = 2 ∨ ((1 : Int) = 2 ∧ stT l en pe ≠ 1)) := by omega
    rw [(setE_goes ho h0 h2 hg).1, (setE_goes ho h0 h2 hg).2]
    exact set_goes B c v l en pe 1 _ _ _ w h ho h0 h2 hl (.inr (.inl ⟨rfl, rfl⟩)) fun w1 h1 => shut_any B c v l en pe w1 h1 ho
  · by_cases h1 : stT l en pe = 1
    · have hg : ¬ (stT l en pe = 2 ∨ ((2 : Int) = 2 ∧ stT l en pe ≠ 1)) := by omega
      rw [(setE_goes ho h0 h2 hg).1, (setE_goes ho h0 h2 hg).2]
      exact set_goes B c v l en pe 2 _ _ _ w h ho h0 h2 hl (.inr (.inr ⟨rfl, rfl⟩)) fun w1 hw => (lock_any B c v l en pe w1 hw ho).mono fun e w' hh => hh.2 (by omega)
    · have hg : stT l en pe = 2 ∨ ((2 : Int) = 2 ∧ stT l en pe ≠ 1) := .inr ⟨rfl, h1⟩
      rw [(setE_locked ho h0 h2 hg).1, (setE_locked ho h0 h2 hg).2]
      exact set_goes B c v l en pe 2 _ _ _ w h ho h0 h2 hl (.inr (.inr ⟨rfl, rfl⟩)) fun w1 hw => (lock_any B c v l en pe w1 hw ho).mono fun e w' hh => hh.1 (by omega)
end Go.Proofs.YtmgncoialppmpaaGreat

/-
  A made world whose gates, or whose chart, alone are written.
-/
namespace Go.Proofs.YtmgncoialppmpaaGreat
open Go.RowKit

theorem parts_gates {w w' : World} {c g b B : Nat} {C : List Acc} {G G2 : List Trio} {l : List JR} {v : Value} (hP : PartsAt w c g b C G l) (hT : GatesAt w B g v G) (hto : GatesTo w B g v G2 w') : PartsAt w' c g b C G2 l := by
  obtain ⟨⟨B1, v1, h1⟩, _, ⟨B3, v3, h3⟩⟩ := hP
  obtain ⟨v', k1, k3, _⟩ := hto
  refine ⟨⟨B1, v1, h1.kept fun k hk hi => k3.block k hk ?_⟩, ⟨B, v', k1⟩, ⟨B3, v3, h3.but k3 fun k hi => ?_⟩⟩
  · rintro (rfl | e)
    · rcases hi with rfl | e2
      · have := h1.blk.symm.trans hT.blk
        simp at this
      · exact own_ne h1.own hT.blk (by decide) e2
    · rcases hi with rfl | e2
      · exact own_ne hT.own h1.blk (by decide) e
      · exact own_own_ne h1.own hT.own (by decide) k e2 e
  · rintro (rfl | e)
    · rcases hi with rfl | e2 | ⟨a, ha, e2⟩
      · have := h3.blk.symm.trans hT.blk
        simp at this
      · exact own_ne h3.own hT.blk (by decide) e2
      · exact own_ne (h3.lines a ha) hT.blk (by decide) e2
    · rcases hi with rfl | e2 | ⟨a, ha, e2⟩
      · exact own_ne hT.own h3.blk (by decide) e
      · exact own_own_ne h3.own hT.own (by decide) k e2 e
      · exact own_own_ne (h3.lines a ha) hT.own (by decide) k e2 e
theorem parts_chart {w w' : World} {c g b B : Nat} {C C2 : List Acc} {G : List Trio} {l : List JR} {v : Value} (hP : PartsAt w c g b C G l) (hT : ChartAt w B c v C) (hto : ChartTo w B c v C2 w') : PartsAt w' c g b C2 G l := by
  obtain ⟨_, ⟨B1, v1, h1⟩, ⟨B3, v3, h3⟩⟩ := hP
  obtain ⟨v', k1, k3, _⟩ := hto
  refine ⟨⟨B, v', k1⟩, ⟨B1, v1, h1.kept fun k hk hi => k3.block k hk ?_⟩, ⟨B3, v3, h3.but k3 fun k hi => ?_⟩⟩
  · rintro (rfl | e)
    · rcases hi with rfl | e2
      · have := h1.blk.symm.trans hT.blk
        simp at this
      · exact own_ne h1.own hT.blk (by decide) e2
    · rcases hi with rfl | e2
      · exact own_ne hT.own h1.blk (by decide) e
      · exact own_own_ne h1.own hT.own (by decide) k e2 e
  · rintro (rfl | e)
    · rcases hi with rfl | e2 | ⟨a, ha, e2⟩
      · have := h3.blk.symm.trans hT.blk
        simp at this
      · exact own_ne h3.own hT.blk (by decide) e2
      · exact own_ne (h3.lines a ha) hT.blk (by decide) e2
    · rcases hi with rfl | e2 | ⟨a, ha, e2⟩
      · exact own_ne hT.own h3.blk (by decide) e
      · exact own_own_ne h3.own hT.own (by decide) k e2 e
      · exact own_own_ne (h3.lines a ha) hT.own (by decide) k e2 e
end Go.Proofs.YtmgncoialppmpaaGreat

/-
  What the rules answer. No code.
-/
namespace Go.Proofs.YtmgncoialppmpaaGreat
open Go.RowKit

def postsE (C : List Acc) (G : List Trio) (M : List Jrn) (j : Jrn) : List Int := [0, checkE j, liveECh C (accts j.lines), mayT G j.ent j.per, if j.void = true then 1 else 0, postE M j, moneyE (postL M j)]
def amendsE (C : List Acc) (G : List Trio) (M : List Jrn) (j : Jrn) : List Int := [0, checkE j, liveECh C (accts j.lines), liveE M j.id, mayT G (oldJ M j.id).ent (oldJ M j.id).per, mayT G j.ent j.per, if j.void = true then 1 else 0, if j.ent = (oldJ M j.id).ent then 0 else 1, amendE M j, moneyE (amendL M j)]
def voidsE (G : List Trio) (M : List Jrn) (id : Int) : List Int := [0, liveE M id, mayT G (oldJ M id).ent (oldJ M id).per, liveE M id, moneyE (voidL M id)]
def rPostE (C : List Acc) (G : List Trio) (M : List Jrn) (j : Jrn) : Int := firstE (postsE C G M j)
def rAmendE (C : List Acc) (G : List Trio) (M : List Jrn) (j : Jrn) : Int := firstE (amendsE C G M j)
def rVoidE (G : List Trio) (M : List Jrn) (id : Int) : Int := firstE (voidsE G M id)
end Go.Proofs.YtmgncoialppmpaaGreat

/-
  Contracts of rules' (Rules).Post, Amend, Void.
-/
namespace Go.Proofs.YtmgncoialppmpaaGreat
open Go.RowKit

def postFs : List FuncId := [63, 70, 71, 72, 73, 74, 75]
def amendFs : List FuncId := [63, 70, 71, 64, 82, 72, 73, 83, 84, 75]
def voidFs : List FuncId := [63, 64, 82, 86, 75]

/-- A journal that is handed in, in memory. -/
structure JrIn (w : World) (j : JR) : Prop where
  rd : Rd w w.heap.size 3 j.A j.j.lines.length (lins j.j.lines)
  nil : j.A = none → j.c = 0
  len : j.j.lines.length ≤ 1000
  ref : j.j.ref.size ≤ maxLen
theorem JrIn.below {w w' : World} {j : JR} (h : JrIn w j) (hb : Below w.heap.size w w') : JrIn w' j := ⟨(h.rd.below hb).wide hb.size, h.nil, h.len, h.ref⟩

section
variable {w w1 : World} {q r c g bk : Nat} {fs : List FuncId} {C : List Acc} {G : List Trio} {l : List JR} {id : Int} {j : JR} {N : List Jrn} {a b i : Nat}
theorem q_parts (h : WI w q r fs (ptr c) (ptr g) (ptr bk) id j (l.map JR.j) N a b 0 w1) (ha : 0 < a) (hb : 0 < b) :
    Calls Tryz.prog 63 #[.pointer (some ⟨q, 0, none⟩)] w1 fun e w2 => e = .returned (.int .i64 0) ∧ (0 = (0 : Int) → WI w q r fs (ptr c) (ptr g) (ptr bk) id j (l.map JR.j) N a b (0 + 1) w2) ∧ ((0 : Int) ≠ 0 → Below w.heap.size w w2) := by
  obtain ⟨tv, hw⟩ := h.2.1 (Nat.zero_le _)
  exact ask_quiet h (by omega) hb ((hasParts_any q _ _ _ tv id j zeroR w1 hw).mono fun e w2 hh => ⟨hh.1, hh.2 ▸ Below.refl _ _⟩)
/-- The wish, whatever was found. -/
theorem WI.at (h : WI w q r fs (ptr c) (ptr g) (ptr bk) id j (l.map JR.j) N a b i w1) (hi : i ≤ b) (hab : a ≤ b) : ∃ o tv, WishAt w1 q (ptr c) (ptr g) (ptr bk) id j o tv ∧ (a < i → o.j = oldJ (l.map JR.j) id) := by
  rcases Nat.lt_or_ge a i with h1 | h1
  · obtain ⟨o, tv, k1, k2, _⟩ := h.2.2.1 h1 hi
    exact ⟨o, tv, k2, fun _ => k1⟩
  · obtain ⟨tv, k⟩ := h.2.1 h1
    exact ⟨zeroR, tv, k, fun hx => by omega⟩
theorem q_mayBe (h : WI w q r fs (ptr c) (ptr g) (ptr bk) id j (l.map JR.j) N a b i w1) (hJ : JrIn w j) (hia : i ≠ a) (hib : i < b) (hab : a ≤ b) :
    Calls Tryz.prog 70 #[.pointer (some ⟨q, 0, none⟩)] w1 fun e w2 => e = .returned (.int .i64 (checkE j.j)) ∧ (checkE j.j = 0 → WI w q r fs (ptr c) (ptr g) (ptr bk) id j (l.map JR.j) N a b (i + 1) w2) ∧ (checkE j.j ≠ 0 → Below w.heap.size w w2) := by
  obtain ⟨o, tv, hw, _⟩ := h.at (Nat.le_of_lt hib) hab
  have hJ1 := hJ.below h.1.bel
  exact ask_quiet h hia hib (mayBe_any q w1.heap.size _ _ _ tv id j o w1 hw hJ1.rd (Nat.le_refl _) (by have := hJ.len; unfold maxLen; omega) hJ.ref)
theorem q_live (h : WI w q r fs (ptr c) (ptr g) (ptr bk) id j (l.map JR.j) N a b i w1) (hP : PartsAt w c g bk C G l) (hJ : JrIn w j) (hia : i ≠ a) (hib : i < b) (hab : a ≤ b) :
    Calls Tryz.prog 71 #[.pointer (some ⟨q, 0, none⟩)] w1 fun e w2 => e = .returned (.int .i64 (liveECh C (accts j.j.lines))) ∧ (liveECh C (accts j.j.lines) = 0 → WI w q r fs (ptr c) (ptr g) (ptr bk) id j (l.map JR.j) N a b (i + 1) w2) ∧ (liveECh C (accts j.j.lines) ≠ 0 → Below w.heap.size w w2) := by
  obtain ⟨o, tv, hw, _⟩ := h.at (Nat.le_of_lt hib) hab
  have hJ1 := hJ.below h.1.bel
  obtain ⟨B, v, hC⟩ := (hP.below h.1.bel).chart
  exact ask_quiet h hia hib (accountsAreLive_any q c B w1.heap.size v C _ _ tv id j o w1 hw hC hJ1.rd (Nat.le_refl _) (by have := hJ.len; omega))
theorem q_open (h : WI w q r fs (ptr c) (ptr g) (ptr bk) id j (l.map JR.j) N a b i w1) (hP : PartsAt w c g bk C G l) (hia : i ≠ a) (hib : i < b) (hab : a ≤ b) :
    Calls Tryz.prog 72 #[.pointer (some ⟨q, 0, none⟩)] w1 fun e w2 => e = .returned (.int .i64 (mayT G j.j.ent j.j.per)) ∧ (mayT G j.j.ent j.j.per = 0 → WI w q r fs (ptr c) (ptr g) (ptr bk) id j (l.map JR.j) N a b (i + 1) w2) ∧ (mayT G j.j.ent j.j.per ≠ 0 → Below w.heap.size w w2) := by
  obtain ⟨o, tv, hw, _⟩ := h.at (Nat.le_of_lt hib) hab
  obtain ⟨B, v, hG⟩ := (hP.below h.1.bel).gates
  exact ask_quiet h hia hib (periodIsOpen_any q g B _ _ tv v G id j o w1 hw hG)
theorem q_oldOpen (h : WI w q r fs (ptr c) (ptr g) (ptr bk) id j (l.map JR.j) N a b i w1) (hP : PartsAt w c g bk C G l) (hia : a < i) (hib : i < b) :
    Calls Tryz.prog 82 #[.pointer (some ⟨q, 0, none⟩)] w1 fun e w2 => e = .returned (.int .i64 (mayT G (oldJ (l.map JR.j) id).ent (oldJ (l.map JR.j) id).per)) ∧ (mayT G (oldJ (l.map JR.j) id).ent (oldJ (l.map JR.j) id).per = 0 → WI w q r fs (ptr c) (ptr g) (ptr bk) id j (l.map JR.j) N a b (i + 1) w2) ∧ (mayT G (oldJ (l.map JR.j) id).ent (oldJ (l.map JR.j) id).per ≠ 0 → Below w.heap.size w w2) := by
  obtain ⟨o, tv, hw, ho⟩ := h.at (Nat.le_of_lt hib) (by omega)
  obtain ⟨B, v, hG⟩ := (hP.below h.1.bel).gates
  rw [← ho hia]
  exact ask_quiet h (by omega) hib (oldPeriodIsOpen_any q g B _ _ tv v G id j o w1 hw hG)
theorem q_notVoid (h : WI w q r fs (ptr c) (ptr g) (ptr bk) id j (l.map JR.j) N a b i w1) (hia : i ≠ a) (hib : i < b) (hab : a ≤ b) :
    Calls Tryz.prog 73 #[.pointer (some ⟨q, 0, none⟩)] w1 fun e w2 => e = .returned (.int .i64 (if j.j.void = true then 1 else 0)) ∧ ((if j.j.void = true then (1 : Int) else 0) = 0 → WI w q r fs (ptr c) (ptr g) (ptr bk) id j (l.map JR.j) N a b (i + 1) w2) ∧ ((if j.j.void = true then (1 : Int) else 0) ≠ 0 → Below w.heap.size w w2) := by
  obtain ⟨o, tv, hw, _⟩ := h.at (Nat.le_of_lt hib) hab
  exact ask_quiet h hia hib ((isNotVoid_any q _ _ _ tv id j o w1 hw).mono fun e w2 hh => ⟨hh.1, hh.2 ▸ Below.refl _ _⟩)
theorem q_keeps (h : WI w q r fs (ptr c) (ptr g) (ptr bk) id j (l.map JR.j) N a b i w1) (hia : a < i) (hib : i < b) :
    Calls Tryz.prog 83 #[.pointer (some ⟨q, 0, none⟩)] w1 fun e w2 => e = .returned (.int .i64 (if j.j.ent = (oldJ (l.map JR.j) id).ent then 0 else 1)) ∧ ((if j.j.ent = (oldJ (l.map JR.j) id).ent then (0 : Int) else 1) = 0 → WI w q r fs (ptr c) (ptr g) (ptr bk) id j (l.map JR.j) N a b (i + 1) w2) ∧ ((if j.j.ent = (oldJ (l.map JR.j) id).ent then (0 : Int) else 1) ≠ 0 → Below w.heap.size w w2) := by
  obtain ⟨o, tv, hw, ho⟩ := h.at (Nat.le_of_lt hib) (by omega)
  rw [← ho hia]
  exact ask_quiet h (by omega) hib (keepsEntity_any q _ _ _ tv id j o w1 hw)
end

theorem post_steps {w : World} {q r c g bk : Nat} {C : List Acc} {G : List Trio} {l : List JR} {j : JR} (hP : PartsAt w c g bk C G l) (hJ : JrIn w j) :
    ∀ i F x w1, postFs[i]? = some F → (postsE C G (l.map JR.j) j.j)[i]? = some x → WI w q r postFs (ptr c) (ptr g) (ptr bk) j.j.id j (l.map JR.j) (postL (l.map JR.j) j.j) 5 5 i w1 →
      Calls Tryz.prog F #[.pointer (some ⟨q, 0, none⟩)] w1 fun e w2 => e = .returned (.int .i64 x) ∧ (x = 0 → WI w q r postFs (ptr c) (ptr g) (ptr bk) j.j.id j (l.map JR.j) (postL (l.map JR.j) j.j) 5 5 (i + 1) w2) ∧ (x ≠ 0 → Below w.heap.size w w2) := by
  intro i F x w1 hF hx h
  match i with
  | 0 =>
    obtain rfl := Option.some.inj hF; obtain rfl := Option.some.inj hx
    exact q_parts h (by omega) (by omega)
  | 1 =>
    obtain rfl := Option.some.inj hF; obtain rfl := Option.some.inj hx
    exact q_mayBe h hJ (by omega) (by omega) (by omega)
  | 2 =>
    obtain rfl := Option.some.inj hF; obtain rfl := Option.some.inj hx
    exact q_live h hP hJ (by omega) (by omega) (by omega)
  | 3 =>
    obtain rfl := Option.some.inj hF; obtain rfl := Option.some.inj hx
    exact q_open h hP (by omega) (by omega) (by omega)
  | 4 =>
    obtain rfl := Option.some.inj hF; obtain rfl := Option.some.inj hx
    exact q_notVoid h (by omega) (by omega) (by omega)
  | 5 =>
    obtain rfl := Option.some.inj hF; obtain rfl := Option.some.inj hx
    obtain ⟨tv, hw⟩ := h.2.1 (Nat.le_refl _)
    obtain ⟨B, v, hT⟩ := (hP.below h.1.bel).book
    have hJ1 := hJ.below h.1.bel
    exact ask_tries h (Nat.le_refl _) (posts_any q B bk w.heap.size v l _ _ tv _ j zeroR w1 hw hT (hJ.rd.below h.1.bel) h.1.low hJ.nil (by have := hJ.len; unfold maxLen; omega) hJ.ref)
  | 6 =>
    obtain rfl := Option.some.inj hF; obtain rfl := Option.some.inj hx
    exact ask_fits h (Nat.le_refl _)
  | n + 7 => cases hF
theorem amend_steps {w : World} {q r c g bk : Nat} {C : List Acc} {G : List Trio} {l : List JR} {j : JR} (hP : PartsAt w c g bk C G l) (hJ : JrIn w j) :
    ∀ i F x w1, amendFs[i]? = some F → (amendsE C G (l.map JR.j) j.j)[i]? = some x → WI w q r amendFs (ptr c) (ptr g) (ptr bk) j.j.id j (l.map JR.j) (amendL (l.map JR.j) j.j) 3 8 i w1 →
      Calls Tryz.prog F #[.pointer (some ⟨q, 0, none⟩)] w1 fun e w2 => e = .returned (.int .i64 x) ∧ (x = 0 → WI w q r amendFs (ptr c) (ptr g) (ptr bk) j.j.id j (l.map JR.j) (amendL (l.map JR.j) j.j) 3 8 (i + 1) w2) ∧ (x ≠ 0 → Below w.heap.size w w2) := by
  intro i F x w1 hF hx h
  match i with
  | 0 =>
    obtain rfl := Option.some.inj hF; obtain rfl := Option.some.inj hx
    exact q_parts h (by omega) (by omega)
  | 1 =>
    obtain rfl := Option.some.inj hF; obtain rfl := Option.some.inj hx
    exact q_mayBe h hJ (by omega) (by omega) (by omega)
  | 2 =>
    obtain rfl := Option.some.inj hF; obtain rfl := Option.some.inj hx
    exact q_live h hP hJ (by omega) (by omega) (by omega)
  | 3 =>
    obtain rfl := Option.some.inj hF; obtain rfl := Option.some.inj hx
    exact ask_finds h hP (by omega)
  | 4 =>
    obtain rfl := Option.some.inj hF; obtain rfl := Option.some.inj hx
    exact q_oldOpen h hP (by omega) (by omega)
  | 5 =>
    obtain rfl := Option.some.inj hF; obtain rfl := Option.some.inj hx
    exact q_open h hP (by omega) (by omega) (by omega)
  | 6 =>
    obtain rfl := Option.some.inj hF; obtain rfl := Option.some.inj hx
    exact q_notVoid h (by omega) (by omega) (by omega)
  | 7 =>
    obtain rfl := Option.some.inj hF; obtain rfl := Option.some.inj hx
    exact q_keeps h (by omega) (by omega)
  | 8 =>
    obtain rfl := Option.some.inj hF; obtain rfl := Option.some.inj hx
    obtain ⟨o, tv, _, hw, _⟩ := h.2.2.1 (by omega) (Nat.le_refl _)
    obtain ⟨B, v, hT⟩ := (hP.below h.1.bel).book
    exact ask_tries h (by omega) (amends_any q B bk w.heap.size v l _ _ tv _ j o w1 hw hT (hJ.rd.below h.1.bel) h.1.low hJ.nil (by have := hJ.len; unfold maxLen; omega) hJ.ref)
  | 9 =>
    obtain rfl := Option.some.inj hF; obtain rfl := Option.some.inj hx
    exact ask_fits h (by omega)
  | n + 10 => cases hF
theorem void_steps {w : World} {q r c g bk : Nat} {C : List Acc} {G : List Trio} {l : List JR} {id : Int} (hP : PartsAt w c g bk C G l) :
    ∀ i F x w1, voidFs[i]? = some F → (voidsE G (l.map JR.j) id)[i]? = some x → WI w q r voidFs (ptr c) (ptr g) (ptr bk) id zeroR (l.map JR.j) (voidL (l.map JR.j) id) 1 3 i w1 →
      Calls Tryz.prog F #[.pointer (some ⟨q, 0, none⟩)] w1 fun e w2 => e = .returned (.int .i64 x) ∧ (x = 0 → WI w q r voidFs (ptr c) (ptr g) (ptr bk) id zeroR (l.map JR.j) (voidL (l.map JR.j) id) 1 3 (i + 1) w2) ∧ (x ≠ 0 → Below w.heap.size w w2) := by
  intro i F x w1 hF hx h
  match i with
  | 0 =>
    obtain rfl := Option.some.inj hF; obtain rfl := Option.some.inj hx
    exact q_parts h (by omega) (by omega)
  | 1 =>
    obtain rfl := Option.some.inj hF; obtain rfl := Option.some.inj hx
    exact ask_finds h hP (by omega)
  | 2 =>
    obtain rfl := Option.some.inj hF; obtain rfl := Option.some.inj hx
    exact q_oldOpen h hP (by omega) (by omega)
  | 3 =>
    obtain rfl := Option.some.inj hF; obtain rfl := Option.some.inj hx
    obtain ⟨o, tv, _, hw, _⟩ := h.2.2.1 (by omega) (Nat.le_refl _)
    obtain ⟨B, v, hT⟩ := (hP.below h.1.bel).book
    exact ask_tries h (by omega) (voids_any q B bk v l _ _ tv id zeroR o w1 hw hT)
  | 4 =>
    obtain rfl := Option.some.inj hF; obtain rfl := Option.some.inj hx
    exact ask_fits h (by omega)
  | n + 5 => cases hF
end Go.Proofs.YtmgncoialppmpaaGreat
