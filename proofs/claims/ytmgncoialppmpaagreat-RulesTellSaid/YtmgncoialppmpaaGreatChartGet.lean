/-
  Contracts of (*Chart).Get, Retire, Live.
-/
import Derived.Test.YtmgncoialppmpaaGreatMany18
namespace Go.Proofs.YtmgncoialppmpaaGreat
open Go.RowKit

def acc0 : Acc := ⟨0, 0, false⟩
/-- What Get answers. -/
def getV (l : List Acc) (x : Int) : Value := .tuple #[((findA l x).getD acc0).val, .bool (findA l x).isSome]

/-- A chart's account at a place, as a walk reads it. -/
theorem ChartAt.at {w : World} {B c p : Nat} {v : Value} {l : List Acc} {a : Acc} (h : ChartAt w B c v l) (hp : l[p]? = some a) : ∃ g cap, v = .slice (some ⟨g, 0, none⟩) l.length cap ∧ p < l.length ∧ g < w.heap.size ∧ B ≤ g ∧
    w.cell? ⟨g, p * 3, none⟩ = some (.int .i64 a.code) ∧ w.cell? ⟨g, p * 3 + 1, none⟩ = some (.int .i64 a.kind) ∧ w.cell? ⟨g, p * 3 + 2, none⟩ = some (.bool a.ret) ∧ ∀ j, w.frozen? ⟨g, j, none⟩ = false := by
  have hl := (List.getElem?_eq_some_iff.1 hp).1
  rcases h.own.2 with ⟨_, h1⟩ | ⟨g, cap, cur, rfl, hB, hh, _⟩
  · omega
  · obtain ⟨h1, h2, h3⟩ := accs_at l p a hp
    exact ⟨g, cap, rfl, hl, lt_of_blk hh, hB, own_cell h.own h1, own_cell h.own h2, own_cell h.own h3, fun j => warm_of hh j⟩

set_option maxRecDepth 100000 in
set_option maxHeartbeats 400000 in
theorem get_any (B c : Nat) (v : Value) (l : List Acc) (x : Int) (w : World) (h : ChartAt w B c v l) :
    Calls Tryz.prog 218 #[.pointer (some ⟨c, 0, none⟩), .int .i64 x] w fun e w' => e = .returned (getV l x) ∧ Below w.heap.size w w' := by
  have HC := Lib.hid h
  have hclt := h.lt
  unfold getV
  cases hf : findA l x with
  | none =>
    have kp := fun w2 (hb : Below w.heap.size w w2) => place_anyCh B c v l x w2 (HC.out.below hb)
    rw [hf] at kp
    have KP := Lib.hid kp
    clear hf kp h
    go_enter Tryz.func218, Tryz.ntmps218
    go_wp2_with fail
    refine (KP.out _ ((Below.refl _ _).alloc (Nat.le_refl _) _)).mono ?_
    rintro e w2 ⟨rfl, hb⟩
    have hz : w.heap.size + 1 ≤ w2.heap.size := by have := hb.size; simpa using this
    have hcl : ∀ o, w2.cell? ⟨w.heap.size, o, none⟩ = (w.alloc (.cells #[.int .i64 0, .int .i64 0, .bool false] 112)).cell? ⟨w.heap.size, o, none⟩ := fun o => hb.cell (p := ⟨w.heap.size, o, none⟩) (by simp)
    have hfz : ∀ o, w2.frozen? ⟨w.heap.size, o, none⟩ = (w.alloc (.cells #[.int .i64 0, .int .i64 0, .bool false] 112)).frozen? ⟨w.heap.size, o, none⟩ := fun o => hb.frozen (p := ⟨w.heap.size, o, none⟩) (by simp)
    have HB : Hid (Below w.heap.size w w2) := ((Below.refl _ _).alloc (Nat.le_refl _) _).trans (hb.mono (by simp))
    clear hb
    go_wp2
    refine bodyPost_ret (v := .tuple #[.agg #[.int .i64 0, .int .i64 0, .bool false], .bool false]) (by simp [results, Tryz.results218, go_sem, hcl]) rfl ⟨rfl, ?_⟩
    first | exact HB.out | exact ((HB.out.setCell (by simp) _).setCell (by simp) _).setCell (by simp) _
  | some a =>
    have kp := fun w2 (hb : Below w.heap.size w w2) => place_anyCh B c v l x w2 (HC.out.below hb)
    rw [hf] at kp
    have KP := Lib.hid kp
    obtain ⟨hat, hcx⟩ := find_some_atCh h.good.1 hf
    have HAT := Lib.hid hat
    have hlen := h.good.len
    clear hf kp h hat hcx
    generalize posn l x = p at *
    obtain ⟨x1, x2, x3⟩ := a
    go_enter Tryz.func218, Tryz.ntmps218
    go_wp2_with fail
    refine (KP.out _ ((Below.refl _ _).alloc (Nat.le_refl _) _)).mono ?_
    rintro e w2 ⟨rfl, hb⟩
    have hz : w.heap.size + 1 ≤ w2.heap.size := by have := hb.size; simpa using this
    have hcl : ∀ o, w2.cell? ⟨w.heap.size, o, none⟩ = (w.alloc (.cells #[.int .i64 0, .int .i64 0, .bool false] 112)).cell? ⟨w.heap.size, o, none⟩ := fun o => hb.cell (p := ⟨w.heap.size, o, none⟩) (by simp)
    have hfz : ∀ o, w2.frozen? ⟨w.heap.size, o, none⟩ = (w.alloc (.cells #[.int .i64 0, .int .i64 0, .bool false] 112)).frozen? ⟨w.heap.size, o, none⟩ := fun o => hb.frozen (p := ⟨w.heap.size, o, none⟩) (by simp)
    have HB : Hid (Below w.heap.size w w2) := ((Below.refl _ _).alloc (Nat.le_refl _) _).trans (hb.mono (by simp))
    have hC2 := HC.out.below HB.out
    have hcc := hC2.cell
    obtain ⟨g, cap, rfl, hpl, hgl, _, hc0, hc1, hc2, _⟩ := hC2.at HAT.out
    have hpI : (p : Int) < (l.length : Int) := by omega
    clear hb hC2
    go_wp2
    refine bodyPost_ret (v := .tuple #[.agg #[.int .i64 x1, .int .i64 x2, .bool x3], .bool true]) (by simp [results, Tryz.results218, go_sem, hcl, hfz]) rfl ⟨rfl, ?_⟩
    exact ((HB.out.setCell (by simp) _).setCell (by simp) _).setCell (by simp) _

set_option maxRecDepth 100000 in
theorem get_nilCh (x : Int) (w : World) : Calls Tryz.prog 218 #[.pointer none, .int .i64 x] w fun e w' => e = .returned (.tuple #[.agg #[.int .i64 0, .int .i64 0, .bool false], .bool false]) ∧ Below w.heap.size w w' := by
  go_enter Tryz.func218, Tryz.ntmps218
  go_wp2
  refine bodyPost_ret (v := .tuple #[.agg #[.int .i64 0, .int .i64 0, .bool false], .bool false]) (by simp [results, Tryz.results218, go_sem]) rfl ⟨rfl, ?_⟩
  first | exact (Below.refl _ _).alloc (Nat.le_refl _) _ | exact ((((Below.refl _ _).alloc (Nat.le_refl _) _).setCell (by simp) _).setCell (by simp) _).setCell (by simp) _

theorem accs_setRet : ∀ (l : List Acc) (p : Nat) (a : Acc), l[p]? = some a → (accs l).set (p * 3 + 2) (.bool true) = accs (l.set p { a with ret := true })
  | [], p, a, h => by simp at h
  | b :: l, 0, a, h => by
    simp at h; subst h
    simp [accs, Acc.cells]
  | b :: l, p + 1, a, h => by
    have := accs_setRet l p a (by simpa using h)
    unfold accs at this ⊢
    rw [List.set_cons_succ, List.flatMap_cons, List.flatMap_cons, ← this, show (p + 1) * 3 + 2 = (Acc.cells b).length + (p * 3 + 2) by simp [Acc.cells]; omega, List.set_append_right _ _ (by omega)]
    simp

set_option maxRecDepth 100000 in
set_option maxHeartbeats 400000 in
theorem retire_any (B c : Nat) (v : Value) (l : List Acc) (x : Int) (w : World) (h : ChartAt w B c v l) :
    Calls Tryz.prog 35 #[.pointer (some ⟨c, 0, none⟩), .int .i64 x] w fun e w' => e = .returned (.int .i64 (retE l x)) ∧ ChartTo w B c v (retL l x) w' := by
  have HC := Lib.hid h
  have hclt := h.lt
  have kp := place_anyCh B c v l x w h
  cases hf : findA l x with
  | none =>
    rw [hf] at kp
    rw [retL_none hf, show retE l x = 9 by simp [retE, hf]]
    clear hf h
    go_enter Tryz.func35, Tryz.ntmps35
    go_wp2_with fail
    refine kp.mono ?_
    rintro e w2 ⟨rfl, hb⟩
    go_wp2
    go_ret
    exact ⟨rfl, ChartTo.same HC.out hb⟩
  | some a =>
    rw [hf] at kp
    obtain ⟨hat, _⟩ := find_some_atCh h.good.1 hf
    have HRS := Lib.hid (retL_set h.good.1 hf)
    have HRO : Hid (a.ret = true → retL l x = l) := fun hr => retL_old h.good.1 hf hr
    have HGR := Lib.hid (h.good.ret x)
    have HAT := Lib.hid hat
    have hlen := h.good.len
    have HE : Hid (retE l x = if a.ret = true then 5 else 0) := by show retE l x = _; simp [retE, hf]
    clear hf h hat
    generalize posn l x = p at *
    cases hr : a.ret
    · rw [show retE l x = 0 by rw [HE.out, hr]; rfl]
      go_enter Tryz.func35, Tryz.ntmps35
      go_wp2_with fail
      refine kp.mono ?_
      rintro e w2 ⟨rfl, hb⟩
      have hC2 := HC.out.below hb
      have hcc := hC2.cell
      obtain ⟨g, cap, rfl, hpl, hgl, hBg, hc0, hc1, hc2, hfz⟩ := hC2.at HAT.out
      rw [hr] at hc2
      have hfz2 := hfz (p * 3 + 2)
      have hpI : (p : Int) < (l.length : Int) := by omega
      have HC2 := Lib.hid hC2
      have HB := Lib.hid hb
      have HR := Lib.hid hr
      clear hb hC2 hr hfz hc0 hc1 kp
      go_wp2
      go_ret
      refine ⟨rfl, .slice (some ⟨g, 0, none⟩) l.length cap, ?_, ?_, fun _ hk => .inl hk⟩
      · refine ⟨?_, HC2.out.low, ?_, HGR.out⟩
        · have hne : c ≠ g := fun e => HC2.out.apart (by rw [e]; rfl)
          refine (Below.heap_setCell _ _ _ _ ?_).trans HC2.out.blk
          exact hne
        · rw [HRS.out, ← accs_setRet l p a HAT.out, List.length_set]
          exact own_set1 HC2.out.own _
      · have h1 : But (InChart c (.slice (some ⟨g, 0, none⟩) l.length cap)) w w2 := But.of_below HB.out
        exact h1.trans ⟨rfl, rfl, rfl, by simp, fun q _ hq => Below.heap_setCell _ _ _ _ (fun e => hq (.inr (congrArg some e.symm)))⟩
    · rw [HRO.out hr, show retE l x = 5 by rw [HE.out, hr]; rfl]
      go_enter Tryz.func35, Tryz.ntmps35
      go_wp2_with fail
      refine kp.mono ?_
      rintro e w2 ⟨rfl, hb⟩
      have hC2 := HC.out.below hb
      have hcc := hC2.cell
      obtain ⟨g, cap, rfl, hpl, hgl, hBg, hc0, hc1, hc2, hfz⟩ := hC2.at HAT.out
      rw [hr] at hc2
      have hpI : (p : Int) < (l.length : Int) := by omega
      clear hC2 hr hfz hc0 hc1 kp
      go_wp2
      go_ret
      exact ⟨rfl, ChartTo.same HC.out hb⟩

theorem live_get (l : List Acc) (x : Int) : liveE1 l x = if (findA l x).isSome = true then (if ((findA l x).getD acc0).ret = true then 5 else 0) else 4 := by
  unfold liveE1
  cases findA l x <;> rfl
theorem live_step {l : List Acc} {xs : List Int} {j : Nat} {x : Int} (hx : xs[j]? = some x) (h0 : liveECh l (xs.take j) = 0) :
    (liveE1 l x = 0 → liveECh l (xs.take (j + 1)) = 0) ∧ (liveE1 l x ≠ 0 → liveECh l xs = liveE1 l x) := by
  induction xs generalizing j with
  | nil => simp at hx
  | cons y r ih =>
    cases j with
    | zero =>
      simp at hx; subst hx
      constructor
      · intro h; simp [liveECh, h]
      · intro h; simp [liveECh, h]
    | succ j =>
      rw [List.take_succ_cons, liveECh] at h0
      by_cases hy : liveE1 l y = 0
      · rw [if_pos hy] at h0
        obtain ⟨i1, i2⟩ := ih (j := j) (by simpa using hx) h0
        constructor
        · intro h; rw [List.take_succ_cons, liveECh, if_pos hy]; exact i1 h
        · intro h; rw [liveECh, if_pos hy]; exact i2 h
      · rw [if_neg hy] at h0; exact absurd h0 hy

set_option maxRecDepth 100000 in
set_option maxHeartbeats 1000000 in
theorem live_anyCh (B c : Nat) (v : Value) (l : List Acc) (xs : List Int) (A : Option Addr) (n cp B0 : Nat) (w : World) (h : ChartAt w B c v l) (hr : Rd w B0 1 A n (ints .i64 xs)) (hB : B0 ≤ w.heap.size) (hn : n ≤ 1000000) :
    Calls Tryz.prog 164 #[.pointer (some ⟨c, 0, none⟩), .slice A n cp] w fun e w' => e = .returned (.int .i64 (liveECh l xs)) ∧ Below w.heap.size w w' := by
  have HC := Lib.hid h
  have hclt := h.lt
  have HL := Lib.hid hr.ints_len
  have HR := Lib.hid hr
  clear h hr
  go_enter Tryz.func164, Tryz.ntmps164
  go_wp2_with fail
  go_loopw [13] (fun iv wr => ∃ j : Nat, j ≤ n ∧ iv = .int .i64 j ∧ Hid (liveECh l (xs.take j) = 0) ∧ Below w.heap.size w wr) (fun iv _ => n - (intOf iv).toNat)
  case atStart => exact ⟨0, Nat.zero_le _, rfl, rfl, Below.refl _ _⟩
  case round =>
    obtain ⟨j, hj, rfl, h0, hbel⟩ := hrel
    have hzr := hbel.size
    have HB := Lib.hid hbel
    have HRr := Lib.hid (HR.out.below (hbel.mono hB))
    have HCr := Lib.hid (HC.out.below hbel)
    clear hbel
    by_cases hlt : j < n
    · obtain ⟨ad, rfl, _, hci⟩ := HRr.out.int hlt
      have hjl : j < xs.length := by have := HL.out; omega
      have HX : Hid (xs[j]? = some xs[j]) := List.getElem?_eq_getElem hjl
      rw [show xs[j]?.getD 0 = xs[j] by simp [hjl]] at hci
      generalize xs[j] = x at *
      have kg := get_any B c v l x wr HCr.out
      have HST := Lib.hid (live_step (l := l) HX.out h0.out)
      have HLV := Lib.hid (live_get l x)
      unfold getV at kg
      have hjn : (j : Int) < (n : Int) := by omega
      generalize (findA l x).getD acc0 = a at *
      generalize (findA l x).isSome = t at *
      obtain ⟨x1, x2, x3⟩ := a
      unfold Acc.val at kg
      go_wp2_with fail
      refine kg.mono ?_
      rintro e w2 ⟨rfl, hb⟩
      have hz2 := hb.size
      have HB2 : Hid (Below w.heap.size w w2) := HB.out.trans (hb.mono hzr)
      clear hb kg
      cases t
      · have HE : Hid (liveECh l xs = 4) := by
          have := HLV.out
          simp at this
          exact (HST.out.2 (by rw [this]; decide)).trans this
        go_wp2
        go_ret
        refine ⟨ret_int HE.out.symm, ?_⟩
        first | exact HB2.out.alloc (by omega) _ | exact (((HB2.out.alloc (by omega) _).setCell (by simp; omega) _).setCell (by simp; omega) _).setCell (by simp; omega) _
      · cases x3
        · have HE : Hid (liveECh l (xs.take (j + 1)) = 0) := by
            have := HLV.out
            simp at this
            exact HST.out.1 this
          go_wp2
          refine ⟨⟨j + 1, by omega, by go_num, HE.out, ?_⟩, by simp [intOf]; omega⟩
          first | exact HB2.out.alloc (by omega) _ | exact (((HB2.out.alloc (by omega) _).setCell (by simp; omega) _).setCell (by simp; omega) _).setCell (by simp; omega) _
        · have HE : Hid (liveECh l xs = 5) := by
            have := HLV.out
            simp at this
            exact (HST.out.2 (by rw [this]; decide)).trans this
          go_wp2
          go_ret
          refine ⟨ret_int HE.out.symm, ?_⟩
          first | exact HB2.out.alloc (by omega) _ | exact (((HB2.out.alloc (by omega) _).setCell (by simp; omega) _).setCell (by simp; omega) _).setCell (by simp; omega) _
    · obtain rfl : j = n := by omega
      have HE : Hid (liveECh l xs = 0) := by
        have := h0.out
        rwa [List.take_of_length_le (by have := HL.out; omega)] at this
      go_wp2
      go_ret
      exact ⟨ret_int HE.out.symm, HB.out⟩
end Go.Proofs.YtmgncoialppmpaaGreat

