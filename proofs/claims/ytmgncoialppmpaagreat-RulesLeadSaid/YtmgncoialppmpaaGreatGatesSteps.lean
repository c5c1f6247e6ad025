/-
  Contracts of (*Gates).open, shut, lock.
-/
import Derived.Test.YtmgncoialppmpaaGreatMany13
import Derived.Test.YtmgncoialppmpaaGreatMany22
namespace Go.Proofs.YtmgncoialppmpaaGreat
open Go.RowKit

theorem own_sliceGt {w : World} {base : Nat} {e : TypeId} {size n : Nat} {v : Value} {xs : List Value} (h : w.ownsRow base e size v n xs) : ∃ A m c, v = .slice A m c := by
  obtain ⟨A, c, h⟩ := own_form h
  exact ⟨A, n, c, h⟩
/-- Gates that were v, and have become l. -/
def GatesTo (w : World) (B c : Nat) (v : Value) (l : List Trio) (w' : World) : Prop :=
  ∃ v', GatesAt w' B c v' l ∧ But (InGates c v) w w' ∧ ∀ k, v'.ownBlock = some k → v.ownBlock = some k ∨ w.heap.size ≤ k
theorem GatesTo.same {w w' : World} {B c : Nat} {v : Value} {l : List Trio} (h : GatesAt w B c v l) (hb : Below w.heap.size w w') : GatesTo w B c v l w' :=
  ⟨v, h.below hb, But.of_below hb, fun _ hk => .inl hk⟩
theorem trios_setZ (s : Int) : ∀ (l : List Trio) (p : Nat) (a : Trio), l[p]? = some a → (trios l).set (p * 3 + 2) (.int .i64 s) = trios (l.set p ⟨a.x, a.y, s⟩)
  | [], p, a, h => by simp at h
  | b :: l, 0, a, h => by
    simp at h; subst h
    simp [trios, Trio.cells]
  | b :: l, p + 1, a, h => by
    have := trios_setZ s l p a (by simpa using h)
    unfold trios at this ⊢
    rw [List.set_cons_succ, List.flatMap_cons, List.flatMap_cons, ← this, show (p + 1) * 3 + 2 = (Trio.cells b).length + (p * 3 + 2) by simp [Trio.cells]; omega, List.set_append_right _ _ (by omega)]
    simp
theorem key_inj {a : Trio} {e p : Int} (h1 : okT a.x a.y = true) (h2 : okT e p = true) (h : a.key = e * 2000 + p) : a.x = e ∧ a.y = p := by
  have := okT_t h1
  have := okT_t h2
  unfold Trio.key at h
  omega

set_option maxRecDepth 100000 in
set_option maxHeartbeats 1000000 in
theorem open_any (B c : Nat) (v : Value) (l : List Trio) (en pe : Int) (w : World) (h : GatesAt w B c v l) (ho : okT en pe = true) :
    Calls Tryz.prog 100 #[.pointer (some ⟨c, 0, none⟩), .int .i64 en, .int .i64 pe] w fun e w' => e = .returned (.int .i64 0) ∧ GatesTo w B c v (newT l en pe 0) w' := by
  have HC := Lib.hid h
  have hclt := h.lt
  have kp := place_anyGt B c v l en pe w h ho
  cases hf : findT l (en * 2000 + pe) with
  | none =>
    rw [hf] at kp
    rw [newT_none (by rw [hf]; rfl)]
    clear ho h hf
    go_enter Tryz.func100, Tryz.ntmps100
    go_wp2_with fail
    refine kp.mono ?_
    rintro e w1 ⟨rfl, hb⟩
    go_wp2_with fail
    go_ret
    exact ⟨rfl, GatesTo.same HC.out hb⟩
  | some a =>
    rw [hf] at kp
    have HG := Lib.hid (h.good.new (e := en) (p := pe) 0 ho)
    rw [newT_gone (by rw [hf]; rfl)] at HG ⊢
    obtain ⟨hat, _⟩ := find_some_atGt h.good.1 hf
    have HAT := Lib.hid hat
    have hlen := h.good.len
    clear ho h hf hat
    generalize posT l (en * 2000 + pe) = p at *
    go_enter Tryz.func100, Tryz.ntmps100
    go_wp2_with fail
    refine kp.mono ?_
    rintro e w2 ⟨rfl, hb⟩
    have hC2 := HC.out.below hb
    have hcc := hC2.cell
    have hcw := hC2.warm
    obtain ⟨g, cap, rfl, hpl, hgl, hBg, hc0, hc1, hc2, hfz⟩ := hC2.at HAT.out
    have hpI : (p : Int) < (l.length : Int) := by omega
    have HC2 := Lib.hid hC2
    have HB := Lib.hid hb
    have KD := Lib.hid (delete_anyGt l B g p l.length cap w2 rfl hC2.own (by omega) hpl)
    have hne : c ≠ g := fun e => hC2.apart (by rw [e]; rfl)
    have hw1 : IntKind.i64.wrap ((p : Int) + 1) = (p : Int) + 1 := by rw [IntKind.wrap_i64]; omega
    have hclt2 := hC2.lt
    clear hb hC2 hfz hc0 hc1 hc2 kp
    go_wp2_with fail
    refine KD.out.mono ?_
    rintro e w3 ⟨rfl, hown, hbut⟩
    have hb3 : w3.heap[c]? = w2.heap[c]? := hbut.block c hclt2 hne
    have hc3 : w3.cell? ⟨c, 0, none⟩ = some (.slice (some ⟨g, 0, none⟩) l.length cap) := by rw [cell_of (hb3.trans HC2.out.blk)]; rfl
    have hf3 : w3.frozen? ⟨c, 0, none⟩ = false := warm_of (hb3.trans HC2.out.blk) 0
    have HO := Lib.hid hown
    have HBU := Lib.hid hbut
    have HB3 := Lib.hid hb3
    have HNE := Lib.hid hne
    clear hown hbut hb3 hne
    go_wp2_with fail
    go_ret
    refine ⟨rfl, .slice (some ⟨g, 0, none⟩) (l.length - 1) cap, ?_, ?_, fun _ hk => .inl hk⟩
    · refine ⟨?_, HC2.out.low, ?_, HG.out⟩
      · rw [set_here (HB3.out.trans HC2.out.blk)]; rfl
      · rw [show (l.take p ++ l.drop (p + 1)).length = l.length - 1 by simp; omega]
        refine own_kept HO.out fun q _ hq => Below.heap_setCell _ _ _ _ (fun e => ?_)
        have e' : q = c := e
        injection hq with hq
        exact HNE.out (e'.symm.trans hq.symm)
    · have h1 : But (InGates c (.slice (some ⟨g, 0, none⟩) l.length cap)) w w2 := But.of_below HB.out
      have h2 : But (InGates c (.slice (some ⟨g, 0, none⟩) l.length cap)) w2 w3 := HBU.out.wide fun q _ hq => .inr (by rw [hq]; rfl)
      exact (h1.trans h2).trans ⟨rfl, rfl, rfl, by simp, fun q _ hq => Below.heap_setCell _ _ _ _ (fun e => hq (.inl e))⟩

set_option maxRecDepth 100000 in
set_option maxHeartbeats 1000000 in
theorem lock_any (B c : Nat) (v : Value) (l : List Trio) (en pe : Int) (w : World) (h : GatesAt w B c v l) (ho : okT en pe = true) :
    Calls Tryz.prog 102 #[.pointer (some ⟨c, 0, none⟩), .int .i64 en, .int .i64 pe] w fun e w' => (zOf (findT l (en * 2000 + pe)) ≠ 1 → e = .returned (.int .i64 11) ∧ GatesTo w B c v l w') ∧ (zOf (findT l (en * 2000 + pe)) = 1 → e = .returned (.int .i64 0) ∧ GatesTo w B c v (newT l en pe 2) w') := by
  have HC := Lib.hid h
  have hclt := h.lt
  have kp := place_anyGt B c v l en pe w h ho
  cases hf : findT l (en * 2000 + pe) with
  | none =>
    rw [hf] at kp
    unfold zOf
    refine Calls.mono (R := fun e w' => e = .returned (.int .i64 11) ∧ GatesTo w B c v l w') ?_ fun e w' hh => ⟨fun _ => hh, fun h => absurd h (by decide)⟩
    clear ho h hf
    go_enter Tryz.func102, Tryz.ntmps102
    go_wp2_with fail
    refine kp.mono ?_
    rintro e w1 ⟨rfl, hb⟩
    go_wp2_with fail
    go_ret
    exact ⟨rfl, GatesTo.same HC.out hb⟩
  | some a =>
    rw [hf] at kp
    unfold zOf
    have HG := Lib.hid (h.good.new (e := en) (p := pe) 2 ho)
    rw [newT_found h.good.1 (by omega) (by rw [hf]; rfl)] at HG ⊢
    obtain ⟨hat, hkey⟩ := find_some_atGt h.good.1 hf
    have hxy := key_inj (h.good.2 a (List.mem_of_getElem? hat)) ho hkey
    have hsz := trios_setZ 2 l _ a hat
    rw [hxy.1, hxy.2] at hsz
    have HSZ := Lib.hid hsz
    have HAT := Lib.hid hat
    have hlen := h.good.len
    clear ho h hf hat hxy hkey hsz
    generalize posT l (en * 2000 + pe) = p at *
    by_cases hz : a.z = 1
    · refine Calls.mono (R := fun e w' => e = .returned (.int .i64 0) ∧ GatesTo w B c v (l.set p ⟨en, pe, 2⟩) w') ?_ fun e w' hh => ⟨fun h => absurd hz h, fun _ => hh⟩
      go_enter Tryz.func102, Tryz.ntmps102
      go_wp2_with fail
      refine kp.mono ?_
      rintro e w2 ⟨rfl, hb⟩
      have hC2 := HC.out.below hb
      have hcc := hC2.cell
      obtain ⟨g, cap, rfl, hpl, hgl, hBg, hc0, hc1, hc2, hfz⟩ := hC2.at HAT.out
      rw [hz] at hc2
      have hfz2 := hfz (p * 3 + 2)
      have hpI : (p : Int) < (l.length : Int) := by omega
      have HC2 := Lib.hid hC2
      have HB := Lib.hid hb
      clear hb hC2 hz hfz hc0 hc1 kp
      go_wp2_with fail
      go_ret
      refine ⟨rfl, .slice (some ⟨g, 0, none⟩) l.length cap, ?_, ?_, fun _ hk => .inl hk⟩
      · refine ⟨?_, HC2.out.low, ?_, HG.out⟩
        · have hne : c ≠ g := fun e => HC2.out.apart (by rw [e]; rfl)
          refine (Below.heap_setCell _ _ _ _ ?_).trans HC2.out.blk
          exact hne
        · rw [← HSZ.out, List.length_set]
          exact own_set1 HC2.out.own _
      · have h1 : But (InGates c (.slice (some ⟨g, 0, none⟩) l.length cap)) w w2 := But.of_below HB.out
        exact h1.trans ⟨rfl, rfl, rfl, by simp, fun q _ hq => Below.heap_setCell _ _ _ _ (fun e => hq (.inr (congrArg some e.symm)))⟩
    · refine Calls.mono (R := fun e w' => e = .returned (.int .i64 11) ∧ GatesTo w B c v l w') ?_ fun e w' hh => ⟨fun _ => hh, fun h => absurd h hz⟩
      have ht : (a.z != 1) = true := by simp [hz]
      go_enter Tryz.func102, Tryz.ntmps102
      go_wp2_with fail
      refine kp.mono ?_
      rintro e w2 ⟨rfl, hb⟩
      have hC2 := HC.out.below hb
      have hcc := hC2.cell
      obtain ⟨g, cap, rfl, hpl, hgl, hBg, hc0, hc1, hc2, hfz⟩ := hC2.at HAT.out
      have hpI : (p : Int) < (l.length : Int) := by omega
      clear hC2 hz hfz hc0 hc1 kp
      go_wp2_with fail
      go_ret
      exact ⟨rfl, GatesTo.same HC.out hb⟩

set_option maxRecDepth 100000 in
set_option maxHeartbeats 1000000 in
theorem shut_found (B c : Nat) (v : Value) (l : List Trio) (en pe : Int) (w : World) (h : GatesAt w B c v l) (ho : okT en pe = true) (hf : (findT l (en * 2000 + pe)).isSome = true) :
    Calls Tryz.prog 101 #[.pointer (some ⟨c, 0, none⟩), .int .i64 en, .int .i64 pe] w fun e w' => e = .returned (.int .i64 0) ∧ GatesTo w B c v (newT l en pe 1) w' := by
  have HC := Lib.hid h
  have hclt := h.lt
  have kp := place_anyGt B c v l en pe w h ho
  rw [hf] at kp
  have HG := Lib.hid (h.good.new (e := en) (p := pe) 1 ho)
  rw [newT_found h.good.1 (by omega) hf] at HG ⊢
  obtain ⟨a, hfa⟩ := Option.isSome_iff_exists.1 hf
  obtain ⟨hat, hkey⟩ := find_some_atGt h.good.1 hfa
  have hxy := key_inj (h.good.2 a (List.mem_of_getElem? hat)) ho hkey
  have hsz := trios_setZ 1 l _ a hat
  rw [hxy.1, hxy.2] at hsz
  have HSZ := Lib.hid hsz
  have HAT := Lib.hid hat
  have hlen := h.good.len
  clear ho h hf hfa hat hxy hkey hsz
  generalize posT l (en * 2000 + pe) = p at *
  go_enter Tryz.func101, Tryz.ntmps101
  go_wp2_with fail
  refine kp.mono ?_
  rintro e w2 ⟨rfl, hb⟩
  have hC2 := HC.out.below hb
  have hcc := hC2.cell
  obtain ⟨g, cap, rfl, hpl, hgl, hBg, hc0, hc1, hc2, hfz⟩ := hC2.at HAT.out
  have hfz2 := hfz (p * 3 + 2)
  have hpI : (p : Int) < (l.length : Int) := by omega
  have HC2 := Lib.hid hC2
  have HB := Lib.hid hb
  clear hb hC2 hfz hc0 hc1 kp
  go_wp2_with fail
  go_ret
  refine ⟨rfl, .slice (some ⟨g, 0, none⟩) l.length cap, ?_, ?_, fun _ hk => .inl hk⟩
  · refine ⟨?_, HC2.out.low, ?_, HG.out⟩
    · have hne : c ≠ g := fun e => HC2.out.apart (by rw [e]; rfl)
      refine (Below.heap_setCell _ _ _ _ ?_).trans HC2.out.blk
      exact hne
    · rw [← HSZ.out, List.length_set]
      exact own_set1 HC2.out.own _
  · have h1 : But (InGates c (.slice (some ⟨g, 0, none⟩) l.length cap)) w w2 := But.of_below HB.out
    exact h1.trans ⟨rfl, rfl, rfl, by simp, fun q _ hq => Below.heap_setCell _ _ _ _ (fun e => hq (.inr (congrArg some e.symm)))⟩

theorem ins_set {l : List Trio} {p : Nat} {a b : Trio} (hp : p ≤ l.length) : (l.take p ++ a :: l.drop p).set p b = l.take p ++ b :: l.drop p := by
  have hl : (l.take p).length = p := by simp; omega
  rw [List.set_append_right _ _ (by omega), hl, Nat.sub_self, List.set_cons_zero]
theorem ins_at {l : List Trio} {p : Nat} {a : Trio} (hp : p ≤ l.length) : (l.take p ++ a :: l.drop p)[p]? = some a := by
  have hl : (l.take p).length = p := by simp; omega
  rw [List.getElem?_append_right (by omega), hl, Nat.sub_self]
  rfl

set_option maxRecDepth 100000 in
set_option maxHeartbeats 1000000 in
theorem shut_new (B c : Nat) (v : Value) (l : List Trio) (en pe : Int) (w : World) (h : GatesAt w B c v l) (ho : okT en pe = true) (hf : (findT l (en * 2000 + pe)).isSome = false) :
    Calls Tryz.prog 101 #[.pointer (some ⟨c, 0, none⟩), .int .i64 en, .int .i64 pe] w fun e w' => e = .returned (.int .i64 0) ∧ GatesTo w B c v (newT l en pe 1) w' := by
  have HC := Lib.hid h
  have hclt := h.lt
  have kp := place_anyGt B c v l en pe w h ho
  rw [hf] at kp
  have HG := Lib.hid (h.good.new (e := en) (p := pe) 1 ho)
  rw [newT_fresh (by omega) hf] at HG ⊢
  have hple := posT_le l (en * 2000 + pe)
  have hlen := h.good.len
  obtain ⟨A, cap, rfl⟩ := h.form
  clear ho h hf
  generalize posT l (en * 2000 + pe) = p at *
  have hsz := trios_setZ 1 _ p _ (ins_at (a := ⟨en, pe, 0⟩) hple)
  rw [ins_set hple] at hsz
  have HSZ := Lib.hid hsz
  clear hsz
  go_enter Tryz.func101, Tryz.ntmps101
  go_wp2_with fail
  refine kp.mono ?_
  rintro e w2 ⟨rfl, hb⟩
  have hC2 := HC.out.below hb
  have hcc := hC2.cell
  have hcw := hC2.warm
  have hclt2 := hC2.lt
  have HC2 := Lib.hid hC2
  have HB2 := Lib.hid hb
  clear hb hC2 kp
  have HIN : Hid (Calls Tryz.prog 183 #[.slice A l.length cap, .int .i64 p, .slice (some ⟨w2.heap.size, 0, none⟩) 1 1] (w2.alloc (.cells #[.int .i64 en, .int .i64 pe, .int .i64 0] 113)) fun e w' => ∃ v', e = .returned v' ∧ InsertedGt (w2.alloc (.cells #[.int .i64 en, .int .i64 pe, .int .i64 0] 113)) B (.slice A l.length cap) (l.take p ++ ⟨en, pe, 0⟩ :: l.drop p) v' w') :=
    insert_anyGt l ⟨en, pe, 0⟩ B w2.heap.size p l.length cap A _ rfl (own_kept HC2.out.own fun q hq _ => Below.heap_alloc w2 _ _ hq) (heap_new w2 _) (fun e => by have := own_lt HC2.out.own _ e; omega) (by omega) (by have := HC2.out.low; simp; omega) hple
  have HNE : Hid ((Value.slice A l.length cap).ownBlock ≠ some c) := HC2.out.apart
  go_wp2_with fail
  refine HIN.out.mono ?_
  rintro e w3 ⟨v3, rfl, hins⟩
  obtain ⟨g3, c3, hv3, hpos⟩ := hins.1.form (by simp; omega)
  have hln : (l.take p ++ (⟨en, pe, 0⟩ : Trio) :: l.drop p).length = l.length + 1 := by simp; omega
  rw [hln] at hv3
  subst hv3
  have hb3 : w3.heap[c]? = w2.heap[c]? := (hins.2.1.block c (by simp; omega) HNE.out).trans (Below.heap_alloc w2 _ _ hclt2)
  have hc3 : w3.cell? ⟨c, 0, none⟩ = some (.slice A l.length cap) := by rw [cell_of (hb3.trans HC2.out.blk)]; rfl
  have hf3 : w3.frozen? ⟨c, 0, none⟩ = false := warm_of (hb3.trans HC2.out.blk) 0
  have hown3 := hins.1
  rw [hln] at hown3
  have hcg : c ≠ g3 := by
    intro e
    rcases hins.2.2 with hh | hh
    · exact HNE.out (by rw [← hh, e]; rfl)
    · injection hh with hh
      simp at hh
      omega
  have hz3 := (own_cell hown3 (trios_at _ p _ (ins_at (a := ⟨en, pe, 0⟩) hple)).2.2)
  have hzf := own_warm hown3 (p * 3 + 2)
  have hpI : (p : Int) < (l.length : Int) + 1 := by omega
  have HB3 := Lib.hid hb3
  have HIN3 := Lib.hid hins
  have HO3 := Lib.hid hown3
  have HCG := Lib.hid hcg
  clear hb3 hins hown3 hpos
  go_wp2_with fail
  go_ret
  refine ⟨rfl, .slice (some ⟨g3, 0, none⟩) (l.length + 1) c3, ?_, ?_, ?_⟩
  · refine ⟨?_, HC2.out.low, ?_, HG.out⟩
    · refine (Below.heap_setCell _ _ _ _ ?_).trans ?_
      · exact HCG.out
      · rw [set_here (HB3.out.trans HC2.out.blk)]; rfl
    · rw [show (l.take p ++ (⟨en, pe, 1⟩ : Trio) :: l.drop p).length = l.length + 1 by simp; omega, ← HSZ.out]
      exact own_set1 (own_kept HO3.out fun q _ hq => Below.heap_setCell _ _ _ _ (fun e => by injection hq with hq; exact HCG.out (e.symm.trans hq.symm))) _
  · have h1 : But (InGates c (.slice A l.length cap)) w w2 := But.of_below HB2.out
    have h2 : But (InGates c (.slice A l.length cap)) w2 (w2.alloc (.cells #[.int .i64 en, .int .i64 pe, .int .i64 0] 113)) := But.of_below ((Below.refl _ _).alloc (Nat.le_refl _) _)
    have h3 : But (InGates c (.slice A l.length cap)) (w2.alloc (.cells #[.int .i64 en, .int .i64 pe, .int .i64 0] 113)) w3 := HIN3.out.2.1.wide fun q _ hq => .inr hq
    have h4 : But (InGates c (.slice A l.length cap)) w3 (w3.setCell ⟨c, 0, none⟩ (.slice (some ⟨g3, 0, none⟩) (l.length + 1) c3)) := ⟨rfl, rfl, rfl, by simp, fun q _ hq => Below.heap_setCell _ _ _ _ (fun e => hq (.inl e))⟩
    have h5 : But (fun k => k = g3) (w3.setCell ⟨c, 0, none⟩ (.slice (some ⟨g3, 0, none⟩) (l.length + 1) c3)) ((w3.setCell ⟨c, 0, none⟩ (.slice (some ⟨g3, 0, none⟩) (l.length + 1) c3)).setCell ⟨g3, p * 3 + 2, none⟩ (.int .i64 1)) := ⟨rfl, rfl, rfl, by simp, fun q _ hq => Below.heap_setCell _ _ _ _ (fun e => hq e)⟩
    refine (((h1.trans h2).trans h3).trans h4).more h5 fun i hi e => ?_
    have e' : i = g3 := e
    rcases HIN3.out.2.2 with hh | hh
    · exact .inr (by rw [← hh, e']; rfl)
    · injection hh with hh
      have hs := HB2.out.size
      simp at hh
      omega
  · intro q hq
    rcases HIN3.out.2.2 with h | h
    · exact .inl (by rw [← h]; exact hq)
    · rw [h] at hq
      injection hq with hq
      have hs := HB2.out.size
      simp at hq
      exact .inr (by omega)

theorem shut_any (B c : Nat) (v : Value) (l : List Trio) (en pe : Int) (w : World) (h : GatesAt w B c v l) (ho : okT en pe = true) :
    Calls Tryz.prog 101 #[.pointer (some ⟨c, 0, none⟩), .int .i64 en, .int .i64 pe] w fun e w' => e = .returned (.int .i64 0) ∧ GatesTo w B c v (newT l en pe 1) w' := by
  cases hf : (findT l (en * 2000 + pe)).isSome
  · exact shut_new B c v l en pe w h ho hf
  · exact shut_found B c v l en pe w h ho hf
end Go.Proofs.YtmgncoialppmpaaGreat

