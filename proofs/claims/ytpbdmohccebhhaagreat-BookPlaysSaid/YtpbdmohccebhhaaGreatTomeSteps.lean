/-
  Contracts of (*Book).live, Len, Void, Drop, Get.
-/
import Derived.Test.YtpbdmohccebhhaaGreatTomeFind
import Derived.Test.YtpbdmohccebhhaaGreatMany9
namespace Go.Proofs.YtpbdmohccebhhaaGreat
open Go.RowKit

theorem find_jr (l : List JR) (x : Int) : findK Jrn.id (l.map JR.j) x = (findK JR.id l x).map JR.j := findK_map _ _ _
theorem liveE_none {l : List JR} {x : Int} (h : findK JR.id l x = none) : liveE (l.map JR.j) x = 9 := by unfold liveE; rw [find_jr, h]; rfl
theorem liveE_void {l : List JR} {x : Int} {a : JR} (h : findK JR.id l x = some a) (hv : a.j.void = true) : liveE (l.map JR.j) x = 11 := by unfold liveE; rw [find_jr, h]; simp [hv]
theorem liveE_ok {l : List JR} {x : Int} {a : JR} (h : findK JR.id l x = some a) (hv : a.j.void = false) : liveE (l.map JR.j) x = 0 := by unfold liveE; rw [find_jr, h]; simp [hv]

set_option maxRecDepth 100000 in
set_option maxHeartbeats 400000 in
theorem live_any (B c : Nat) (v : Value) (l : List JR) (x : Int) (w : World) (h : TomeAt w B c v l) :
    Calls Tryz.prog 62 #[.pointer (some ⟨c, 0, none⟩), .int .i64 x] w fun e w' => e = .returned (.tuple #[.int .i64 (if liveE (l.map JR.j) x = 0 then (posK JR.id l x : Int) else 0), .int .i64 (liveE (l.map JR.j) x)]) ∧ Below w.heap.size w w' := by
  have HC := Lib.hid h
  have kp := Lib.hid (place_any B c v l x w h)
  cases hf : findK JR.id l x with
  | none =>
    rw [liveE_none hf]
    rw [hf] at kp
    clear h hf
    generalize posK JR.id l x = p at *
    go_enter Tryz.func62, Tryz.ntmps62
    go_wp2_with fail
    refine kp.out.mono ?_
    rintro e w1 ⟨rfl, hb⟩
    go_wp2_with fail
    go_ret2
    exact ⟨rfl, hb⟩
  | some a =>
    obtain ⟨hat, _⟩ := findK_some h.rise hf
    rw [hf] at kp
    have HAT := Lib.hid hat
    cases hv : a.j.void
    · rw [liveE_ok hf hv]
      clear h hf hat
      generalize posK JR.id l x = p at *
      go_enter Tryz.func62, Tryz.ntmps62
      go_wp2_with fail
      refine kp.out.mono ?_
      rintro e w1 ⟨rfl, hb⟩
      have hC2 := HC.out.below hb
      have hcc := hC2.cell
      obtain ⟨g, cap, rfl, hpl, hgl, hBg, hcs, hfz⟩ := hC2.at HAT.out
      have p5 := hcs 5 _ rfl
      rw [hv] at p5
      have hpI : (p : Int) < (l.length : Int) := by omega
      have HB := Lib.hid hb
      clear hb hC2 hcs hfz
      go_wp2_with fail
      go_ret2
      exact ⟨rfl, HB.out⟩
    · rw [liveE_void hf hv]
      clear h hf hat
      generalize posK JR.id l x = p at *
      go_enter Tryz.func62, Tryz.ntmps62
      go_wp2_with fail
      refine kp.out.mono ?_
      rintro e w1 ⟨rfl, hb⟩
      have hC2 := HC.out.below hb
      have hcc := hC2.cell
      obtain ⟨g, cap, rfl, hpl, hgl, hBg, hcs, hfz⟩ := hC2.at HAT.out
      have p5 := hcs 5 _ rfl
      rw [hv] at p5
      have hpI : (p : Int) < (l.length : Int) := by omega
      have HB := Lib.hid hb
      clear hb hC2 hcs hfz
      go_wp2_with fail
      go_ret2
      exact ⟨rfl, HB.out⟩

set_option maxRecDepth 100000 in
theorem len_any (B c : Nat) (v : Value) (l : List JR) (w : World) (h : TomeAt w B c v l) :
    Calls Tryz.prog 30 #[.pointer (some ⟨c, 0, none⟩)] w fun e w' => e = .returned (.int .i64 (l.length : Nat)) ∧ w = w' := by
  have hc := h.cell
  obtain ⟨A, cap, rfl⟩ := h.form
  have hlen := h.len
  clear h
  go_enter Tryz.func30, Tryz.ntmps30
  go_wp2
  go_ret
  exact ⟨rfl, rfl⟩
set_option maxRecDepth 100000 in
theorem len_nil (w : World) : Calls Tryz.prog 30 #[.pointer none] w fun e w' => e = .returned (.int .i64 0) ∧ w = w' := by
  go_enter Tryz.func30, Tryz.ntmps30
  go_wp2
  go_ret
  exact ⟨rfl, rfl⟩

/-- A row that was put in another one's place. -/
theorem TomeAt.place {w w' : World} {B c g cap : Nat} {l : List JR} {p : Nat} {a b : JR} (h : TomeAt w B c (.slice (some ⟨g, 0, none⟩) l.length cap) l) (hp : l[p]? = some a) (hid : b.j.id = a.j.id) (hok : checkE b.j = 0)
    (hown : w'.ownsRow B 43 6 (.slice (some ⟨g, 0, none⟩) l.length cap) l.length (jrs (l.set p b))) (hb : But (fun k => k = g) w w') (hline : w'.ownsRow B 100 3 b.lv b.j.lines.length (lins b.j.lines)) : TomeAt w' B c (.slice (some ⟨g, 0, none⟩) l.length cap) (l.set p b) := by
  have hcg : c ≠ g := fun e => h.apart (by rw [e]; rfl)
  refine ⟨(hb.block c h.lt hcg).trans h.blk, h.low, by rw [List.length_set]; exact hown, fun x hx => ?_, ?_, by rw [List.length_set]; exact h.len, fun x hx => ?_⟩
  · rcases List.mem_or_eq_of_mem_set hx with h1 | h1
    · refine own_kept (h.lines x h1) fun k hk ho => hb.block k hk fun e => ?_
      exact h.apartR h1 g rfl (by rw [← e]; exact ho)
    · rw [h1]; exact hline
  · have hl := (List.getElem?_eq_some_iff.1 hp).1
    unfold Rise
    rw [List.pairwise_iff_getElem]
    intro i j hi hj hij
    rw [List.length_set] at hi hj
    have h0 : ∀ (i : Nat) (hi : i < l.length), JR.id ((l.set p b)[i]'(by rw [List.length_set]; exact hi)) = JR.id l[i] := by
      intro i hi
      rw [List.getElem_set]
      split
      · rename_i e
        subst e
        have : l[p] = a := by rw [List.getElem?_eq_getElem hl] at hp; injection hp
        rw [this]; exact hid
      · rfl
    rw [h0 i hi, h0 j hj]
    exact List.pairwise_iff_getElem.1 h.rise i j hi hj hij
  · rcases List.mem_or_eq_of_mem_set hx with h1 | h1
    · exact h.ok x h1
    · rw [h1]; exact hok
theorem setJ_map {l : List JR} (h : Rise JR.id l) {x : Int} {a b : JR} (hf : findK JR.id l x = some a) (hid : b.j.id = a.j.id) : (l.set (posK JR.id l x) b).map JR.j = putK Jrn.id (l.map JR.j) b.j := by
  have hk := (findK_some h hf).2
  have hx : x = b.j.id := by rw [hid]; exact hk.symm
  have h1 : putK JR.id l b = l.set (posK JR.id l x) b := by
    have := putK_found h (a := b) (by show (findK JR.id l b.j.id).isSome = true; rw [← hx, hf]; rfl)
    rw [this, hx]; rfl
  rw [← h1]
  exact (putK_map (key := Jrn.id) JR.j l b).symm
theorem checkE_void (j : Jrn) (x : Bool) : checkE { j with void := x } = checkE j := rfl

set_option maxRecDepth 100000 in
set_option maxHeartbeats 1000000 in
theorem void_any (B c : Nat) (v : Value) (l : List JR) (x : Int) (w : World) (h : TomeAt w B c v l) :
    Calls Tryz.prog 17 #[.pointer (some ⟨c, 0, none⟩), .int .i64 x] w fun e w' => e = .returned (.int .i64 (liveE (l.map JR.j) x)) ∧ TomeTo w B c v l (voidL (l.map JR.j) x) w' := by
  have HC := Lib.hid h
  have kl := Lib.hid (live_any B c v l x w h)
  by_cases hE : liveE (l.map JR.j) x = 0
  · obtain ⟨a, hf, hv⟩ : ∃ a, findK JR.id l x = some a ∧ a.j.void = false := by
      cases hf : findK JR.id l x with
      | none => rw [liveE_none hf] at hE; cases hE
      | some a =>
        cases hv : a.j.void
        · exact ⟨a, rfl, hv⟩
        · rw [liveE_void hf hv] at hE; cases hE
    obtain ⟨hat, _⟩ := findK_some h.rise hf
    have hM : voidL (l.map JR.j) x = (l.set (posK JR.id l x) ⟨voidJ a.j, a.A, a.c⟩).map JR.j := by
      rw [setJ_map (b := ⟨voidJ a.j, a.A, a.c⟩) h.rise hf rfl]
      unfold voidL
      rw [if_pos hE, find_jr, hf]
      rfl
    rw [hM]
    rw [hE] at kl ⊢
    rw [if_pos rfl] at kl
    have HAT := Lib.hid hat
    clear hE hf hat hv hM h
    generalize posK JR.id l x = p at *
    go_enter Tryz.func17, Tryz.ntmps17
    go_wp2_with fail
    refine kl.out.mono ?_
    rintro e w2 ⟨rfl, hb⟩
    have hC2 := HC.out.below hb
    have hcc := hC2.cell
    obtain ⟨g, cap, rfl, hpl, hgl, hBg, hcs, hfz⟩ := hC2.at HAT.out
    have p5 := hcs 5 _ rfl
    have hfz2 := hfz (p * 6 + 5)
    have hpI : (p : Int) < (l.length : Int) := by omega
    have HC2 := Lib.hid hC2
    have HB := Lib.hid hb
    clear hb hC2 hfz hcs kl
    go_wp2_with fail
    go_ret
    have hbut : But (fun k => k = g) w2 (w2.setCell ⟨g, p * 6 + 5, none⟩ (.bool true)) := ⟨rfl, rfl, rfl, by simp, fun q _ hq => Below.heap_setCell _ _ _ _ (fun e => hq e)⟩
    have hown := own_set1 (k := p * 6 + 5) HC2.out.own (.bool true)
    rw [jrs_setVoid true HAT.out] at hown
    refine ⟨rfl, .slice (some ⟨g, 0, none⟩) l.length cap, l.set p ⟨voidJ a.j, a.A, a.c⟩, HC2.out.place HAT.out rfl (HC2.out.ok a (List.mem_of_getElem? HAT.out)) hown hbut ?_, rfl, ?_, ?_⟩
    · refine own_kept (HC2.out.lines a (List.mem_of_getElem? HAT.out)) fun k hk ho => hbut.block k hk fun e => ?_
      exact HC2.out.apartR (List.mem_of_getElem? HAT.out) g rfl (by rw [← e]; exact ho)
    · exact (But.of_below HB.out).trans (hbut.wide fun k _ hk => .inr (by rw [hk]; rfl))
    · rintro k (hk | hk | ⟨y, hy, hk⟩)
      · exact .inl (.inl hk)
      · exact .inl (.inr (.inl hk))
      · rcases List.mem_or_eq_of_mem_set hy with h1 | h1
        · exact .inl (.inr (.inr ⟨y, h1, hk⟩))
        · subst h1
          exact .inl (.inr (.inr ⟨a, List.mem_of_getElem? HAT.out, hk⟩))
  · have hM : voidL (l.map JR.j) x = l.map JR.j := by unfold voidL; rw [if_neg hE]
    rw [hM]
    rw [if_neg hE] at kl
    have hne : (liveE (l.map JR.j) x != 0) = true := by simpa using hE
    clear hE hM h
    generalize liveE (l.map JR.j) x = E at *
    go_enter Tryz.func17, Tryz.ntmps17
    go_wp2_with fail
    refine kl.out.mono ?_
    rintro e w2 ⟨rfl, hb⟩
    go_wp2_with fail
    go_ret
    exact ⟨rfl, TomeTo.same HC.out hb⟩
set_option maxRecDepth 100000 in
theorem void_nil (x : Int) (w : World) : Calls Tryz.prog 17 #[.pointer none, .int .i64 x] w fun e w' => e = .returned (.int .i64 1) ∧ w = w' := by
  go_enter Tryz.func17, Tryz.ntmps17
  go_wp2
  go_ret
  exact ⟨rfl, rfl⟩

set_option maxRecDepth 100000 in
set_option maxHeartbeats 1000000 in
theorem drop_any (B c : Nat) (v : Value) (l : List JR) (x : Int) (w : World) (h : TomeAt w B c v l) :
    Calls Tryz.prog 20 #[.pointer (some ⟨c, 0, none⟩), .int .i64 x] w fun e w' => e = .returned (.bool (hasId (l.map JR.j) x)) ∧ TomeTo w B c v l (dropK Jrn.id (l.map JR.j) x) w' := by
  have HC := Lib.hid h
  have kp := Lib.hid (place_any B c v l x w h)
  rw [hasId_map]
  have hdm : dropK Jrn.id (l.map JR.j) x = (dropK JR.id l x).map JR.j := dropK_map (key := Jrn.id) JR.j l x
  rw [hdm]
  cases hf : (findK JR.id l x).isSome
  · rw [dropK_none hf]
    rw [hf] at kp
    clear h hf hdm
    generalize posK JR.id l x = p at *
    go_enter Tryz.func20, Tryz.ntmps20
    go_wp2_with fail
    refine kp.out.mono ?_
    rintro e w1 ⟨rfl, hb⟩
    go_wp2_with fail
    go_ret
    exact ⟨rfl, TomeTo.same HC.out hb⟩
  · have HRI := Lib.hid (h.rise.drop x)
    rw [dropK_found hf] at HRI ⊢
    rw [hf] at kp
    have hpl0 := findK_lt h.rise hf
    have HAT : Hid (∃ a, l[posK JR.id l x]? = some a) := ⟨_, List.getElem?_eq_getElem hpl0⟩
    have hlen := h.len
    clear h hf hdm
    generalize posK JR.id l x = p at *
    go_enter Tryz.func20, Tryz.ntmps20
    go_wp2_with fail
    refine kp.out.mono ?_
    rintro e w2 ⟨rfl, hb⟩
    have hC2 := HC.out.below hb
    have hcc := hC2.cell
    have hcw := hC2.warm
    obtain ⟨a, hat⟩ := HAT.out
    obtain ⟨g, cap, rfl, hpl, hgl, hBg, hcs, hfz⟩ := hC2.at hat
    have hpI : (p : Int) < (l.length : Int) := by omega
    have HC2 := Lib.hid hC2
    have HB := Lib.hid hb
    have KD := Lib.hid (delete_any l B g p l.length cap w2 rfl hC2.own (by omega) hpl)
    have hne : c ≠ g := fun e => hC2.apart (by rw [e]; rfl)
    have hw1 : IntKind.i64.wrap ((p : Int) + 1) = (p : Int) + 1 := by rw [IntKind.wrap_i64]; omega
    have hclt2 := hC2.lt
    clear hb hC2 hfz hcs hat kp
    go_wp2_with fail
    refine KD.out.mono ?_
    rintro e w3 ⟨rfl, hown, hbut⟩
    have hb3 : w3.heap[c]? = w2.heap[c]? := hbut.block c hclt2 hne
    have hc3 : w3.cell? ⟨c, 0, none⟩ = some (.slice (some ⟨g, 0, none⟩) l.length cap) := by rw [cell_of (hb3.trans HC2.out.blk)]; rfl
    have hf3 : w3.frozen? ⟨c, 0, none⟩ = false := warm_of (hb3.trans HC2.out.blk) 0
    have HO := Lib.hid hown
    have HBU := Lib.hid hbut
    have HB3 := Lib.hid hb3
    have HNE := Lib.hid hne
    clear hown hbut hb3 hne
    go_wp2_with fail
    go_ret
    have hmem : ∀ y, y ∈ l.take p ++ l.drop (p + 1) → y ∈ l := fun y hy => (List.mem_append.1 hy).elim List.mem_of_mem_take List.mem_of_mem_drop
    refine ⟨rfl, .slice (some ⟨g, 0, none⟩) (l.length - 1) cap, l.take p ++ l.drop (p + 1), ?_, rfl, ?_, ?_⟩
    · refine ⟨?_, HC2.out.low, ?_, fun y hy => ?_, HRI.out, by simp; omega, fun y hy => HC2.out.ok y (hmem y hy)⟩
      · rw [set_here (HB3.out.trans HC2.out.blk)]; rfl
      · rw [show (l.take p ++ l.drop (p + 1)).length = l.length - 1 by simp; omega]
        refine own_kept HO.out fun q _ hq => Below.heap_setCell _ _ _ _ (fun e => ?_)
        have e' : q = c := e
        injection hq with hq
        exact HNE.out (e'.symm.trans hq.symm)
      · have h1 := HC2.out.lines y (hmem y hy)
        refine own_kept h1 fun q hq ho => (Below.heap_setCell _ _ _ _ (fun e => ?_)).trans (HBU.out.block q hq fun e => ?_)
        · exact HC2.out.apartL (hmem y hy) (by rw [← show q = c from e]; exact ho)
        · exact HC2.out.apartR (hmem y hy) g rfl (by rw [← e]; exact ho)
    · have h1 : But (fun k => k = c ∨ (Value.slice (some ⟨g, 0, none⟩) l.length cap).ownBlock = some k) w w2 := But.of_below HB.out
      have h2 : But (fun k => k = c ∨ (Value.slice (some ⟨g, 0, none⟩) l.length cap).ownBlock = some k) w2 w3 := HBU.out.wide fun q _ hq => .inr (by rw [hq]; rfl)
      exact (h1.trans h2).trans ⟨rfl, rfl, rfl, by simp, fun q _ hq => Below.heap_setCell _ _ _ _ (fun e => hq (.inl e))⟩
    · rintro k (hk | hk | ⟨y, hy, hk⟩)
      · exact .inl (.inl hk)
      · exact .inl (.inr (.inl hk))
      · exact .inl (.inr (.inr ⟨y, hmem y hy, hk⟩))
set_option maxRecDepth 100000 in
theorem drop_nil (x : Int) (w : World) : Calls Tryz.prog 20 #[.pointer none, .int .i64 x] w fun e w' => e = .returned (.bool false) ∧ w = w' := by
  have kp := Lib.hid (place_nil x w)
  go_enter Tryz.func20, Tryz.ntmps20
  go_wp2_with fail
  refine kp.out.mono ?_
  rintro e w2 ⟨rfl, rfl⟩
  go_wp2
  go_ret
  exact ⟨rfl, rfl⟩
end Go.Proofs.YtpbdmohccebhhaaGreat
