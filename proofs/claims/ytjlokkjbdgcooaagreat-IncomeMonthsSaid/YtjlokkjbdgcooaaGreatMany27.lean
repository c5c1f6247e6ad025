/-
  Several texts, one behind the other: what each holds stands ahead of it.
-/
import Derived.Test.YtjlokkjbdgcooaaGreatMany26
import Derived.Test.YtjlokkjbdgcooaaGreatMany25
import Derived.Test.YtjlokkjbdgcooaaGreatMany12
import Derived.Test.YtjlokkjbdgcooaaGreatMany21
import Derived.BigQuiet

/-
  Contract of trial's Pick; a balance appended; which kinds' accounts there are.
-/
namespace Go.Proofs.YtjlokkjbdgcooaaGreat
open Go.RowKit

/-- A balance appended to a row of one's own. -/
theorem append_bal1 {w : World} {base m : Nat} {v : Value} {L : List Bal} (a : Bal) (h : w.ownsRow base 161 2 v m (bals L)) (hb : base ≤ w.heap.size) (hm : m ≤ 1000000) :
    ∃ v' w', (∀ ty, (Builtin.append_ #[81, 81] ty #[v, .slice (some ⟨w.heap.size, 0, none⟩) 1 1]).run Tryz.prog (w.alloc (.cells #[.int .i64 a.acct, .int .i64 a.amt] 161)) = .ok v' w') ∧ w'.ownsRow base 161 2 v' (m + 1) (bals (L ++ [a])) ∧ But (fun k => v.ownBlock = some k) w w' ∧ Below base w w' ∧ (v'.ownBlock = v.ownBlock ∨ v'.ownBlock = some (w.heap.size + 1)) := by
  have hR : Rd (w.alloc (.cells #[.int .i64 a.acct, .int .i64 a.amt] 161)) (w.heap.size + 1) 2 (some ⟨w.heap.size, 0, none⟩) 1 (bals [a]) := ⟨rfl, fun _ => ⟨_, rfl, by simp, cells_new w (bals [a]) 161⟩⟩
  have h1 : (w.alloc (.cells #[.int .i64 a.acct, .int .i64 a.amt] 161)).ownsRow base 161 2 v m (bals L) := own_kept h fun k hk _ => Below.heap_alloc w _ _ hk
  obtain ⟨v', w', hrun, hown, hg, hp⟩ := append_fresh (P := Tryz.prog) (ty := 0) (c := 1) infoBal Tryz.underlying81 rfl (by omega) base v m (bals L) h1 hR (balsOne _) (by unfold maxLen; omega) (by omega) (by simp; omega)
  refine ⟨v', w', fun ty => hrun, by rw [bals_append]; exact hown, ?_, ?_, ?_⟩
  · exact (But.of_below ((Below.refl _ _).alloc (Nat.le_refl _) _)).trans (But.of_grown hg)
  · exact ((Below.refl _ _).alloc hb _).grown hg (by simp; omega) (own_ge h)
  · simpa using hp

def pickB (ks : List Int) (l : List Bal) : List Bal := l.filter fun x => ks.contains x.acct
theorem filter_step {p : Bal → Bool} {l : List Bal} {k : Nat} {a : Bal} (h : l[k]? = some a) : (l.take (k + 1)).filter p = (l.take k).filter p ++ if p a = true then [a] else [] := by
  obtain ⟨hk, rfl⟩ := List.getElem?_eq_some_iff.1 h
  rw [List.take_succ_eq_append_getElem hk, List.filter_append]
  simp [List.filter_cons]
theorem filter_yes {p : Bal → Bool} {l : List Bal} {k : Nat} {a : Bal} (h : l[k]? = some a) (hp : p a = true) : (l.take (k + 1)).filter p = (l.take k).filter p ++ [a] := by rw [filter_step h, if_pos hp]
theorem filter_no {p : Bal → Bool} {l : List Bal} {k : Nat} {a : Bal} (h : l[k]? = some a) (hp : p a = false) : (l.take (k + 1)).filter p = (l.take k).filter p := by rw [filter_step h, if_neg (by rw [hp]; decide), List.append_nil]
theorem filter_len {p : Bal → Bool} (l : List Bal) (k : Nat) : ((l.take k).filter p).length ≤ k := Nat.le_trans (List.length_filter_le _ _) (by rw [List.length_take]; omega)

def PickEnd (w : World) (L : List Bal) (e : Ending) (w' : World) : Prop := ∃ A c, e = .returned (.slice A L.length c) ∧ w'.ownsRow w.heap.size 161 2 (.slice A L.length c) L.length (bals L) ∧ Below w.heap.size w w'
/-- What Kind gives. -/
def KindTo (cv : Value) (A2 : Option Addr) (n2 c2 : Nat) (ks : List Int) (w : World) : Prop :=
  Calls Tryz.prog 207 #[cv, .slice A2 n2 c2] w fun e w' => ∃ A' c', e = .returned (.slice A' ks.length c') ∧ Rd w' w'.heap.size 1 A' ks.length (ints .i64 ks) ∧ Below w.heap.size w w'
set_option maxRecDepth 100000 in
set_option maxHeartbeats 2000000 in
theorem pick_any (cv : Value) (hcv : cv = .pointer none ∨ ∃ g, cv = .pointer (some ⟨g, 0, none⟩)) (l : List Bal) (ks : List Int) (A A2 : Option Addr) (n c n2 c2 B : Nat) (w : World) (h : Rd w B 2 A n (bals l)) (hB : B ≤ w.heap.size) (hn : n ≤ 1000000)
    (hk : KindTo cv A2 n2 c2 ks w) (hs : ks.Pairwise (· < ·)) (hkl : ks.length ≤ 10000) :
    Calls Tryz.prog 178 #[cv, .slice A n c, .slice A2 n2 c2] w (PickEnd w (pickB ks l)) := by
  have HL := Lib.hid h.bals_len
  have HR := Lib.hid h
  have HS := Lib.hid hs
  unfold KindTo at hk
  have KK := Lib.hid hk
  clear h hs hk
  rcases hcv with rfl | ⟨g, rfl⟩
  all_goals
    go_enter Tryz.func178, Tryz.ntmps178
    go_wp2_with fail
    refine KK.out.mono ?_
    rintro e w1 ⟨A1, c1, rfl, hr1, hb1⟩
    have HB1 := Lib.hid hb1
    have hz1 := hb1.size
    have HK1 := Lib.hid hr1
    have HRR := Lib.hid (HR.out.far hb1 hB)
    clear hr1 hb1 KK
    obtain ⟨m, hm⟩ : ∃ m, ks.length = m := ⟨_, rfl⟩
    rw [hm] at HK1 hkl ⊢
    clear hm
    go_wp2_with fail
    go_loopw [8, 17] (fun lv iv wr => ∃ k : Nat, k ≤ n ∧ iv = .int .i64 k ∧ (∃ A' c', lv = .slice A' (pickB ks (l.take k)).length c' ∧ wr.ownsRow w1.heap.size 161 2 (.slice A' (pickB ks (l.take k)).length c') (pickB ks (l.take k)).length (bals (pickB ks (l.take k)))) ∧ Below w1.heap.size w1 wr) (fun _ iv _ => n - (intOf iv).toNat)
    case atStart => exact ⟨0, Nat.zero_le _, rfl, ⟨none, 0, rfl, World.ownsRow_nil _ _ _ _⟩, Below.refl _ _⟩
    case round =>
      obtain ⟨k, hk, rfl, ⟨A', c', rfl, hown⟩, hbel⟩ := hrel
      have hzr := hbel.size
      by_cases hlt : k < n
      · obtain ⟨ad, x, rfl, hb0, hx, p0, p1⟩ := (HRR.out.far hbel (by omega)).bal hlt
        have p1' := cell_behind (j := 1) p1 (by omega)
        have hkI : (k : Int) < (n : Int) := by omega
        have hpl : (pickB ks (l.take k)).length ≤ k := filter_len l k
        obtain ⟨W3, hW3⟩ : ∃ W3, wr.alloc (.cells #[.int .i64 x.acct, .int .i64 x.amt] 161) = W3 := ⟨_, rfl⟩
        have hz3 : W3.heap.size = wr.heap.size + 1 := by rw [← hW3]; simp
        have hb3 : Below wr.heap.size wr W3 := by rw [← hW3]; exact (Below.refl _ _).alloc (Nat.le_refl _) _
        have kh := have_any ks x A1 m c1 w1.heap.size W3 ((HK1.out.below hbel).far hb3 hzr) (by omega) (by omega) HS.out
        have KH := Lib.hid kh
        have hown3 := own_kept hown fun q hq _ => hb3.block q hq
        have HO3 := Lib.hid hown3
        have HB3 := Lib.hid (hbel.trans (hb3.mono hzr))
        have HW3 := Lib.hid hW3
        have HY := Lib.hid (filter_yes (p := fun x => ks.contains x.acct) hx)
        have HN := Lib.hid (filter_no (p := fun x => ks.contains x.acct) hx)
        have HP : Hid (∀ l', pickB ks l' = l'.filter fun x => ks.contains x.acct) := fun _ => rfl
        clear hown hbel hb3 hown3 kh hx hb0 hW3 p1
        obtain ⟨z, hz⟩ : ∃ z, ks.contains x.acct = z := ⟨_, rfl⟩
        rw [hz] at KH
        have HZ := Lib.hid hz
        clear hz
        obtain ⟨x1, x2⟩ := x
        dsimp only at *
        go_wp2_with fail
        rw [HW3.out]
        refine KH.out.mono ?_
        rintro e w4 ⟨rfl, hb4⟩
        have hown4 := own_kept HO3.out fun q hq _ => hb4.block q hq
        have hz4 := hb4.size
        have HB4 := Lib.hid (HB3.out.trans (hb4.mono (by omega)))
        have hc30 : W3.cell? ⟨wr.heap.size, 0, none⟩ = some (.int .i64 x1) := by rw [← HW3.out, cell_of (heap_new wr _)]; rfl
        have hc31 : W3.cell? ⟨wr.heap.size, 1, none⟩ = some (.int .i64 x2) := by rw [← HW3.out, cell_of (heap_new wr _)]; rfl
        have hc40 : w4.cell? ⟨wr.heap.size, 0, none⟩ = some (.int .i64 x1) := by rw [hb4.cell (by show wr.heap.size < _; omega)]; exact hc30
        have hc41 : w4.cell? ⟨wr.heap.size, 1, none⟩ = some (.int .i64 x2) := by rw [hb4.cell (by show wr.heap.size < _; omega)]; exact hc31
        have HO4 := Lib.hid hown4
        clear hb4 hc30 hc31 KH
        cases z
        · clear hown4
          have HN2 : Hid (pickB ks (l.take (k + 1)) = pickB ks (l.take k)) := by rw [Hid, HP.out, HP.out]; exact HN.out HZ.out
          go_wp2_with fail
          refine ⟨⟨k + 1, by omega, by go_num, ⟨A', c', ?_, ?_⟩, HB4.out⟩, by simp [intOf]; omega⟩
          · rw [HN2.out]
          · rw [HN2.out]; exact HO4.out
        · have HY2 : Hid (pickB ks (l.take (k + 1)) = pickB ks (l.take k) ++ [⟨x1, x2⟩]) := by rw [Hid, HP.out, HP.out]; exact HY.out HZ.out
          obtain ⟨v7, w7, hrun, hown7, _, hb7, _⟩ := append_bal1 ⟨x1, x2⟩ hown4 (by omega) (by omega)
          obtain ⟨A7, c7, rfl⟩ := own_form hown7
          have HO7 := Lib.hid hown7
          have HB7 := Lib.hid (HB4.out.trans hb7)
          have HLL : Hid ((pickB ks (l.take k) ++ [(⟨x1, x2⟩ : Bal)]).length = (pickB ks (l.take k)).length + 1) := by simp [Hid]
          dsimp only at hrun
          clear hown4 hown7 hb7
          go_wp2_with (at_builtin; refine Lib.wpList_append_run _ rfl _ _ _ _ rfl _ _ rfl rfl _ _ (hrun _) ?_)
          refine ⟨⟨k + 1, by omega, by go_num, ⟨A7, c7, ?_, ?_⟩, HB7.out⟩, by simp [intOf]; omega⟩
          · rw [HY2.out, HLL.out]
          · rw [HY2.out, HLL.out]; exact HO7.out
      · have hkn : k = n := by omega
        have e : l.take k = l := List.take_of_length_le (by rw [HL.out]; omega)
        rw [e] at hown ⊢
        have HO := Lib.hid (own_base hown hz1)
        have HBW := Lib.hid (HB1.out.trans (hbel.mono hz1))
        clear hown hbel e
        go_wp2_with fail
        go_ret
        exact ⟨A', c', rfl, HO.out, HBW.out⟩

/-- The kind of an account; 0: none. -/
def kindA (C : List Acc) (x : Int) : Int := ((findA C x).getD acc0).kind
theorem findA_some {C : List Acc} (hg : GoodA C) {a : Acc} (ha : a ∈ C) : findA C a.code = some a := by
  obtain ⟨k, hk⟩ := List.mem_iff_getElem?.1 ha
  cases hf : findA C a.code with
  | none =>
    unfold findA at hf
    rw [List.find?_eq_none] at hf
    have := hf a ha
    simp at this
  | some b =>
    have hb : b.code = a.code := by unfold findA at hf; simpa using List.find?_some hf
    have hbm : b ∈ C := by unfold findA at hf; exact List.mem_of_find?_eq_some hf
    obtain ⟨q, hq⟩ := List.mem_iff_getElem?.1 hbm
    rcases Nat.lt_trichotomy k q with h | h | h
    · have := rise_ltCh hg.1 h hk hq; omega
    · subst h; rw [hk] at hq; exact hq.symm
    · have := rise_ltCh hg.1 h hq hk; omega
theorem kindL_contains {C : List Acc} (hg : GoodA C) (ks : List Int) (x : Int) : (kindL C ks).contains x = (decide (0 < kindA C x) && ks.contains (kindA C x)) := by
  rw [Bool.eq_iff_iff]
  unfold kindL
  simp only [List.contains_iff_mem, List.mem_map, List.mem_filter, Bool.and_eq_true, decide_eq_true_eq]
  constructor
  · rintro ⟨a, ⟨ha, hk⟩, rfl⟩
    have hf := findA_some hg ha
    have ho := okRow_t (hg.2 a ha)
    unfold kindA
    rw [hf]
    exact ⟨by show 0 < a.kind; omega, hk⟩
  · rintro ⟨h0, hk⟩
    cases hf : findA C x with
    | none => unfold kindA at h0; rw [hf] at h0; exact absurd h0 (by decide)
    | some a =>
      have ha : a ∈ C := by unfold findA at hf; exact List.mem_of_find?_eq_some hf
      have hc : a.code = x := by unfold findA at hf; simpa using List.find?_some hf
      unfold kindA at hk
      rw [hf] at hk
      exact ⟨a, ⟨ha, hk⟩, hc⟩
theorem kindA_le {C : List Acc} (hg : GoodA C) (x : Int) : 0 ≤ kindA C x ∧ kindA C x ≤ 5 := by
  unfold kindA
  cases hf : findA C x with
  | none => exact ⟨Int.le_refl _, by decide⟩
  | some a =>
    have ha : a ∈ C := by unfold findA at hf; exact List.mem_of_find?_eq_some hf
    have ho := okRow_t (hg.2 a ha)
    exact ⟨by show 0 ≤ a.kind; omega, by show a.kind ≤ 5; omega⟩
theorem kindL_all5 {C : List Acc} (hg : GoodA C) (x : Int) : (kindL C [1, 2, 3, 4, 5]).contains x = decide (0 < kindA C x) := by
  rw [kindL_contains hg]
  obtain ⟨h0, h5⟩ := kindA_le hg x
  by_cases h : 0 < kindA C x
  · rw [decide_eq_true h]
    have : kindA C x = 1 ∨ kindA C x = 2 ∨ kindA C x = 3 ∨ kindA C x = 4 ∨ kindA C x = 5 := by omega
    rcases this with e | e | e | e | e <;> rw [e] <;> rfl
  · rw [decide_eq_false h]; rfl
theorem kindL_rise {C : List Acc} (hg : GoodA C) (ks : List Int) : (kindL C ks).Pairwise (· < ·) := by
  unfold kindL
  rw [List.pairwise_map]
  exact hg.1.sublist List.filter_sublist
end Go.Proofs.YtjlokkjbdgcooaaGreat

/-
  Contracts of the reference of chapter 10: Plain, Lines.
-/
namespace Go.Proofs.YtjlokkjbdgcooaaGreat
open Mo
open Go.RowKit

def plainL (l : List Bal) : List Bal := if (l.all fun x => fits1 x.amt) = true then l.filter fun x => x.amt != 0 else []
theorem plain_yes {l : List Bal} {k : Nat} {a : Bal} (h : l[k]? = some a) (h0 : ((l.take k).all fun x => fits1 x.amt) = true) (h1 : fits1 a.amt = true) : ((l.take (k + 1)).all fun x => fits1 x.amt) = true := by
  obtain ⟨hk, rfl⟩ := List.getElem?_eq_some_iff.1 h
  rw [List.take_succ_eq_append_getElem hk, List.all_append, h0]
  simpa using h1
theorem plain_no {l : List Bal} {k : Nat} {a : Bal} (h : l[k]? = some a) (h1 : fits1 a.amt = false) : (l.all fun x => fits1 x.amt) = false := by
  rw [List.all_eq_false]
  exact ⟨a, List.mem_of_getElem? h, by rw [h1]; decide⟩
set_option maxRecDepth 100000 in
set_option maxHeartbeats 2000000 in
theorem refPlain_any (l : List Bal) (A : Option Addr) (n c B : Nat) (w : World) (h : Rd w B 2 A n (bals l)) (hB : B ≤ w.heap.size) (hn : n ≤ 1000000) :
    Calls Tryz.prog 116 #[.slice A n c] w fun e w' => ∃ A' c', e = .returned (.tuple #[.slice A' (plainL l).length c', .bool (l.all fun x => fits1 x.amt)]) ∧ w'.ownsRow w.heap.size 161 2 (.slice A' (plainL l).length c') (plainL l).length (bals (plainL l)) ∧ Below w.heap.size w w' := by
  have HL := Lib.hid h.bals_len
  have HR := Lib.hid h
  obtain ⟨z, hz⟩ : ∃ z, (l.all fun x => fits1 x.amt) = z := ⟨_, rfl⟩
  have HP : Hid (plainL l = if z = true then l.filter fun x => x.amt != 0 else []) := by rw [Hid, ← hz]; rfl
  obtain ⟨P, hP⟩ : ∃ P, plainL l = P := ⟨_, rfl⟩
  rw [hz, hP]
  rw [hP] at HP
  have HZ := Lib.hid hz
  clear h hz hP
  go_enter Tryz.func116, Tryz.ntmps116
  go_wp2_with fail
  go_loopw [4, 5] (fun lv iv wr => ∃ k : Nat, k ≤ n ∧ iv = .int .i64 k ∧ Hid (((l.take k).all fun x => fits1 x.amt) = true) ∧ (∃ A' c', lv = .slice A' ((l.take k).filter fun x => x.amt != 0).length c' ∧ wr.ownsRow w.heap.size 161 2 (.slice A' ((l.take k).filter fun x => x.amt != 0).length c') ((l.take k).filter fun x => x.amt != 0).length (bals ((l.take k).filter fun x => x.amt != 0))) ∧ Below w.heap.size w wr) (fun _ iv _ => n - (intOf iv).toNat)
  case atStart => exact ⟨0, Nat.zero_le _, rfl, by simp [Hid], ⟨none, 0, rfl, World.ownsRow_nil _ _ _ _⟩, Below.refl _ _⟩
  case round =>
    obtain ⟨k, hk, rfl, HF, ⟨A', c', rfl, hown⟩, hbel⟩ := hrel
    have hzr := hbel.size
    have HBE := Lib.hid hbel
    have hl1 := filter_len (p := fun x => x.amt != 0) l k
    obtain ⟨M, hM⟩ : ∃ M, ((l.take k).filter fun x => x.amt != 0) = M := ⟨_, rfl⟩
    rw [hM] at hown hl1 ⊢
    by_cases hlt : k < n
    · obtain ⟨ad, x, rfl, hb0, hx, p0, p1⟩ := (HR.out.far hbel hB).bal hlt
      have p1' := cell_behind (j := 1) p1 (by omega)
      have hkI : (k : Int) < (n : Int) := by omega
      have hY := filter_yes (p := fun x => x.amt != 0) hx
      have hN := filter_no (p := fun x => x.amt != 0) hx
      rw [hM] at hY hN
      have HY := Lib.hid hY; have HN := Lib.hid hN
      have HX := Lib.hid hx
      have kf := Lib.hid (refFits_any x.amt wr)
      have HFY := Lib.hid (plain_yes hx HF.out)
      have HFN := Lib.hid (plain_no hx)
      have HO := Lib.hid hown
      clear hx hY hN hM hbel
      obtain ⟨f, hf⟩ : ∃ f, fits1 x.amt = f := ⟨_, rfl⟩
      rw [hf] at kf HFY HFN
      obtain ⟨x1, x2⟩ := x
      dsimp only at *
      clear p1
      cases f
      · have HZF : Hid (z = false) := HZ.out.symm.trans (HFN.out rfl)
        clear hown
        go_wp2_with fail
        refine kf.out.mono ?_
        rintro e w2 ⟨rfl, rfl⟩
        go_wp2_with fail
        go_ret2
        have hp := HP.out
        rw [HZF.out] at hp ⊢
        rw [if_neg (by decide)] at hp
        subst hp
        exact ⟨none, 0, rfl, World.ownsRow_nil _ _ _ _, HBE.out⟩
      · have HF2 := Lib.hid (HFY.out rfl)
        by_cases h0 : x2 = 0
        · have HE := Lib.hid (HN.out (by show (x2 != 0) = false; rw [h0]; rfl))
          have H0 := Lib.hid h0
          subst h0
          clear hown
          go_wp2_with fail
          refine kf.out.mono ?_
          rintro e w2 ⟨rfl, rfl⟩
          go_wp2_with fail
          refine ⟨⟨k + 1, by omega, by go_num, HF2.out, ⟨A', c', ?_, ?_⟩, HBE.out⟩, by simp [intOf]; omega⟩
          · rw [HE.out]
          · rw [HE.out]; exact HO.out
        · have h0b : (x2 != 0) = true := by simpa using h0
          have HE := Lib.hid (HY.out h0b)
          obtain ⟨v7, w7, hrun, hown7, _, hb7, _⟩ := append_bal1 ⟨x1, x2⟩ hown hzr (by omega)
          obtain ⟨A7, c7, rfl⟩ := own_form hown7
          have HO7 := Lib.hid hown7
          have HB7 := Lib.hid (HBE.out.trans hb7)
          have HLL : Hid ((M ++ [(⟨x1, x2⟩ : Bal)]).length = M.length + 1) := by simp [Hid]
          dsimp only at hrun
          clear hown hown7 hb7
          go_wp2_with fail
          refine kf.out.mono ?_
          rintro e w2 ⟨rfl, rfl⟩
          go_wp2_with (at_builtin; refine Lib.wpList_append_run _ rfl _ _ _ _ rfl _ _ rfl rfl _ _ (hrun _) ?_)
          refine ⟨⟨k + 1, by omega, by go_num, HF2.out, ⟨A7, c7, ?_, ?_⟩, HB7.out⟩, by simp [intOf]; omega⟩
          · rw [HE.out, HLL.out]
          · rw [HE.out, HLL.out]; exact HO7.out
    · have htk : l.take k = l := List.take_of_length_le (by rw [HL.out]; omega)
      have hf := HF.out
      rw [htk] at hM hf
      have hzt : z = true := HZ.out.symm.trans hf
      have hp := HP.out
      rw [hzt, if_pos rfl, hM] at hp
      subst hp
      have HO := Lib.hid hown
      have HZT := Lib.hid hzt
      clear hown hbel hM htk hf hzt
      go_wp2_with fail
      go_ret2
      exact ⟨A', c', by rw [HZT.out]; rfl, HO.out, HBE.out⟩
end Go.Proofs.YtjlokkjbdgcooaaGreat
