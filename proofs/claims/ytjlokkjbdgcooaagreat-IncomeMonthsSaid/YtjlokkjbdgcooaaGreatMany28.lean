/-
  Several texts, one behind the other: what each holds stands ahead of it.
-/
import Derived.Test.YtjlokkjbdgcooaaGreatMany27
import Derived.Test.YtjlokkjbdgcooaaGreatMany19
import Derived.BigQuiet
import Derived.Test.YtjlokkjbdgcooaaGreatMany2

/-
  Contract of the reference's Put of chapter 10: an amount at its account.
-/
namespace Go.Proofs.YtjlokkjbdgcooaaGreat
open Mo
open Go.RowKit

def putM : List Bal → Int → Int → List Bal
  | [], a, x => [⟨a, x⟩]
  | b :: r, a, x => if b.acct = a then ⟨b.acct, b.amt + x⟩ :: r else if a < b.acct then ⟨a, x⟩ :: b :: r else b :: putM r a x
theorem putM_len : ∀ (l : List Bal) (a x : Int), (putM l a x).length ≤ l.length + 1
  | [], _, _ => by simp [putM]
  | b :: r, a, x => by
    have := putM_len r a x
    unfold putM
    split
    · simp
    · split <;> simp; omega
theorem putM_sum (c : Int) : ∀ (l : List Bal) (a x : Int), sumB c (putM l a x) = sumB c l + (if a = c then x else 0)
  | [], a, x => by simp [putM, sumB]
  | b :: r, a, x => by
    have ih := putM_sum c r a x
    unfold putM
    by_cases h1 : b.acct = a
    · rw [if_pos h1]
      simp only [sumB, h1]
      split <;> omega
    · rw [if_neg h1]
      by_cases h2 : a < b.acct
      · rw [if_pos h2]
        simp only [sumB]
        omega
      · rw [if_neg h2]
        simp only [sumB, ih]
        omega
theorem putM_mem : ∀ {l : List Bal} {a x : Int} {y : Bal}, y ∈ putM l a x → y.acct = a ∨ y ∈ l
  | [], a, x, y, h => by simp [putM] at h; exact .inl (by rw [h])
  | b :: r, a, x, y, h => by
    unfold putM at h
    split at h
    · rename_i h1
      rcases List.mem_cons.1 h with rfl | h
      · exact .inl h1
      · exact .inr (List.mem_cons_of_mem _ h)
    · split at h
      · rcases List.mem_cons.1 h with rfl | h
        · exact .inl rfl
        · exact .inr h
      · rcases List.mem_cons.1 h with rfl | h
        · exact .inr (List.mem_cons_self ..)
        · rcases putM_mem h with h | h
          · exact .inl h
          · exact .inr (List.mem_cons_of_mem _ h)
theorem putM_rise : ∀ {l : List Bal} (a x : Int), (l.Pairwise fun p q => p.acct < q.acct) → (putM l a x).Pairwise fun p q => p.acct < q.acct
  | [], _, _, _ => by simp [putM]
  | b :: r, a, x, h => by
    rw [List.pairwise_cons] at h
    unfold putM
    split
    · exact List.pairwise_cons.2 ⟨h.1, h.2⟩
    · rename_i h1
      split
      · rename_i h2
        refine List.pairwise_cons.2 ⟨fun y hy => ?_, List.pairwise_cons.2 h⟩
        rcases List.mem_cons.1 hy with rfl | hy
        · exact h2
        · have := h.1 y hy
          show a < y.acct
          omega
      · rename_i h2
        refine List.pairwise_cons.2 ⟨fun y hy => ?_, putM_rise a x h.2⟩
        rcases putM_mem hy with e | hy
        · rw [e]; omega
        · exact h.1 y hy

/-- What is still to come behind a place. -/
def restM (d : Bool) (l : List Bal) (k : Nat) (a x : Int) : List Bal := if d = true then l.drop k else putM (l.drop k) a x
theorem restM_done {l : List Bal} {k : Nat} {a x : Int} {b : Bal} (h : l[k]? = some b) : restM true l k a x = b :: restM true l (k + 1) a x := by
  obtain ⟨hk, rfl⟩ := List.getElem?_eq_some_iff.1 h
  unfold restM
  rw [if_pos rfl, if_pos rfl, List.drop_eq_getElem_cons hk]
theorem restM_at {l : List Bal} {k : Nat} {a x : Int} {b : Bal} (h : l[k]? = some b) (e : b.acct = a) : restM false l k a x = ⟨b.acct, b.amt + x⟩ :: restM true l (k + 1) a x := by
  obtain ⟨hk, rfl⟩ := List.getElem?_eq_some_iff.1 h
  unfold restM
  rw [if_neg (by decide), if_pos rfl, List.drop_eq_getElem_cons hk, putM, if_pos e]
theorem restM_over {l : List Bal} {k : Nat} {a x : Int} {b : Bal} (h : l[k]? = some b) (e : ¬ b.acct = a) (e2 : a < b.acct) : restM false l k a x = ⟨a, x⟩ :: b :: restM true l (k + 1) a x := by
  obtain ⟨hk, rfl⟩ := List.getElem?_eq_some_iff.1 h
  unfold restM
  rw [if_neg (by decide), if_pos rfl, List.drop_eq_getElem_cons hk, putM, if_neg e, if_pos e2]
theorem restM_under {l : List Bal} {k : Nat} {a x : Int} {b : Bal} (h : l[k]? = some b) (e : ¬ b.acct = a) (e2 : ¬ a < b.acct) : restM false l k a x = b :: restM false l (k + 1) a x := by
  obtain ⟨hk, rfl⟩ := List.getElem?_eq_some_iff.1 h
  unfold restM
  rw [if_neg (by decide), if_neg (by decide), List.drop_eq_getElem_cons hk, putM, if_neg e, if_neg e2]
theorem restM_end {l : List Bal} {k : Nat} {a x : Int} (h : l.length ≤ k) : restM true l k a x = [] ∧ restM false l k a x = [⟨a, x⟩] := by
  unfold restM
  rw [List.drop_eq_nil_of_le h]
  exact ⟨rfl, rfl⟩

set_option maxRecDepth 100000 in
set_option maxHeartbeats 4000000 in
theorem refPutB_any (l : List Bal) (a x : Int) (A : Option Addr) (n c B : Nat) (w : World) (h : Rd w B 2 A n (bals l)) (hB : B ≤ w.heap.size) (hn : n ≤ 100000)
    (hs : ∀ b ∈ l, -4000000000000000000 ≤ b.amt ∧ b.amt ≤ 4000000000000000000) (hx1 : -1000000000000000000 ≤ x) (hx2 : x ≤ 1000000000000000000) :
    Calls Tryz.prog 115 #[.slice A n c, .int .i64 a, .int .i64 x] w (PickEnd w (putM l a x)) := by
  have HL := Lib.hid h.bals_len
  have HR := Lib.hid h
  have HS := Lib.hid hs
  obtain ⟨P, hP⟩ : ∃ P, putM l a x = P := ⟨_, rfl⟩
  have HP0 : Hid ([] ++ restM false l 0 a x = P) := hP
  rw [hP]
  clear h hs hP
  go_enter Tryz.func115, Tryz.ntmps115
  go_wp2_with fail
  go_loopw [7, 8, 9] (fun lv dv iv wr => ∃ k : Nat, k ≤ n ∧ iv = .int .i64 k ∧ (∃ d O A' c', dv = .bool d ∧ lv = .slice A' (List.length O) c' ∧ List.length O ≤ k + (if d = true then 1 else 0) ∧ Hid (O ++ restM d l k a x = P) ∧ wr.ownsRow w.heap.size 161 2 (.slice A' (List.length O) c') (List.length O) (bals O)) ∧ Below w.heap.size w wr) (fun _ _ iv _ => n - (intOf iv).toNat)
  case atStart => exact ⟨0, Nat.zero_le _, rfl, ⟨false, [], none, 0, rfl, rfl, by simp, HP0.out, World.ownsRow_nil _ _ _ _⟩, Below.refl _ _⟩
  case round =>
    obtain ⟨k, hk, rfl, ⟨d, O, A', c', rfl, rfl, hOl, HI, hown⟩, hbel⟩ := hrel
    have hzr := hbel.size
    have HBE := Lib.hid hbel
    by_cases hlt : k < n
    · obtain ⟨ad, b, rfl, hb0, hx, p0, p1⟩ := (HR.out.far hbel hB).bal hlt
      have p1' := cell_behind (j := 1) p1 (by omega)
      have hkI : (k : Int) < (n : Int) := by omega
      have HBS := HS.out b (List.mem_of_getElem? hx)
      have HX := Lib.hid hx
      obtain ⟨W3, hW3⟩ : ∃ W3, wr.alloc (.cells #[.int .i64 b.acct, .int .i64 b.amt] 161) = W3 := ⟨_, rfl⟩
      have hz3 : W3.heap.size = wr.heap.size + 1 := by rw [← hW3]; simp
      have hb3 : Below w.heap.size wr W3 := by rw [← hW3]; exact (Below.refl _ _).alloc hzr _
      have hown3 : W3.ownsRow w.heap.size 161 2 (.slice A' (List.length O) c') (List.length O) (bals O) := by rw [← hW3]; exact own_kept hown fun q hq _ => Below.heap_alloc wr _ _ hq
      have HB3 := Lib.hid (HBE.out.trans hb3)
      have HLL : Hid (∀ y : Bal, (O ++ [y]).length = O.length + 1) := fun y => by simp
      have hlown : ∀ q, (Value.slice A' (List.length O) c').ownBlock = some q → q < wr.heap.size := own_lt hown
      have hc0 : W3.cell? ⟨wr.heap.size, 0, none⟩ = some (.int .i64 b.acct) := by rw [← hW3, cell_of (heap_new wr _)]; rfl
      have hc1 : W3.cell? ⟨wr.heap.size, 1, none⟩ = some (.int .i64 b.amt) := by rw [← hW3, cell_of (heap_new wr _)]; rfl
      have HC0 := Lib.hid hc0; have HC1 := Lib.hid hc1
      have HO0 := Lib.hid hown
      have HW3 := Lib.hid hW3
      clear hx p1 hown hbel hb3 hc0 hc1 hW3
      obtain ⟨b1, b2⟩ := b
      dsimp only at *
      cases d
      · rw [if_neg (by decide)] at hOl
        by_cases e1 : b1 = a
        · have HI2 : Hid ((O ++ [⟨b1, b2 + x⟩]) ++ restM true l (k + 1) a x = P) := by
            have h := HI.out
            rw [restM_at HX.out e1] at h
            rw [Hid, List.append_assoc]; exact h
          obtain ⟨W4, hW4⟩ : ∃ W4, wr.alloc (.cells #[.int .i64 b1, .int .i64 (b2 + x)] 161) = W4 := ⟨_, rfl⟩
          have hz4 : W4.heap.size = wr.heap.size + 1 := by rw [← hW4]; simp
          have hb4 : Below wr.heap.size wr W4 := by rw [← hW4]; exact (Below.refl _ _).alloc (Nat.le_refl _) _
          have hown4 : W4.ownsRow w.heap.size 161 2 (.slice A' (List.length O) c') (List.length O) (bals O) := own_kept HO0.out fun q hq _ => hb4.block q hq
          obtain ⟨v7, w7, hrun, hown7, _, hb7, _⟩ := append_bal1 ⟨b1, b2 + x⟩ hown4 (by omega) (by omega)
          obtain ⟨A7, c7, rfl⟩ := own_form hown7
          have HO7 := Lib.hid hown7
          have HB7 := Lib.hid ((HBE.out.trans (hb4.mono hzr)).trans hb7)
          dsimp only at hrun
          rw [hz4] at hrun
          rw [← hW4] at hrun
          have w1 : -9223372036854775808 ≤ b2 + x := by omega
          have w2 : b2 + x ≤ 9223372036854775807 := by omega
          subst e1
          clear hown3 hown4 hown7 hb7 hb4 hW4 hz4
          go_wp2_with (at_builtin; refine Lib.wpList_append_run _ rfl _ _ _ _ rfl _ _ rfl rfl _ _ (hrun _) ?_)
          refine ⟨⟨k + 1, by omega, by go_num, ⟨true, O ++ [⟨b1, b2 + x⟩], A7, c7, rfl, ?_, ?_, HI2, ?_⟩, HB7.out⟩, by simp [intOf]; omega⟩
          · rw [HLL.out]
          · rw [HLL.out]; simp; omega
          · rw [HLL.out]; exact HO7.out
        · have e1b : (b1 == a) = false := by simpa using e1
          by_cases e2 : a < b1
          · have HI2 : Hid ((O ++ [⟨a, x⟩] ++ [⟨b1, b2⟩]) ++ restM true l (k + 1) a x = P) := by
              have h := HI.out
              rw [restM_over HX.out e1 e2] at h
              rw [Hid, List.append_assoc, List.append_assoc]; exact h
            obtain ⟨v7, w7, hrun7, hown7, hbut7, hb7, _⟩ := append_bal1 ⟨a, x⟩ hown3 (by omega) (by omega)
            obtain ⟨A7, c7, rfl⟩ := own_form hown7
            have hbk : w7.heap[wr.heap.size]? = W3.heap[wr.heap.size]? := hbut7.block _ (by omega) fun e => by have := hlown _ e; omega
            have hd0 : w7.cell? ⟨wr.heap.size, 0, none⟩ = some (.int .i64 b1) := (World.cell?_of_block (w := W3) hbk).trans HC0.out
            have hd1 : w7.cell? ⟨wr.heap.size, 1, none⟩ = some (.int .i64 b2) := (World.cell?_of_block (w := W3) hbk).trans HC1.out
            have hz7 := hbut7.size
            have hlen7 : (O ++ [(⟨a, x⟩ : Bal)]).length = O.length + 1 := HLL.out _
            have hown7' : w7.ownsRow w.heap.size 161 2 (.slice A7 (O.length + 1) c7) (O.length + 1) (bals (O ++ [⟨a, x⟩])) := hown7
            obtain ⟨v8, w8, hrun8, hown8, _, hb8, _⟩ := append_bal1 ⟨b1, b2⟩ hown7' (by omega) (by omega)
            obtain ⟨A8, c8, rfl⟩ := own_form hown8
            have HO8 := Lib.hid hown8
            have HB8 := Lib.hid ((HB3.out.trans hb7).trans hb8)
            have HL2 : Hid ((O ++ [(⟨a, x⟩ : Bal)] ++ [(⟨b1, b2⟩ : Bal)]).length = O.length + 1 + 1) := by rw [Hid, List.length_append, HLL.out]; rfl
            dsimp only at hrun7 hrun8
            rw [hz3] at hrun7
            rw [← HW3.out] at hrun7
            clear hown3 hown7 hown7' hown8 hb7 hb8 hbut7 hbk hlen7
            go_wp2_with (at_builtin; first | (refine Lib.wpList_append_run _ rfl _ _ _ _ rfl _ _ rfl rfl _ _ (hrun7 _) ?_; clear hrun7) | refine Lib.wpList_append_run _ rfl _ _ _ _ rfl _ _ rfl rfl _ _ (hrun8 _) ?_)
            refine ⟨⟨k + 1, by omega, by go_num, ⟨true, O ++ [⟨a, x⟩] ++ [⟨b1, b2⟩], A8, c8, rfl, ?_, ?_, HI2, ?_⟩, HB8.out⟩, by simp [intOf]; omega⟩
            · rw [HL2.out]
            · rw [HL2.out]; simp; omega
            · rw [HL2.out]; exact HO8.out
          · have HI2 : Hid ((O ++ [⟨b1, b2⟩]) ++ restM false l (k + 1) a x = P) := by
              have h := HI.out
              rw [restM_under HX.out e1 e2] at h
              rw [Hid, List.append_assoc]; exact h
            obtain ⟨v7, w7, hrun, hown7, _, hb7, _⟩ := append_bal1 ⟨b1, b2⟩ hown3 (by omega) (by omega)
            obtain ⟨A7, c7, rfl⟩ := own_form hown7
            have HO7 := Lib.hid hown7
            have HB7 := Lib.hid (HB3.out.trans hb7)
            dsimp only at hrun
            rw [hz3] at hrun
            rw [← HW3.out] at hrun
            clear hown3 hown7 hb7
            go_wp2_with (at_builtin; refine Lib.wpList_append_run _ rfl _ _ _ _ rfl _ _ rfl rfl _ _ (hrun _) ?_)
            refine ⟨⟨k + 1, by omega, by go_num, ⟨false, O ++ [⟨b1, b2⟩], A7, c7, rfl, ?_, ?_, HI2, ?_⟩, HB7.out⟩, by simp [intOf]; omega⟩
            · rw [HLL.out]
            · rw [HLL.out]; simp; omega
            · rw [HLL.out]; exact HO7.out
      · rw [if_pos rfl] at hOl
        have HI2 : Hid ((O ++ [⟨b1, b2⟩]) ++ restM true l (k + 1) a x = P) := by
          have h := HI.out
          rw [restM_done HX.out] at h
          rw [Hid, List.append_assoc]; exact h
        obtain ⟨v7, w7, hrun, hown7, _, hb7, _⟩ := append_bal1 ⟨b1, b2⟩ hown3 (by omega) (by omega)
        obtain ⟨A7, c7, rfl⟩ := own_form hown7
        have HO7 := Lib.hid hown7
        have HB7 := Lib.hid (HB3.out.trans hb7)
        dsimp only at hrun
        rw [hz3] at hrun
        rw [← HW3.out] at hrun
        clear hown3 hown7 hb7
        go_wp2_with (at_builtin; refine Lib.wpList_append_run _ rfl _ _ _ _ rfl _ _ rfl rfl _ _ (hrun _) ?_)
        refine ⟨⟨k + 1, by omega, by go_num, ⟨true, O ++ [⟨b1, b2⟩], A7, c7, rfl, ?_, ?_, HI2, ?_⟩, HB7.out⟩, by simp [intOf]; omega⟩
        · rw [HLL.out]
        · rw [HLL.out]; simp; omega
        · rw [HLL.out]; exact HO7.out
    · have hge : List.length l ≤ k := by rw [HL.out]; omega
      obtain ⟨g1, g2⟩ := restM_end (a := a) (x := x) hge
      cases d
      · have HI2 : Hid (O ++ [⟨a, x⟩] = P) := by
          have h := HI.out
          rw [g2] at h
          exact h
        obtain ⟨v7, w7, hrun, hown7, _, hb7, _⟩ := append_bal1 ⟨a, x⟩ hown hzr (by rw [if_neg (by decide)] at hOl; omega)
        obtain ⟨A7, c7, rfl⟩ := own_form hown7
        have HO7 := Lib.hid hown7
        have HB7 := Lib.hid (HBE.out.trans hb7)
        have HLL : Hid ((O ++ [(⟨a, x⟩ : Bal)]).length = O.length + 1) := by simp [Hid]
        dsimp only at hrun
        clear hown hown7 hb7 hbel g1 g2 hge hOl
        go_wp2_with (at_builtin; refine Lib.wpList_append_run _ rfl _ _ _ _ rfl _ _ rfl rfl _ _ (hrun _) ?_)
        go_ret
        refine ⟨A7, c7, ?_, ?_, HB7.out⟩
        · rw [← HI2.out, HLL.out]; rfl
        · rw [← HI2.out, HLL.out]; exact HO7.out
      · have HI2 : Hid (O = P) := by
          have h := HI.out
          rw [g1, List.append_nil] at h
          exact h
        have HO7 := Lib.hid hown
        clear hown hbel g1 g2 hge hOl
        go_wp2_with fail
        go_ret
        refine ⟨A', c', ?_, ?_, HBE.out⟩
        · rw [← HI2.out]; rfl
        · rw [← HI2.out]; exact HO7.out
end Go.Proofs.YtjlokkjbdgcooaaGreat

/-
  Contracts of the reference of chapter 10: Lines, Right.
-/
namespace Go.Proofs.YtjlokkjbdgcooaaGreat
open Mo
open Go.RowKit

theorem covO_parts2 {o : OfT} {j : Jrn} : covO o j = (((!j.void && (j.ent == o.ent)) && decide (o.frm ≤ j.per)) && decide (j.per ≤ o.til)) := by
  unfold covO
  rw [show decide (j.ent = o.ent) = (j.ent == o.ent) by rw [Bool.eq_iff_iff]; simp]
set_option maxRecDepth 100000 in
set_option maxHeartbeats 4000000 in
theorem refLines_any (o : OfT) (X : List JR) (A : Option Addr) (n c B : Nat) (w : World) (h : JlRd w B A n X) (hB : B ≤ w.heap.size) (hn : n ≤ 1000) (h8 : ∀ a ∈ X, a.j.lines.length ≤ 8) :
    Calls Tryz.prog 114 #[.slice A n c, .int .i64 o.ent, .int .i64 o.frm, .int .i64 o.til] w fun e w' => ∃ A' c', e = .returned (.slice A' (gathL (pkL o) (X.map JR.j)).length c') ∧ w'.ownsRow w.heap.size 113 3 (.slice A' (gathL (pkL o) (X.map JR.j)).length c') (gathL (pkL o) (X.map JR.j)).length (lins (gathL (pkL o) (X.map JR.j))) ∧ Below w.heap.size w w' := by
  have HJ := Lib.hid h
  have H8 := Lib.hid h8
  have HL : Hid (X.length = n) := by have := h.rd.1; rw [jrs_len] at this; rw [Hid]; omega
  obtain ⟨M, hM⟩ : ∃ M, X.map JR.j = M := ⟨_, rfl⟩
  have HM := Lib.hid hM
  rw [hM]
  clear h h8 hM
  go_enter Tryz.func114, Tryz.ntmps114
  go_wp2_with fail
  go_loopw [9, 10] (fun lv iv wr => ∃ k : Nat, k ≤ n ∧ iv = .int .i64 k ∧ (∃ L A' c', lv = .slice A' (List.length L) c' ∧ List.length L ≤ 8 * k ∧ Hid (gathL (pkL o) (M.take k) = L) ∧ wr.ownsRow w.heap.size 113 3 (.slice A' (List.length L) c') (List.length L) (lins L)) ∧ Below w.heap.size w wr) (fun _ iv _ => n - (intOf iv).toNat)
  case atStart => exact ⟨0, Nat.zero_le _, rfl, ⟨[], none, 0, rfl, by simp, rfl, World.ownsRow_nil _ _ _ _⟩, Below.refl _ _⟩
  case round =>
    obtain ⟨k, hk, rfl, ⟨L, A', c', rfl, hLl, HI, hown⟩, hbel⟩ := hrel
    have hzr := hbel.size
    have HBE := Lib.hid hbel
    have HO := Lib.hid hown
    by_cases hlt : k < n
    · have hJr := HJ.out.far hbel hB
      obtain ⟨ad, a, rfl, hb0, hx, p0, p1, p2, p3, p4, p5⟩ := hJr.rd.jr hlt
      have hkI : (k : Int) < (n : Int) := by omega
      have hma := List.mem_of_getElem? hx
      have h8a := H8.out a hma
      have hMk : M[k]? = some a.j := by rw [← HM.out, List.getElem?_map, hx]; rfl
      have hST := gathL_step (pk := pkL o) hMk
      rw [HI.out] at hST
      have HST := Lib.hid hST
      have HCP := Lib.hid (covO_parts2 (o := o) (j := a.j))
      have HPK : Hid (pkL o a.j = if covO o a.j = true then a.j.lines else []) := rfl
      obtain ⟨v7, w7, hrun, hown7, hb7, _⟩ := append_linsG (c := a.c) hown (hJr.lines a hma) hzr (by omega)
      obtain ⟨A7, c7, rfl⟩ := own_form hown7
      have HO7 := Lib.hid hown7
      have HB7 := Lib.hid (hbel.trans hb7)
      clear hx hown hbel hown7 hb7 hb0 hma hMk hST hJr
      obtain ⟨⟨jid, jent, jper, jref, jl, void⟩, Aj, cj⟩ := a
      obtain ⟨oe, of, ot⟩ := o
      dsimp only at *
      have HLL : Hid ((L ++ jl).length = L.length + jl.length) := List.length_append
      have HLn : Hid (gathL (pkL ⟨oe, of, ot⟩) (M.take (k + 1)) = if covO ⟨oe, of, ot⟩ ⟨jid, jent, jper, jref, jl, void⟩ = true then L ++ jl else L) := by
        rw [Hid, HST.out, HPK.out]
        split
        · rfl
        · rw [List.append_nil]
      generalize jl.length = La at *
      cases void
      · by_cases e1 : jent = oe
        · have d1 : (jent == oe) = true := beq_iff_eq.2 e1
          by_cases e2 : of ≤ jper
          · by_cases e3 : jper ≤ ot
            · have HC : Hid (gathL (pkL ⟨oe, of, ot⟩) (M.take (k + 1)) = L ++ jl) := by rw [Hid, HLn.out, HCP.out, d1, decide_eq_true e2, decide_eq_true e3]; rfl
              have E1 := Lib.hid e1
              clear e1 HCP HLn HPK
              go_wp2_with (at_builtin; refine Lib.wpList_append_run _ rfl _ _ _ _ rfl _ _ rfl rfl _ _ (hrun _) ?_)
              refine ⟨⟨k + 1, by omega, by go_num, ⟨L ++ jl, A7, c7, ?_, ?_, HC, ?_⟩, HB7.out⟩, by simp [intOf]; omega⟩
              · rw [HLL.out]
              · rw [HLL.out]; omega
              · rw [HLL.out]; exact HO7.out
            · have HC : Hid (gathL (pkL ⟨oe, of, ot⟩) (M.take (k + 1)) = L) := by rw [Hid, HLn.out, HCP.out, d1, decide_eq_true e2, decide_eq_false e3]; rfl
              have E1 := Lib.hid e1
              clear e1 HCP hrun HLn HPK
              go_wp2_with fail
              exact ⟨⟨k + 1, by omega, by go_num, ⟨L, A', c', rfl, by omega, HC, HO.out⟩, HBE.out⟩, by simp [intOf]; omega⟩
          · have HC : Hid (gathL (pkL ⟨oe, of, ot⟩) (M.take (k + 1)) = L) := by rw [Hid, HLn.out, HCP.out, d1, decide_eq_false e2]; rfl
            have E1 := Lib.hid e1
            clear e1 HCP hrun HLn HPK
            go_wp2_with fail
            exact ⟨⟨k + 1, by omega, by go_num, ⟨L, A', c', rfl, by omega, HC, HO.out⟩, HBE.out⟩, by simp [intOf]; omega⟩
        · have d1 : (jent == oe) = false := beq_eq_false_iff_ne.2 e1
          have HC : Hid (gathL (pkL ⟨oe, of, ot⟩) (M.take (k + 1)) = L) := by rw [Hid, HLn.out, HCP.out, d1]; rfl
          have E1 := Lib.hid e1
          clear e1 HCP hrun HLn HPK
          go_wp2_with fail
          exact ⟨⟨k + 1, by omega, by go_num, ⟨L, A', c', rfl, by omega, HC, HO.out⟩, HBE.out⟩, by simp [intOf]; omega⟩
      · have HC : Hid (gathL (pkL ⟨oe, of, ot⟩) (M.take (k + 1)) = L) := by rw [Hid, HLn.out, HCP.out]; rfl
        clear HCP hrun HLn HPK
        go_wp2_with fail
        exact ⟨⟨k + 1, by omega, by go_num, ⟨L, A', c', rfl, by omega, HC, HO.out⟩, HBE.out⟩, by simp [intOf]; omega⟩
    · have e : M.take k = M := List.take_of_length_le (by rw [← HM.out, List.length_map, HL.out]; omega)
      have HI2 : Hid (gathL (pkL o) M = L) := by have h := HI.out; rw [e] at h; exact h
      clear hown hbel e
      go_wp2_with fail
      go_ret
      refine ⟨A', c', ?_, ?_, HBE.out⟩
      · rw [HI2.out]; rfl
      · rw [HI2.out]; exact HO.out

set_option maxRecDepth 100000 in
theorem refRight_any (o : OfT) (w : World) : Calls Tryz.prog 113 #[.int .i64 o.ent, .int .i64 o.frm, .int .i64 o.til] w fun e w' => e = .returned (.bool (mayO o)) ∧ w = w' := by
  obtain ⟨oe, of, ot⟩ := o
  have k1 := Lib.hid (refValid_any of w)
  have k2 := Lib.hid (refValid_any ot w)
  have HE : Hid (mayO ⟨oe, of, ot⟩ = (inB oe 1 9 && (okP of && okP ot) && decide (of ≤ ot))) := rfl
  obtain ⟨z, hz⟩ : ∃ z, mayO ⟨oe, of, ot⟩ = z := ⟨_, rfl⟩
  rw [hz] at HE ⊢
  clear hz
  dsimp only
  by_cases h1 : 1 ≤ oe
  · by_cases h2 : oe ≤ 9
    · have HI : Hid (inB oe 1 9 = true) := by unfold inB; simp [Hid]; omega
      obtain ⟨f, hf⟩ : ∃ f, okP of = f := ⟨_, rfl⟩
      obtain ⟨t, ht⟩ : ∃ t, okP ot = t := ⟨_, rfl⟩
      rw [hf] at k1
      rw [ht] at k2
      have HF : Hid (z = ((f && t) && decide (of ≤ ot))) := by rw [Hid, HE.out, HI.out, hf, ht]; rfl
      clear hf ht HE
      cases f
      · go_enter Tryz.func113, Tryz.ntmps113
        go_wp2_with fail
        refine k1.out.mono ?_
        rintro e w1 ⟨rfl, rfl⟩
        go_wp2_with fail
        go_ret
        exact ⟨by rw [HF.out]; rfl, rfl⟩
      · cases t
        · go_enter Tryz.func113, Tryz.ntmps113
          go_wp2_with fail
          refine k1.out.mono ?_
          rintro e w1 ⟨rfl, rfl⟩
          go_wp2_with fail
          refine k2.out.mono ?_
          rintro e w1 ⟨rfl, rfl⟩
          go_wp2_with fail
          go_ret
          exact ⟨by rw [HF.out]; rfl, rfl⟩
        · obtain ⟨d, hd⟩ : ∃ d, decide (of ≤ ot) = d := ⟨_, rfl⟩
          go_enter Tryz.func113, Tryz.ntmps113
          go_wp2_with fail
          refine k1.out.mono ?_
          rintro e w1 ⟨rfl, rfl⟩
          go_wp2_with fail
          refine k2.out.mono ?_
          rintro e w1 ⟨rfl, rfl⟩
          go_wp2_with fail
          go_ret
          exact ⟨by rw [HF.out, hd]; rfl, rfl⟩
    · have HI : Hid (z = false) := by rw [Hid, HE.out]; unfold inB; simp [h2]
      go_enter Tryz.func113, Tryz.ntmps113
      go_wp2_with fail
      go_ret
      exact ⟨by rw [HI.out]; rfl, rfl⟩
  · have HI : Hid (z = false) := by rw [Hid, HE.out]; unfold inB; simp [h1]
    go_enter Tryz.func113, Tryz.ntmps113
    go_wp2_with fail
    go_ret
    exact ⟨by rw [HI.out]; rfl, rfl⟩
end Go.Proofs.YtjlokkjbdgcooaaGreat
