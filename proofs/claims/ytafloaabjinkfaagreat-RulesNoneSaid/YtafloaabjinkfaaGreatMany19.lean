/-
  Several texts, one behind the other: what each holds stands ahead of it.
-/
import Derived.Test.YtafloaabjinkfaaGreatGatesSteps
import Derived.Laws.EntriesVeiled
import Derived.Test.YtafloaabjinkfaaGreatMany17

/-
  Contract of (*Gates).Set.
-/
namespace Go.Proofs.YtafloaabjinkfaaGreat
open Go.RowKit

theorem GatesTo.on {w w1 w' : World} {B c : Nat} {v : Value} {l : List Trio} (hb : Below w.heap.size w w1) (h : GatesTo w1 B c v l w') : GatesTo w B c v l w' := by
  obtain ⟨v', h1, h2, h3⟩ := h
  refine ⟨v', h1, (But.of_below hb).trans h2, fun k hk => ?_⟩
  rcases h3 k hk with h | h
  · exact .inl h
  · exact .inr (Nat.le_trans hb.size h)
theorem setE_bad {l : List Trio} {en pe s : Int} (h : okT en pe = false ∨ s < 0 ∨ 2 < s) : setE l en pe s = 1 ∧ setT l en pe s = l := by
  have : setE l en pe s = 1 := by
    unfold setE
    rw [if_neg]
    rintro ⟨h1, h2, h3⟩
    rcases h with h | h | h
    · rw [h1] at h; cases h
    · omega
    · omega
  exact ⟨this, by simp [setT, this]⟩
theorem setE_locked {l : List Trio} {en pe s : Int} (ho : okT en pe = true) (h0 : ¬ s < 0) (h2 : ¬ 2 < s) (h : stT l en pe = 2 ∨ (s = 2 ∧ stT l en pe ≠ 1)) : setE l en pe s = 11 ∧ setT l en pe s = l := by
  have : setE l en pe s = 11 := by
    unfold setE
    rw [if_pos ⟨ho, by omega, by omega⟩, if_pos h]
  exact ⟨this, by simp [setT, this]⟩
theorem setE_goes {l : List Trio} {en pe s : Int} (ho : okT en pe = true) (h0 : ¬ s < 0) (h2 : ¬ 2 < s) (h : ¬ (stT l en pe = 2 ∨ (s = 2 ∧ stT l en pe ≠ 1))) : setE l en pe s = 0 ∧ setT l en pe s = newT l en pe s := by
  have : setE l en pe s = 0 := by
    unfold setE
    rw [if_pos ⟨ho, by omega, by omega⟩, if_neg h]
  exact ⟨this, by simp [setT, this]⟩

set_option maxRecDepth 100000 in
set_option maxHeartbeats 400000 in
theorem set_nil (en pe s : Int) (w : World) : Calls Tryz.prog 34 #[.pointer none, .int .i64 en, .int .i64 pe, .int .i64 s] w fun e w' => e = .returned (.int .i64 1) ∧ w = w' := by
  go_enter Tryz.func34, Tryz.ntmps34
  go_wp2_with fail
  go_ret
  exact ⟨rfl, rfl⟩

set_option maxRecDepth 100000 in
set_option maxHeartbeats 400000 in
theorem set_bad (B c : Nat) (v : Value) (l : List Trio) (en pe s : Int) (w : World) (h : GatesAt w B c v l) (hx : okT en pe = false ∨ s < 0 ∨ 2 < s) :
    Calls Tryz.prog 34 #[.pointer (some ⟨c, 0, none⟩), .int .i64 en, .int .i64 pe, .int .i64 s] w fun e w' => e = .returned (.int .i64 1) ∧ GatesTo w B c v l w' := by
  have HC := Lib.hid h
  have hclt := h.lt
  have kk := known_anyGt en pe w
  clear h
  cases ho : okT en pe
  · rw [ho] at kk
    clear ho hx
    go_enter Tryz.func34, Tryz.ntmps34
    go_wp2_with fail
    refine kk.mono ?_
    rintro e w1 ⟨rfl, hb⟩
    go_wp2_with fail
    go_ret
    exact ⟨rfl, GatesTo.same HC.out hb⟩
  · rw [ho] at kk hx
    replace hx : s < 0 ∨ 2 < s := by simpa using hx
    clear ho
    by_cases h1 : s < 0
    · go_enter Tryz.func34, Tryz.ntmps34
      go_wp2_with fail
      refine kk.mono ?_
      rintro e w1 ⟨rfl, hb⟩
      go_wp2_with fail
      go_ret
      exact ⟨rfl, GatesTo.same HC.out hb⟩
    · have h2 : 2 < s := by omega
      clear hx
      go_enter Tryz.func34, Tryz.ntmps34
      go_wp2_with fail
      refine kk.mono ?_
      rintro e w1 ⟨rfl, hb⟩
      go_wp2_with fail
      go_ret
      exact ⟨rfl, GatesTo.same HC.out hb⟩

set_option maxRecDepth 100000 in
set_option maxHeartbeats 400000 in
theorem set_locked (B c : Nat) (v : Value) (l : List Trio) (en pe s : Int) (w : World) (h : GatesAt w B c v l) (ho : okT en pe = true) (h0 : ¬ s < 0) (h2 : ¬ 2 < s) (hs : stT l en pe = 2) :
    Calls Tryz.prog 34 #[.pointer (some ⟨c, 0, none⟩), .int .i64 en, .int .i64 pe, .int .i64 s] w fun e w' => e = .returned (.int .i64 11) ∧ GatesTo w B c v l w' := by
  have HC := Lib.hid h
  have hclt := h.lt
  have kk := known_anyGt en pe w
  have ks := Lib.hid (fun w1 (hb : Below w.heap.size w w1) => state_any B c v l en pe w1 (HC.out.below hb))
  rw [ho] at kk
  rw [hs] at ks
  clear h ho hs
  go_enter Tryz.func34, Tryz.ntmps34
  go_wp2_with fail
  refine kk.mono ?_
  rintro e w1 ⟨rfl, hb⟩
  go_wp2_with fail
  refine (ks.out w1 hb).mono ?_
  rintro e w2 ⟨rfl, hb2⟩
  go_wp2_with fail
  go_ret
  exact ⟨rfl, GatesTo.same HC.out (hb.trans (hb2.mono hb.size))⟩

set_option maxRecDepth 100000 in
set_option maxHeartbeats 400000 in
theorem set_goes (B c : Nat) (v : Value) (l : List Trio) (en pe s : Int) (F : FuncId) (E : Int) (m : List Trio) (w : World) (h : GatesAt w B c v l) (ho : okT en pe = true) (h0 : ¬ s < 0) (h2 : ¬ 2 < s) (hs : ¬ stT l en pe = 2) (hF : (s = 0 ∧ F = 82) ∨ (s = 1 ∧ F = 83) ∨ (s = 2 ∧ F = 84))
    (k : ∀ w1, GatesAt w1 B c v l → Calls Tryz.prog F #[.pointer (some ⟨c, 0, none⟩), .int .i64 en, .int .i64 pe] w1 fun e w' => e = .returned (.int .i64 E) ∧ GatesTo w1 B c v m w') :
    Calls Tryz.prog 34 #[.pointer (some ⟨c, 0, none⟩), .int .i64 en, .int .i64 pe, .int .i64 s] w fun e w' => e = .returned (.int .i64 E) ∧ GatesTo w B c v m w' := by
  have HC := Lib.hid h
  have hclt := h.lt
  have kk := known_anyGt en pe w
  have ks := Lib.hid (fun w1 (hb : Below w.heap.size w w1) => state_any B c v l en pe w1 (HC.out.below hb))
  have KF := Lib.hid k
  rw [ho] at kk
  generalize stT l en pe = st at *
  clear h ho k
  have ht : (st == 2) = false := by simp [hs]
  clear hs
  rcases hF with ⟨rfl, rfl⟩ | ⟨rfl, rfl⟩ | ⟨rfl, rfl⟩
  all_goals
    clear h0 h2
    go_enter Tryz.func34, Tryz.ntmps34
    go_wp2_with fail
    refine kk.mono ?_
    rintro e w1 ⟨rfl, hb⟩
    go_wp2_with fail
    refine (ks.out w1 hb).mono ?_
    rintro e w2 ⟨rfl, hb2⟩
    have HB : Hid (Below w.heap.size w w2) := hb.trans (hb2.mono hb.size)
    have hz := HB.out.size
    clear hb hb2
    go_wp2_with fail
    refine (KF.out _ (HC.out.below (HB.out.alloc hz _))).mono ?_
    rintro e w3 ⟨rfl, hto⟩
    have HT := Lib.hid (GatesTo.on (HB.out.alloc hz _) hto)
    clear hto
    go_wp2_with fail
    go_ret
    exact ⟨rfl, HT.out⟩

theorem set_any (B c : Nat) (v : Value) (l : List Trio) (en pe s : Int) (w : World) (h : GatesAt w B c v l) :
    Calls Tryz.prog 34 #[.pointer (some ⟨c, 0, none⟩), .int .i64 en, .int .i64 pe, .int .i64 s] w fun e w' => e = .returned (.int .i64 (setE l en pe s)) ∧ GatesTo w B c v (setT l en pe s) w' := by
  by_cases hx : okT en pe = false ∨ s < 0 ∨ 2 < s
  · rw [(setE_bad (l := l) hx).1, (setE_bad (l := l) hx).2]
    exact set_bad B c v l en pe s w h hx
  have ho : okT en pe = true := by
    cases h1 : okT en pe
    · exact absurd (.inl h1) hx
    · rfl
  have h0 : ¬ s < 0 := fun h1 => hx (.inr (.inl h1))
  have h2 : ¬ 2 < s := fun h1 => hx (.inr (.inr h1))
  by_cases hl : stT l en pe = 2
  · rw [(setE_locked ho h0 h2 (.inl hl)).1, (setE_locked ho h0 h2 (.inl hl)).2]
    exact set_locked B c v l en pe s w h ho h0 h2 hl
  have hst : stT l en pe = zOf (findT l (en * 2000 + pe)) := by simp [stT, ho]
  obtain rfl | rfl | rfl : s = 0 ∨ s = 1 ∨ s = 2 := by omega
  · have hg : ¬ (stT l en pe = 2 ∨ ((0 : Int) = 2 ∧ stT l en pe ≠ 1)) := by omega
    rw [(setE_goes ho h0 h2 hg).1, (setE_goes ho h0 h2 hg).2]
    exact set_goes B c v l en pe 0 _ _ _ w h ho h0 h2 hl (.inl ⟨rfl, rfl⟩) fun w1 h1 => open_any B c v l en pe w1 h1 ho
  · have hg : ¬ (stT l en pe = 2 ∨ ((1 : Int) = 2 ∧ stT l en pe ≠ 1)) := by omega
    rw [(setE_goes ho h0 h2 hg).1, (setE_goes ho h0 h2 hg).2]
    exact set_goes B c v l en pe 1 _ _ _ w h ho h0 h2 hl (.inr (.inl ⟨rfl, rfl⟩)) fun w1 h1 => shut_any B c v l en pe w1 h1 ho
  · by_cases h1 : stT l en pe = 1
    · have hg : ¬ (stT l en pe = 2 ∨ ((2 : Int) = 2 ∧ stT l en pe ≠ 1)) := by omega
      rw [(setE_goes ho h0 h2 hg).1, (setE_goes ho h0 h2 hg).2]
      exact set_goes B c v l en pe 2 _ _ _ w h ho h0 h2 hl (.inr (.inr ⟨rfl, rfl⟩)) fun w1 hw => (lock_any B c v l en pe w1 hw ho).mono fun e w' hh => hh.2 (by omega)
    · have hg : stT l en pe = 2 ∨ ((2 : Int) = 2 ∧ stT l en pe ≠ 1) := .inr ⟨rfl, h1⟩
      rw [(setE_locked ho h0 h2 hg).1, (setE_locked ho h0 h2 hg).2]
      exact set_goes B c v l en pe 2 _ _ _ w h ho h0 h2 hl (.inr (.inr ⟨rfl, rfl⟩)) fun w1 hw => (lock_any B c v l en pe w1 hw ho).mono fun e w' hh => hh.1 (by omega)
end Go.Proofs.YtafloaabjinkfaaGreat

/-
  Contracts of the reference's State and May of gates.
-/
namespace Go.Proofs.YtafloaabjinkfaaGreat
open Go.RowKit

theorem find_stepGt {l : List Trio} {k : Nat} {a : Trio} {x : Int} (ha : l[k]? = some a) (h : findT (l.take k) x = none) :
    (a.key = x → findT l x = some a) ∧ (¬ a.key = x → findT (l.take (k + 1)) x = none) := by
  obtain ⟨hl, rfl⟩ := List.getElem?_eq_some_iff.1 ha
  unfold findT at h ⊢
  constructor
  · intro he
    conv => lhs; rw [← List.take_append_drop k l, List.drop_eq_getElem_cons hl]
    rw [List.find?_append, h, List.find?_cons]
    simp [he]
  · intro he
    rw [List.take_succ_eq_append_getElem hl, List.find?_append, h]
    simp [he]

set_option maxRecDepth 100000 in
set_option maxHeartbeats 1000000 in
theorem refState_any (l : List Trio) (en pe : Int) (A : Option Addr) (n c B : Nat) (w : World) (h : Rd w B 3 A n (trios l)) (hn : n ≤ 1000000) (hg : ∀ a ∈ l, okT a.x a.y = true) :
    Calls Tryz.prog 88 #[.slice A n c, .int .i64 en, .int .i64 pe] w fun e w' => e = .returned (.int .i64 (stT l en pe)) ∧ w = w' := by
  by_cases h1 : en < 1
  · rw [show stT l en pe = 2 by simp [stT, okT_lo h1]]
    go_enter Tryz.func88, Tryz.ntmps88
    go_wp2_with fail
    go_ret
    exact ⟨rfl, rfl⟩
  by_cases h2 : 9 < en
  · rw [show stT l en pe = 2 by simp [stT, okT_hi h2]]
    go_enter Tryz.func88, Tryz.ntmps88
    go_wp2_with fail
    go_ret
    exact ⟨rfl, rfl⟩
  have kv := refValid_any pe w
  have hk := okT_p (p := pe) h1 h2
  cases hp : okP pe
  · rw [hp] at kv hk
    rw [show stT l en pe = 2 by simp [stT, hk]]
    clear hk hp
    go_enter Tryz.func88, Tryz.ntmps88
    go_wp2_with fail
    refine kv.mono ?_
    rintro e w1 ⟨rfl, rfl⟩
    go_wp2_with fail
    go_ret
    exact ⟨rfl, rfl⟩
  rw [hp] at kv hk
  have HST : Hid (stT l en pe = zOf (findT l (en * 2000 + pe))) := by show stT l en pe = _; simp [stT, hk]
  have HG : Hid (∀ a ∈ l, (a.key = en * 2000 + pe ↔ a.x = en ∧ a.y = pe)) := fun a ha => by
    have := okT_t (hg a ha)
    have := okT_t hk
    unfold Trio.key
    omega
  have HL := Lib.hid h.trios_len
  have HR := Lib.hid h
  clear hp hk h hg
  generalize hS : stT l en pe = S at *
  clear hS
  go_enter Tryz.func88, Tryz.ntmps88
  go_wp2_with fail
  refine kv.mono ?_
  rintro e w1 ⟨rfl, rfl⟩
  go_wp2_with fail
  go_loopw [7] (fun iv wr => ∃ j : Nat, j ≤ n ∧ iv = .int .i64 j ∧ Hid (findT (l.take j) (en * 2000 + pe) = none) ∧ wr = w) (fun iv _ => n - (intOf iv).toNat)
  case atStart => exact ⟨0, Nat.zero_le _, rfl, rfl, rfl⟩
  case round =>
    obtain ⟨j, hj, rfl, hno, rfl⟩ := hrel
    by_cases hlt : j < n
    · obtain ⟨ad, a, rfl, hb1, hx, p1, p2, p3⟩ := HR.out.trio hlt
      have p2' := cell_behind p2 (by omega)
      have p3' := cell_behind p3 (by omega)
      have hjn : (j : Int) < (n : Int) := by omega
      have HS := Lib.hid (find_stepGt hx hno.out)
      have HK := Lib.hid (HG.out a (List.mem_of_getElem? hx))
      clear p2 p3 hx hb1
      obtain ⟨x1, x2, x3⟩ := a
      by_cases e1 : x1 = en
      · have t1 : (x1 == en) = true := by simp [e1]
        by_cases e2 : x2 = pe
        · have t2 : (x2 == pe) = true := by simp [e2]
          have HE : Hid (S = x3) := by
            rw [Hid, HST.out, HS.out.1 (HK.out.2 ⟨e1, e2⟩)]; rfl
          go_wp2_with fail
          go_ret
          exact ⟨ret_int HE.out.symm, rfl⟩
        · have t2 : (x2 == pe) = false := by simp [e2]
          have HE := Lib.hid (HS.out.2 fun e => e2 (HK.out.1 e).2)
          go_wp2_with fail
          exact ⟨⟨j + 1, by omega, by go_num, HE.out, by first | rfl | trivial⟩, by simp [intOf]; omega⟩
      · have t1 : (x1 == en) = false := by simp [e1]
        have HE := Lib.hid (HS.out.2 fun e => e1 (HK.out.1 e).1)
        go_wp2_with fail
        exact ⟨⟨j + 1, by omega, by go_num, HE.out, by first | rfl | trivial⟩, by simp [intOf]; omega⟩
    · obtain rfl : j = n := by omega
      have HE : Hid (S = 0) := by
        have := hno.out
        rw [List.take_of_length_le (by have := HL.out; omega)] at this
        rw [Hid, HST.out, this]; rfl
      go_wp2_with fail
      go_ret
      exact ⟨ret_int HE.out.symm, rfl⟩

set_option maxRecDepth 100000 in
set_option maxHeartbeats 1000000 in
theorem refMay_any (l : List Trio) (en pe : Int) (A : Option Addr) (n c B : Nat) (w : World) (h : Rd w B 3 A n (trios l)) (hn : n ≤ 1000000) (hg : ∀ a ∈ l, okT a.x a.y = true) :
    Calls Tryz.prog 56 #[.slice A n c, .int .i64 en, .int .i64 pe] w fun e w' => e = .returned (.int .i64 (mayT l en pe)) ∧ w = w' := by
  have ks := refState_any l en pe A n c B w h hn hg
  clear h hg
  by_cases h1 : en < 1
  · rw [show mayT l en pe = 1 by simp [mayT, okT_lo h1]]
    go_enter Tryz.func56, Tryz.ntmps56
    go_wp2_with fail
    go_ret
    exact ⟨rfl, rfl⟩
  by_cases h2 : 9 < en
  · rw [show mayT l en pe = 1 by simp [mayT, okT_hi h2]]
    go_enter Tryz.func56, Tryz.ntmps56
    go_wp2_with fail
    go_ret
    exact ⟨rfl, rfl⟩
  have kv := refValid_any pe w
  have hk := okT_p (p := pe) h1 h2
  cases hp : okP pe
  · rw [hp] at kv hk
    rw [show mayT l en pe = 1 by simp [mayT, hk]]
    clear hk hp
    go_enter Tryz.func56, Tryz.ntmps56
    go_wp2_with fail
    refine kv.mono ?_
    rintro e w1 ⟨rfl, rfl⟩
    go_wp2_with fail
    go_ret
    exact ⟨rfl, rfl⟩
  rw [hp] at kv hk
  have HM : Hid (mayT l en pe = if stT l en pe = 0 then 0 else 6) := by show mayT l en pe = _; simp [mayT, hk]
  clear hp hk
  generalize stT l en pe = s at *
  generalize mayT l en pe = m at *
  by_cases hs : s = 0
  · subst hs
    obtain rfl : m = 0 := by rw [HM.out]; simp
    go_enter Tryz.func56, Tryz.ntmps56
    go_wp2_with fail
    refine kv.mono ?_
    rintro e w1 ⟨rfl, rfl⟩
    go_wp2_with fail
    refine ks.mono ?_
    rintro e w1 ⟨rfl, rfl⟩
    go_wp2_with fail
    go_ret
    exact ⟨rfl, rfl⟩
  · obtain rfl : m = 6 := by rw [HM.out]; simp [hs]
    have ht : (s != 0) = true := by simp [hs]
    go_enter Tryz.func56, Tryz.ntmps56
    go_wp2_with fail
    refine kv.mono ?_
    rintro e w1 ⟨rfl, rfl⟩
    go_wp2_with fail
    refine ks.mono ?_
    rintro e w1 ⟨rfl, rfl⟩
    go_wp2_with fail
    go_ret
    exact ⟨rfl, rfl⟩
end Go.Proofs.YtafloaabjinkfaaGreat
