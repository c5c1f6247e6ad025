/-
  Contracts of the reference's State and May of gates.
-/
import Derived.Test.YtgoekobolomppaaGatesState
namespace Go.Proofs.Ytgoekobolomppaa
open Go.RowKit

theorem find_step {l : List Trio} {k : Nat} {a : Trio} {x : Int} (ha : l[k]? = some a) (h : findT (l.take k) x = none) :
    (a.key = x → findT l x = some a) ∧ (¬ a.key = x → findT (l.take (k + 1)) x = none) := by
  obtain ⟨hl, rfl⟩ := List.getElem?_eq_some_iff.1 ha
  unfold findT at h ⊢
  constructor
  · intro he
    conv => lhs; rw [← List.take_append_drop k l, List.drop_eq_getElem_cons hl]
    rw [List.find?_append, h, List.find?_cons]
    simp [he]
  · intro he
    rw [List.take_succ_eq_append_getElem hl, List.find?_append, h]
    simp [he]

set_option maxRecDepth 100000 in
set_option maxHeartbeats 1000000 in
theorem refState_any (l : List Trio) (en pe : Int) (A : Option Addr) (n c B : Nat) (w : World) (h : Rd w B 3 A n (trios l)) (hn : n ≤ 1000000) (hg : ∀ a ∈ l, okT a.x a.y = true) :
    Calls Try.prog 13 #[.slice A n c, .int .i64 en, .int .i64 pe] w fun e w' => e = .returned (.int .i64 (stT l en pe)) ∧ w = w' := by
  by_cases h1 : en < 1
  · rw [show stT l en pe = 2 by simp [stT, okT_lo h1]]
    go_enter Try.func13, Try.ntmps13
    go_wp2_with fail
    go_ret
    exact ⟨rfl, rfl⟩
  by_cases h2 : 9 < en
  · rw [show stT l en pe = 2 by simp [stT, okT_hi h2]]
    go_enter Try.func13, Try.ntmps13
    go_wp2_with fail
    go_ret
    exact ⟨rfl, rfl⟩
  have kv := refValid_any pe w
  have hk := okT_p (p := pe) h1 h2
  cases hp : okP pe
  · rw [hp] at kv hk
    rw [show stT l en pe = 2 by simp [stT, hk]]
    clear hk hp
    go_enter Try.func13, Try.ntmps13
    go_wp2_with fail
    refine kv.mono ?_
    rintro e w1 ⟨rfl, rfl⟩
    go_wp2_with fail
    go_ret
    exact ⟨rfl, rfl⟩
  rw [hp] at kv hk
  have HST : Hid (stT l en pe = zOf (findT l (en * 2000 + pe))) := by show stT l en pe = _; simp [stT, hk]
  have HG : Hid (∀ a ∈ l, (a.key = en * 2000 + pe ↔ a.x = en ∧ a.y = pe)) := fun a ha => by
    have := okT_t (hg a ha)
    have := okT_t hk
    unfold Trio.key
    omega
  have HL := Lib.hid h.trios_len
  have HR := Lib.hid h
  clear hp hk h hg
  generalize hS : stT l en pe = S at *
  clear hS
  go_enter Try.func13, Try.ntmps13
  go_wp2_with fail
  refine kv.mono ?_
  rintro e w1 ⟨rfl, rfl⟩
  go_wp2_with fail
  go_loopw [7] (fun iv wr => ∃ j : Nat, j ≤ n ∧ iv = .int .i64 j ∧ Hid (findT (l.take j) (en * 2000 + pe) = none) ∧ wr = w) (fun iv _ => n - (intOf iv).toNat)
  case atStart => exact ⟨0, Nat.zero_le _, rfl, rfl, rfl⟩
  case round =>
    obtain ⟨j, hj, rfl, hno, rfl⟩ := hrel
    by_cases hlt : j < n
    · obtain ⟨ad, a, rfl, hb1, hx, p1, p2, p3⟩ := HR.out.trio hlt
      have p2' := cell_behind p2 (by omega)
      have p3' := cell_behind p3 (by omega)
      have hjn : (j : Int) < (n : Int) := by omega
      have HS := Lib.hid (find_step hx hno.out)
      have HK := Lib.hid (HG.out a (List.mem_of_getElem? hx))
      clear p2 p3 hx hb1
      obtain ⟨x1, x2, x3⟩ := a
      by_cases e1 : x1 = en
      · have t1 : (x1 == en) = true := by simp [e1]
        by_cases e2 : x2 = pe
        · have t2 : (x2 == pe) = true := by simp [e2]
          have HE : Hid (S = x3) := by
            rw [Hid, HST.out, HS.out.1 (HK.out.2 ⟨e1, e2⟩)]; rfl
          go_wp2_with fail
          go_ret
          exact ⟨ret_int HE.out.symm, rfl⟩
        · have t2 : (x2 == pe) = false := by simp [e2]
          have HE := Lib.hid (HS.out.2 fun e => e2 (HK.out.1 e).2)
          go_wp2_with fail
          exact ⟨⟨j + 1, by omega, by go_num, HE.out, by first | rfl | trivial⟩, by simp [intOf]; omega⟩
      · have t1 : (x1 == en) = false := by simp [e1]
        have HE := Lib.hid (HS.out.2 fun e => e1 (HK.out.1 e).1)
        go_wp2_with fail
        exact ⟨⟨j + 1, by omega, by go_num, HE.out, by first | rfl | trivial⟩, by simp [intOf]; omega⟩
    · obtain rfl : j = n := by omega
      have HE : Hid (S = 0) := by
        have := hno.out
        rw [List.take_of_length_le (by have := HL.out; omega)] at this
        rw [Hid, HST.out, this]; rfl
      go_wp2_with fail
      go_ret
      exact ⟨ret_int HE.out.symm, rfl⟩

set_option maxRecDepth 100000 in
set_option maxHeartbeats 1000000 in
theorem refMay_any (l : List Trio) (en pe : Int) (A : Option Addr) (n c B : Nat) (w : World) (h : Rd w B 3 A n (trios l)) (hn : n ≤ 1000000) (hg : ∀ a ∈ l, okT a.x a.y = true) :
    Calls Try.prog 15 #[.slice A n c, .int .i64 en, .int .i64 pe] w fun e w' => e = .returned (.int .i64 (mayT l en pe)) ∧ w = w' := by
  have ks := refState_any l en pe A n c B w h hn hg
  clear h hg
  by_cases h1 : en < 1
  · rw [show mayT l en pe = 1 by simp [mayT, okT_lo h1]]
    go_enter Try.func15, Try.ntmps15
    go_wp2_with fail
    go_ret
    exact ⟨rfl, rfl⟩
  by_cases h2 : 9 < en
  · rw [show mayT l en pe = 1 by simp [mayT, okT_hi h2]]
    go_enter Try.func15, Try.ntmps15
    go_wp2_with fail
    go_ret
    exact ⟨rfl, rfl⟩
  have kv := refValid_any pe w
  have hk := okT_p (p := pe) h1 h2
  cases hp : okP pe
  · rw [hp] at kv hk
    rw [show mayT l en pe = 1 by simp [mayT, hk]]
    clear hk hp
    go_enter Try.func15, Try.ntmps15
    go_wp2_with fail
    refine kv.mono ?_
    rintro e w1 ⟨rfl, rfl⟩
    go_wp2_with fail
    go_ret
    exact ⟨rfl, rfl⟩
  rw [hp] at kv hk
  have HM : Hid (mayT l en pe = if stT l en pe = 0 then 0 else 6) := by show mayT l en pe = _; simp [mayT, hk]
  clear hp hk
  generalize stT l en pe = s at *
  generalize mayT l en pe = m at *
  by_cases hs : s = 0
  · subst hs
    obtain rfl : m = 0 := by rw [HM.out]; simp
    go_enter Try.func15, Try.ntmps15
    go_wp2_with fail
    refine kv.mono ?_
    rintro e w1 ⟨rfl, rfl⟩
    go_wp2_with fail
    refine ks.mono ?_
    rintro e w1 ⟨rfl, rfl⟩
    go_wp2_with fail
    go_ret
    exact ⟨rfl, rfl⟩
  · obtain rfl : m = 6 := by rw [HM.out]; simp [hs]
    have ht : (s != 0) = true := by simp [hs]
    go_enter Try.func15, Try.ntmps15
    go_wp2_with fail
    refine kv.mono ?_
    rintro e w1 ⟨rfl, rfl⟩
    go_wp2_with fail
    refine ks.mono ?_
    rintro e w1 ⟨rfl, rfl⟩
    go_wp2_with fail
    go_ret
    exact ⟨rfl, rfl⟩
end Go.Proofs.Ytgoekobolomppaa
