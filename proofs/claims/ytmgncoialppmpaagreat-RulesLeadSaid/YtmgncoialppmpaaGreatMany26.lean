/-
  Several texts, one behind the other: what each holds stands ahead of it.
-/
import Derived.Test.YtmgncoialppmpaaGreatMany13
import Derived.Test.YtmgncoialppmpaaGreatMany17
import Derived.Test.YtmgncoialppmpaaGreatChartGet
import Derived.Test.YtmgncoialppmpaaGreatMany2
import Derived.Test.YtmgncoialppmpaaGreatMany11

/-
  Contracts of the reference's State and May of gates.
-/
namespace Go.Proofs.YtmgncoialppmpaaGreat
open Go.RowKit

theorem find_stepGt {l : List Trio} {k : Nat} {a : Trio} {x : Int} (ha : l[k]? = some a) (h : findT (l.take k) x = none) :
    (a.key = x → findT l x = some a) ∧ (¬ a.key = x → findT (l.take (k + 1)) x = none) := by
  obtain ⟨hl, rfl⟩ := List.getElem?_eq_some_iff.1 ha
  unfold findT at h ⊢
  constructor
  · intro he
    conv => lhs; rw [← List.take_append_drop k l, List.drop_eq_getElem_cons hl]
    rw [List.find?_append, h, List.find?_cons]
    simp [he]
  · intro he
    rw [List.take_succ_eq_append_getElem hl, List.find?_append, h]
    simp [he]

set_option maxRecDepth 100000 in
set_option maxHeartbeats 1000000 in
theorem refState_any (l : List Trio) (en pe : Int) (A : Option Addr) (n c B : Nat) (w : World) (h : Rd w B 3 A n (trios l)) (hn : n ≤ 1000000) (hg : ∀ a ∈ l, okT a.x a.y = true) :
    Calls Tryz.prog 161 #[.slice A n c, .int .i64 en, .int .i64 pe] w fun e w' => e = .returned (.int .i64 (stT l en pe)) ∧ w = w' := by
  by_cases h1 : en < 1
  · rw [show stT l en pe = 2 by simp [stT, okT_lo h1]]
    go_enter Tryz.func161, Tryz.ntmps161
    go_wp2_with fail
    go_ret
    exact ⟨rfl, rfl⟩
  by_cases h2 : 9 < en
  · rw [show stT l en pe = 2 by simp [stT, okT_hi h2]]
    go_enter Tryz.func161, Tryz.ntmps161
    go_wp2_with fail
    go_ret
    exact ⟨rfl, rfl⟩
  have kv := refValid_any pe w
  have hk := okT_p (p := pe) h1 h2
  cases hp : okP pe
  · rw [hp] at kv hk
    rw [show stT l en pe = 2 by simp [stT, hk]]
    clear hk hp
    go_enter Tryz.func161, Tryz.ntmps161
    go_wp2_with fail
    refine kv.mono ?_
    rintro e w1 ⟨rfl, rfl⟩
    go_wp2_with fail
    go_ret
    exact ⟨rfl, rfl⟩
  rw [hp] at kv hk
  have HST : Hid (stT l en pe = zOf (findT l (en * 2000 + pe))) := by show stT l en pe = _; simp [stT, hk]
  have HG : Hid (∀ a ∈ l, (a.key = en * 2000 + pe ↔ a.x = en ∧ a.y = pe)) := fun a ha => by
    have := okT_t (hg a ha)
    have := okT_t hk
    unfold Trio.key
    omega
  have HL := Lib.hid h.trios_len
  have HR := Lib.hid h
  clear hp hk h hg
  generalize hS : stT l en pe = S at *
  clear hS
  go_enter Tryz.func161, Tryz.ntmps161
  go_wp2_with fail
  refine kv.mono ?_
  rintro e w1 ⟨rfl, rfl⟩
  go_wp2_with fail
  go_loopw [7] (fun iv wr => ∃ j : Nat, j ≤ n ∧ iv = .int .i64 j ∧ Hid (findT (l.take j) (en * 2000 + pe) = none) ∧ wr = w) (fun iv _ => n - (intOf iv).toNat)
  case atStart => exact ⟨0, Nat.zero_le _, rfl, rfl, rfl⟩
  case round =>
    obtain ⟨j, hj, rfl, hno, rfl⟩ := hrel
    by_cases hlt : j < n
    · obtain ⟨ad, a, rfl, hb1, hx, p1, p2, p3⟩ := HR.out.trio hlt
      have p2' := cell_behind p2 (by omega)
      have p3' := cell_behind p3 (by omega)
      have hjn : (j : Int) < (n : Int) := by omega
      have HS := Lib.hid (find_stepGt hx hno.out)
      have HK := Lib.hid (HG.out a (List.mem_of_getElem? hx))
      clear p2 p3 hx hb1
      obtain ⟨x1, x2, x3⟩ := a
      by_cases e1 : x1 = en
      · have t1 : (x1 == en) = true := by simp [e1]
        by_cases e2 : x2 = pe
        · have t2 : (x2 == pe) = true := by simp [e2]
          have HE : Hid (S = x3) := by
            rw [Hid, HST.out, HS.out.1 (HK.out.2 ⟨e1, e2⟩)]; rfl
          go_wp2_with fail
          go_ret
          exact ⟨ret_int HE.out.symm, rfl⟩
        · have t2 : (x2 == pe) = false := by simp [e2]
          have HE := Lib.hid (HS.out.2 fun e => e2 (HK.out.1 e).2)
          go_wp2_with fail
          exact ⟨⟨j + 1, by omega, by go_num, HE.out, by first | rfl | trivial⟩, by simp [intOf]; omega⟩
      · have t1 : (x1 == en) = false := by simp [e1]
        have HE := Lib.hid (HS.out.2 fun e => e1 (HK.out.1 e).1)
        go_wp2_with fail
        exact ⟨⟨j + 1, by omega, by go_num, HE.out, by first | rfl | trivial⟩, by simp [intOf]; omega⟩
    · obtain rfl : j = n := by omega
      have HE : Hid (S = 0) := by
        have := hno.out
        rw [List.take_of_length_le (by have := HL.out; omega)] at this
        rw [Hid, HST.out, this]; rfl
      go_wp2_with fail
      go_ret
      exact ⟨ret_int HE.out.symm, rfl⟩

set_option maxRecDepth 100000 in
set_option maxHeartbeats 1000000 in
theorem refMay_any (l : List Trio) (en pe : Int) (A : Option Addr) (n c B : Nat) (w : World) (h : Rd w B 3 A n (trios l)) (hn : n ≤ 1000000) (hg : ∀ a ∈ l, okT a.x a.y = true) :
    Calls Tryz.prog 78 #[.slice A n c, .int .i64 en, .int .i64 pe] w fun e w' => e = .returned (.int .i64 (mayT l en pe)) ∧ w = w' := by
  have ks := refState_any l en pe A n c B w h hn hg
  clear h hg
  by_cases h1 : en < 1
  · rw [show mayT l en pe = 1 by simp [mayT, okT_lo h1]]
    go_enter Tryz.func78, Tryz.ntmps78
    go_wp2_with fail
    go_ret
    exact ⟨rfl, rfl⟩
  by_cases h2 : 9 < en
  · rw [show mayT l en pe = 1 by simp [mayT, okT_hi h2]]
    go_enter Tryz.func78, Tryz.ntmps78
    go_wp2_with fail
    go_ret
    exact ⟨rfl, rfl⟩
  have kv := refValid_any pe w
  have hk := okT_p (p := pe) h1 h2
  cases hp : okP pe
  · rw [hp] at kv hk
    rw [show mayT l en pe = 1 by simp [mayT, hk]]
    clear hk hp
    go_enter Tryz.func78, Tryz.ntmps78
    go_wp2_with fail
    refine kv.mono ?_
    rintro e w1 ⟨rfl, rfl⟩
    go_wp2_with fail
    go_ret
    exact ⟨rfl, rfl⟩
  rw [hp] at kv hk
  have HM : Hid (mayT l en pe = if stT l en pe = 0 then 0 else 6) := by show mayT l en pe = _; simp [mayT, hk]
  clear hp hk
  generalize stT l en pe = s at *
  generalize mayT l en pe = m at *
  by_cases hs : s = 0
  · subst hs
    obtain rfl : m = 0 := by rw [HM.out]; simp
    go_enter Tryz.func78, Tryz.ntmps78
    go_wp2_with fail
    refine kv.mono ?_
    rintro e w1 ⟨rfl, rfl⟩
    go_wp2_with fail
    refine ks.mono ?_
    rintro e w1 ⟨rfl, rfl⟩
    go_wp2_with fail
    go_ret
    exact ⟨rfl, rfl⟩
  · obtain rfl : m = 6 := by rw [HM.out]; simp [hs]
    have ht : (s != 0) = true := by simp [hs]
    go_enter Tryz.func78, Tryz.ntmps78
    go_wp2_with fail
    refine kv.mono ?_
    rintro e w1 ⟨rfl, rfl⟩
    go_wp2_with fail
    refine ks.mono ?_
    rintro e w1 ⟨rfl, rfl⟩
    go_wp2_with fail
    go_ret
    exact ⟨rfl, rfl⟩
end Go.Proofs.YtmgncoialppmpaaGreat

/-
  Contract of the reference's Row.
-/
namespace Go.Proofs.YtmgncoialppmpaaGreat
open Go.RowKit

set_option maxRecDepth 100000 in
theorem refRow_any (x k : Int) (w : World) : Calls Tryz.prog 160 #[.int .i64 x, .int .i64 k] w fun e w' => e = .returned (.bool (okRow x k)) ∧ w = w' := by
  by_cases h1 : 1 ≤ x
  · by_cases h2 : x ≤ 9999
    · by_cases h3 : 1 ≤ k
      · by_cases h4 : k ≤ 5
        · have HO : Hid (okRow x k = true) := by simp [okRow, Hid, h1, h2, h3, h4]
          go_enter Tryz.func160, Tryz.ntmps160
          go_wp2
          go_ret
          exact ⟨ret_bool (by rw [HO.out]; try simp [h4]), rfl⟩
        · have HO : Hid (okRow x k = false) := by simp [okRow, Hid]; omega
          go_enter Tryz.func160, Tryz.ntmps160
          go_wp2
          go_ret
          exact ⟨ret_bool (by rw [HO.out]; try simp [h4]), rfl⟩
      · have HO : Hid (okRow x k = false) := by simp [okRow, Hid]; omega
        go_enter Tryz.func160, Tryz.ntmps160
        go_wp2
        go_ret
        exact ⟨ret_bool HO.out.symm, rfl⟩
    · have HO : Hid (okRow x k = false) := by simp [okRow, Hid]; omega
      go_enter Tryz.func160, Tryz.ntmps160
      go_wp2
      go_ret
      exact ⟨ret_bool HO.out.symm, rfl⟩
  · have HO : Hid (okRow x k = false) := by simp [okRow, Hid]; omega
    go_enter Tryz.func160, Tryz.ntmps160
    go_wp2
    go_ret
    exact ⟨ret_bool HO.out.symm, rfl⟩
end Go.Proofs.YtmgncoialppmpaaGreat

/-
  Contracts of the reference's Account, Live, AddAccount.
-/
namespace Go.Proofs.YtmgncoialppmpaaGreat
open Go.RowKit

theorem find_stepCh {l : List Acc} {j : Nat} {a : Acc} {x : Int} (ha : l[j]? = some a) (h0 : findA (l.take j) x = none) :
    (a.code = x → findA l x = some a) ∧ (a.code ≠ x → findA (l.take (j + 1)) x = none) := by
  obtain ⟨hl, rfl⟩ := List.getElem?_eq_some_iff.1 ha
  constructor
  · intro h
    unfold findA at *
    conv => lhs; rw [← List.take_append_drop j l, List.find?_append, h0, List.drop_eq_getElem_cons hl, List.find?_cons]
    simp [h]
  · intro h
    unfold findA at *
    rw [List.take_succ_eq_append_getElem hl, List.find?_append, h0]
    simp [h]

set_option maxRecDepth 100000 in
set_option maxHeartbeats 1000000 in
theorem refAccount_any (l : List Acc) (x : Int) (A : Option Addr) (n c B : Nat) (w : World) (h : Rd w B 3 A n (accs l)) (hB : B ≤ w.heap.size) (hn : n ≤ 1000000) :
    Calls Tryz.prog 219 #[.slice A n c, .int .i64 x] w fun e w' => e = .returned (getV l x) ∧ Below w.heap.size w w' := by
  have HL := Lib.hid h.accs_len
  have HR := Lib.hid (h.below (Below.mono (B := w.heap.size) ((Below.refl _ w).alloc (Nat.le_refl _) (.cells #[.int .i64 0, .int .i64 0, .bool false] 112)) hB))
  clear h
  go_enter Tryz.func219, Tryz.ntmps219
  go_wp2_with fail
  go_loopw [6] (fun iv wr => ∃ j : Nat, j ≤ n ∧ iv = .int .i64 j ∧ Hid (findA (l.take j) x = none) ∧ wr = w.alloc (.cells #[.int .i64 0, .int .i64 0, .bool false] 112)) (fun iv _ => n - (intOf iv).toNat)
  case atStart => exact ⟨0, Nat.zero_le _, rfl, rfl, rfl⟩
  case round =>
    obtain ⟨j, hj, rfl, h0, rfl⟩ := hrel
    by_cases hlt : j < n
    · obtain ⟨ad, a, rfl, hb1, hx, p1, p2, p3⟩ := HR.out.acc hlt
      have p2' := cell_behind p2 (by omega)
      have p3' := cell_behind p3 (by omega)
      have HST := Lib.hid (find_stepCh hx h0.out)
      have hjn : (j : Int) < (n : Int) := by omega
      clear hx p2 p3
      obtain ⟨x1, x2, x3⟩ := a
      by_cases he : x1 = x
      · subst he
        have HF := Lib.hid (HST.out.1 rfl)
        go_wp2
        refine bodyPost_ret (v := .tuple #[.agg #[.int .i64 x1, .int .i64 x2, .bool x3], .bool true]) (by simp [results, Tryz.results219, go_sem]) rfl ⟨?_, ?_⟩
        · unfold getV; rw [HF.out]; rfl
        · first | exact (Below.refl _ _).alloc (Nat.le_refl _) _ | exact ((((Below.refl _ _).alloc (Nat.le_refl _) _).setCell (by simp) _).setCell (by simp) _).setCell (by simp) _
      · have HF := Lib.hid (HST.out.2 he)
        have he' : (x1 == x) = false := by simp [he]
        go_wp2
        exact ⟨⟨j + 1, by omega, by go_num, HF.out, by first | rfl | trivial⟩, by simp [intOf]; omega⟩
    · obtain rfl : j = n := by omega
      have HF : Hid (findA l x = none) := by
        have := h0.out
        rwa [List.take_of_length_le (by have := HL.out; omega)] at this
      go_wp2
      refine bodyPost_ret (v := .tuple #[.agg #[.int .i64 0, .int .i64 0, .bool false], .bool false]) (by simp [results, Tryz.results219, go_sem]) rfl ⟨?_, ?_⟩
      · unfold getV; rw [HF.out]; rfl
      · first | exact (Below.refl _ _).alloc (Nat.le_refl _) _ | exact ((((Below.refl _ _).alloc (Nat.le_refl _) _).setCell (by simp) _).setCell (by simp) _).setCell (by simp) _

set_option maxRecDepth 100000 in
set_option maxHeartbeats 1000000 in
theorem refLive_any (l : List Acc) (x : Int) (A : Option Addr) (n c B : Nat) (w : World) (h : Rd w B 3 A n (accs l)) (hB : B ≤ w.heap.size) (hn : n ≤ 1000000) :
    Calls Tryz.prog 168 #[.slice A n c, .int .i64 x] w fun e w' => e = .returned (.int .i64 (liveE1 l x)) ∧ Below w.heap.size w w' := by
  have kg := refAccount_any l x A n c B w h hB hn
  have HLV := Lib.hid (live_get l x)
  unfold getV at kg
  clear h
  generalize (findA l x).getD acc0 = a at *
  generalize (findA l x).isSome = t at *
  obtain ⟨x1, x2, x3⟩ := a
  unfold Acc.val at kg
  cases t
  · rw [show liveE1 l x = 4 from by rw [HLV.out]; rfl]
    go_enter Tryz.func168, Tryz.ntmps168
    go_wp2_with fail
    refine kg.mono ?_
    rintro e w2 ⟨rfl, hb⟩
    have hz := hb.size
    have HB := Lib.hid hb
    clear hb
    go_wp2
    go_ret
    refine ⟨rfl, ?_⟩
    first | exact HB.out.alloc (by omega) _ | exact (((HB.out.alloc (by omega) _).setCell (by simp; omega) _).setCell (by simp; omega) _).setCell (by simp; omega) _
  · cases x3
    · rw [show liveE1 l x = 0 from by rw [HLV.out]; rfl]
      go_enter Tryz.func168, Tryz.ntmps168
      go_wp2_with fail
      refine kg.mono ?_
      rintro e w2 ⟨rfl, hb⟩
      have hz := hb.size
      have HB := Lib.hid hb
      clear hb
      go_wp2
      go_ret
      refine ⟨rfl, ?_⟩
      first | exact HB.out.alloc (by omega) _ | exact (((HB.out.alloc (by omega) _).setCell (by simp; omega) _).setCell (by simp; omega) _).setCell (by simp; omega) _
    · rw [show liveE1 l x = 5 from by rw [HLV.out]; rfl]
      go_enter Tryz.func168, Tryz.ntmps168
      go_wp2_with fail
      refine kg.mono ?_
      rintro e w2 ⟨rfl, hb⟩
      have hz := hb.size
      have HB := Lib.hid hb
      clear hb
      go_wp2
      go_ret
      refine ⟨rfl, ?_⟩
      first | exact HB.out.alloc (by omega) _ | exact (((HB.out.alloc (by omega) _).setCell (by simp; omega) _).setCell (by simp; omega) _).setCell (by simp; omega) _
end Go.Proofs.YtmgncoialppmpaaGreat

/-
  'append(append(append(nil, l[:k]...), x), l[k:]...)', whatever the elements are: its three appends, in both orders of making x's block. Of no function.
-/
namespace Go.Proofs.YtmgncoialppmpaaGreat
open Go.RowKit

section
variable {P : Program} {t e : TypeId} {z : Value} {size bytes : Nat} {W : World} {B p n c ct : Nat} {A T : Option Addr} {xs ms cs : List Value}
/-- x's block made behind the first append. -/
theorem ins_x (h : (P.info? e).map (fun i => (i.zero, i.size, i.bytes)) = some (some z, size, bytes)) (ht : P.underlying t = some (.slice e)) (hzs : z.cells.size = size) (hsz : 0 < size) (hby : bytes ≤ 1000) (hcs : cs.length = size)
    (ox : ∀ u ∈ xs, u.oneCell' = true) (oc : ∀ u ∈ cs, u.oneCell' = true) (om : ∀ u ∈ ms, u.oneCell' = true) (h1 : Rd W B size A p xs) (h2 : Rd W B size T (n - p) ms) (hB : B ≤ W.heap.size) (hp : p ≤ n) (hn : n ≤ 1000000) :
    ∃ A1 c1 w1 A2 c2 w2 A3 c3 w3, (Builtin.append_ #[t, t] t #[.slice none 0 0, .slice A p c]).run P W = .ok (.slice A1 p c1) w1 ∧
      (Builtin.append_ #[t, t] t #[.slice A1 p c1, .slice (some ⟨w1.heap.size, 0, none⟩) 1 1]).run P (w1.alloc (.cells cs.toArray e)) = .ok (.slice A2 (p + 1) c2) w2 ∧
      (Builtin.append_ #[t, t] t #[.slice A2 (p + 1) c2, .slice T (n - p) ct]).run P w2 = .ok (.slice A3 (n + 1) c3) w3 ∧
      w3.ownsRow W.heap.size e size (.slice A3 (n + 1) c3) (n + 1) (xs ++ (cs ++ ms)) ∧ Below W.heap.size W w3 ∧ Below W.heap.size W w1 := by
  have hb1 : (0 + p) * bytes ≤ 140737488355328 := Nat.le_trans (Nat.mul_le_mul (show 0 + p ≤ 1000001 by omega) hby) (by omega)
  have hb2 : (p + 1) * bytes ≤ 140737488355328 := Nat.le_trans (Nat.mul_le_mul (show p + 1 ≤ 1000001 by omega) hby) (by omega)
  have hb3 : (p + 1 + (n - p)) * bytes ≤ 140737488355328 := Nat.le_trans (Nat.mul_le_mul (show p + 1 + (n - p) ≤ 1000001 by omega) hby) (by omega)
  obtain ⟨v1, w1, r1, o1, g1, _⟩ := append_fresh (P := P) (ty := t) (c := c) h ht hzs hsz W.heap.size (.slice none 0 0) 0 [] (World.ownsRow_nil _ _ _ _) h1 ox (by unfold maxLen; omega) hb1 (Nat.le_refl _)
  have b1 : Below W.heap.size W w1 := (Below.refl _ _).grown g1 (Nat.le_refl _) (fun k h => by cases h)
  rw [Nat.zero_add, List.nil_append] at o1
  have z1 := b1.size
  have o1' : (w1.alloc (.cells cs.toArray e)).ownsRow W.heap.size e size v1 p xs := own_kept o1 fun q hq _ => Below.heap_alloc _ _ _ hq
  have hr : Rd (w1.alloc (.cells cs.toArray e)) (w1.heap.size + 1) size (some ⟨w1.heap.size, 0, none⟩) 1 cs := ⟨by rw [hcs, Nat.one_mul], fun _ => ⟨_, rfl, by simp, cells_new w1 cs _⟩⟩
  obtain ⟨v2, w2, r2, o2, g2, _⟩ := append_fresh (P := P) (ty := t) (c := 1) h ht hzs hsz W.heap.size v1 p _ o1' hr oc (by unfold maxLen; omega) hb2 (by simp; omega)
  have b2 : Below W.heap.size W w2 := (b1.alloc z1 _).grown g2 (by simp; omega) (own_ge o1)
  have z2 := b2.size
  obtain ⟨v3, w3, r3, o3, g3, _⟩ := append_fresh (P := P) (ty := t) (c := ct) h ht hzs hsz W.heap.size v2 (p + 1) _ o2 (h2.below (b2.mono hB)) om (by unfold maxLen; omega) hb3 z2
  have b3 : Below W.heap.size W w3 := b2.grown g3 z2 (own_ge o2)
  rw [show p + 1 + (n - p) = n + 1 by omega, List.append_assoc] at o3
  obtain ⟨A1, c1, rfl⟩ := own_form o1
  obtain ⟨A2, c2, rfl⟩ := own_form o2
  obtain ⟨A3, c3, rfl⟩ := own_form o3
  exact ⟨A1, c1, w1, A2, c2, w2, A3, c3, w3, r1, r2, r3, o3, b3, b1⟩
/-- x's block made ahead of them. -/
theorem ins_y (h : (P.info? e).map (fun i => (i.zero, i.size, i.bytes)) = some (some z, size, bytes)) (ht : P.underlying t = some (.slice e)) (hzs : z.cells.size = size) (hsz : 0 < size) (hby : bytes ≤ 1000) (hcs : cs.length = size)
    (ox : ∀ u ∈ xs, u.oneCell' = true) (oc : ∀ u ∈ cs, u.oneCell' = true) (om : ∀ u ∈ ms, u.oneCell' = true) (h1 : Rd W B size A p xs) (h2 : Rd W B size T (n - p) ms) (hB : B ≤ W.heap.size) (hp : p ≤ n) (hn : n ≤ 1000000) :
    ∃ A1 c1 w1 A2 c2 w2 A3 c3 w3, (Builtin.append_ #[t, t] t #[.slice none 0 0, .slice A p c]).run P (W.alloc (.cells cs.toArray e)) = .ok (.slice A1 p c1) w1 ∧
      (Builtin.append_ #[t, t] t #[.slice A1 p c1, .slice (some ⟨W.heap.size, 0, none⟩) 1 1]).run P w1 = .ok (.slice A2 (p + 1) c2) w2 ∧
      (Builtin.append_ #[t, t] t #[.slice A2 (p + 1) c2, .slice T (n - p) ct]).run P w2 = .ok (.slice A3 (n + 1) c3) w3 ∧
      w3.ownsRow W.heap.size e size (.slice A3 (n + 1) c3) (n + 1) (xs ++ (cs ++ ms)) ∧ Below W.heap.size W w3 := by
  have hb1 : (0 + p) * bytes ≤ 140737488355328 := Nat.le_trans (Nat.mul_le_mul (show 0 + p ≤ 1000001 by omega) hby) (by omega)
  have hb2 : (p + 1) * bytes ≤ 140737488355328 := Nat.le_trans (Nat.mul_le_mul (show p + 1 ≤ 1000001 by omega) hby) (by omega)
  have hb3 : (p + 1 + (n - p)) * bytes ≤ 140737488355328 := Nat.le_trans (Nat.mul_le_mul (show p + 1 + (n - p) ≤ 1000001 by omega) hby) (by omega)
  have b0 : Below W.heap.size W (W.alloc (.cells cs.toArray e)) := (Below.refl _ _).alloc (Nat.le_refl _) _
  obtain ⟨v1, w1, r1, o1, g1, _⟩ := append_fresh (P := P) (w := W.alloc (.cells cs.toArray e)) (ty := t) (c := c) h ht hzs hsz (W.heap.size + 1) (.slice none 0 0) 0 [] (World.ownsRow_nil _ _ _ _) (h1.below (b0.mono hB)) ox (by unfold maxLen; omega) hb1 (by simp)
  have b1' : Below (W.heap.size + 1) (W.alloc (.cells cs.toArray e)) w1 := (Below.refl _ _).grown g1 (by simp) (fun k h => by cases h)
  have b1 : Below W.heap.size W w1 := b0.trans (b1'.mono (by omega))
  rw [Nat.zero_add, List.nil_append] at o1
  have z1 := b1.size
  have z1' : W.heap.size + 1 ≤ w1.heap.size := by have := b1'.size; simpa using this
  have hr0 : Rd (W.alloc (.cells cs.toArray e)) (W.heap.size + 1) size (some ⟨W.heap.size, 0, none⟩) 1 cs := ⟨by rw [hcs, Nat.one_mul], fun _ => ⟨_, rfl, by simp, cells_new W cs _⟩⟩
  obtain ⟨v2, w2, r2, o2, g2, _⟩ := append_fresh (P := P) (ty := t) (c := 1) h ht hzs hsz (W.heap.size + 1) v1 p _ o1 (hr0.below b1') oc (by unfold maxLen; omega) hb2 z1'
  have b2 : Below W.heap.size W w2 := b1.grown g2 z1 (fun k hk => by have := own_ge o1 k hk; omega)
  have z2 := b2.size
  have z2' : W.heap.size + 1 ≤ w2.heap.size := Nat.le_trans z1' g2.size
  obtain ⟨v3, w3, r3, o3, g3, _⟩ := append_fresh (P := P) (ty := t) (c := ct) h ht hzs hsz (W.heap.size + 1) v2 (p + 1) _ o2 (h2.below (b2.mono hB)) om (by unfold maxLen; omega) hb3 z2'
  have b3 : Below W.heap.size W w3 := b2.grown g3 z2 (fun k hk => by have := own_ge o2 k hk; omega)
  rw [show p + 1 + (n - p) = n + 1 by omega, List.append_assoc] at o3
  obtain ⟨A1, c1, rfl⟩ := own_form o1
  obtain ⟨A2, c2, rfl⟩ := own_form o2
  obtain ⟨A3, c3, rfl⟩ := own_form o3
  exact ⟨A1, c1, w1, A2, c2, w2, A3, c3, w3, r1, r2, r3, own_base o3 (by omega), b3⟩
end
end Go.Proofs.YtmgncoialppmpaaGreat

/-
  Contracts of the reference's first, is, Sum.
-/
namespace Go.Proofs.YtmgncoialppmpaaGreat
open Go.RowKit

set_option maxRecDepth 100000 in
set_option maxHeartbeats 400000 in
theorem refIs_any (b : Bool) (x : Int) (w : World) : Calls Tryz.prog 67 #[.bool b, .int .i64 x] w fun e w' => e = .returned (.int .i64 (if b = true then x else 0)) ∧ w = w' := by
  cases b
  all_goals
    go_enter Tryz.func67, Tryz.ntmps67
    go_wp2_with fail
    go_ret
    exact ⟨rfl, rfl⟩

set_option maxRecDepth 100000 in
set_option maxHeartbeats 400000 in
theorem refFirst_any (es : List Int) (A : Option Addr) (n c B : Nat) (w : World) (h : Rd w B 1 A n (ints .i64 es)) (hn : n ≤ 1000) :
    Calls Tryz.prog 66 #[.slice A n c] w fun e w' => e = .returned (.int .i64 (firstE es)) ∧ w = w' := by
  have HL := Lib.hid h.ints_len
  have HR := Lib.hid h
  clear h
  go_enter Tryz.func66, Tryz.ntmps66
  go_wp2_with fail
  go_loopw [3] (fun iv wr => ∃ k : Nat, k ≤ n ∧ iv = .int .i64 k ∧ Hid (firstE (es.take k) = 0) ∧ wr = w) (fun iv _ => n - (intOf iv).toNat)
  case atStart => exact ⟨0, Nat.zero_le _, rfl, rfl, rfl⟩
  case round =>
    obtain ⟨k, hk, rfl, hE, rfl⟩ := hrel
    by_cases hlt : k < n
    · have hkn : (k : Int) < (n : Int) := by omega
      obtain ⟨ad, rfl, hb, hc⟩ := HR.out.int hlt
      have hL := HL.out
      obtain ⟨x, hx⟩ : ∃ x, es[k]? = some x := ⟨_, List.getElem?_eq_getElem (by omega)⟩
      rw [hx] at hc
      have HT := Lib.hid (firstE_take hE.out hx)
      clear hx hE hL
      by_cases hx0 : x = 0
      · subst hx0
        have ht : ((0 : Int) != 0) = false := rfl
        go_wp2_with fail
        exact ⟨⟨k + 1, by omega, by go_num, HT.out.1 (by first | rfl | trivial), by first | rfl | trivial⟩, by simp [intOf]; omega⟩
      · have ht : (x != 0) = true := by simpa using hx0
        have HX := Lib.hid (HT.out.2 hx0)
        clear hx0
        go_wp2_with fail
        go_ret
        exact ⟨ret_int HX.out.symm, rfl⟩
    · obtain rfl : k = n := by omega
      rw [List.take_of_length_le (by have := HL.out; omega)] at hE
      go_wp2_with fail
      go_ret
      exact ⟨ret_int hE.out.symm, rfl⟩

/-- A row's journal counts. -/
theorem sum_line {a : Int} {l : List Lin} {k : Nat} {x : Lin} (h : l[k]? = some x) : (x.acct = a → lineS a (l.take (k + 1)) = lineS a (l.take k) + x.amt) ∧ (x.acct ≠ a → lineS a (l.take (k + 1)) = lineS a (l.take k)) := by
  rw [lineS_step h]
  exact ⟨fun h => by rw [if_pos h], fun h => by rw [if_neg h]; omega⟩

set_option maxRecDepth 100000 in
set_option maxHeartbeats 4000000 in
theorem refSum_any (l : List JR) (a e : Int) (A : Option Addr) (n c B : Nat) (w : World) (h : JlRd w B A n l) (hok : ∀ b ∈ l, checkE b.j = 0) (hn : n ≤ 250) :
    Calls Tryz.prog 23 #[.slice A n c, .int .i64 a, .int .i64 e] w fun r w' => r = .returned (.int .i64 (sumM a e (l.map JR.j))) ∧ w = w' := by
  have HL := Lib.hid h.rd.jrs_len
  have HJ := Lib.hid h
  have HOK := Lib.hid hok
  have HBD : Hid (∀ k, -(8000000000000000 * (n : Int)) ≤ sumM a e ((l.map JR.j).take k) ∧ sumM a e ((l.map JR.j).take k) ≤ 8000000000000000 * (n : Int)) := fun k => by
    have := sumM_bound (a := a) (e := e) (M := (l.map JR.j).take k) (fun x hx => by
      obtain ⟨y, hy, rfl⟩ := List.mem_map.1 (List.mem_of_mem_take hx)
      exact hok y hy)
    have h2 : ((l.map JR.j).take k).length ≤ n := by have := h.rd.jrs_len; simp; omega
    omega
  clear h hok
  go_enter Tryz.func23, Tryz.ntmps23
  go_wp2_with fail
  go_loopw [8, 7, 9] (fun iv sv _ wr => ∃ k : Nat, k ≤ n ∧ iv = .int .i64 k ∧ sv = .int .i64 (sumM a e ((l.map JR.j).take k)) ∧ wr = w) (fun iv _ _ _ => n - (intOf iv).toNat)
  case atStart => exact ⟨0, Nat.zero_le _, rfl, rfl, rfl⟩
  case round =>
    obtain ⟨k, hk, rfl, rfl, rfl⟩ := hrel
    by_cases hlt : k < n
    · have hkn : (k : Int) < (n : Int) := by omega
      obtain ⟨ad, b, rfl, hb1, hx, p1, p2, p3, p4, p5, p6⟩ := HJ.out.rd.jr hlt
      have hmem := List.mem_of_getElem? hx
      have hgx : (l.map JR.j)[k]? = some b.j := by rw [List.getElem?_map, hx]; rfl
      obtain ⟨hfit, hn8, _, _⟩ := checkE_fits (HOK.out b hmem)
      have HST := Lib.hid (sumM_step (a := a) (e := e) hgx)
      have HLN := Lib.hid (HJ.out.lines b hmem)
      have hbd := HBD.out k
      have HFIT := Lib.hid hfit
      clear hx hgx hmem hfit
      obtain ⟨⟨id, ent, per, ref, L, void⟩, A2, c2⟩ := b
      dsimp only at *
      unfold sumJ at HST
      dsimp only at HST
      generalize sumM a e ((l.map JR.j).take k) = S at *
      obtain ⟨m, hm⟩ : ∃ m, L.length = m := ⟨_, rfl⟩
      rw [hm] at p5 hn8 HLN
      by_cases ht : void = false ∧ ent = e
      · obtain ⟨rfl, rfl⟩ := ht
        rw [if_pos ⟨rfl, rfl⟩] at HST
        go_wp2_with fail
        go_loopw [9, 7] (fun jv sv wr2 => ∃ q : Nat, q ≤ m ∧ jv = .int .i64 q ∧ sv = .int .i64 (S + lineS a (L.take q)) ∧ wr2 = wr) (fun jv _ _ => m - (intOf jv).toNat)
        case atStart => exact ⟨0, Nat.zero_le _, rfl, by simp [lineS], rfl⟩
        case round =>
          obtain ⟨q, hq, rfl, rfl, rfl⟩ := hrel
          by_cases hqm : q < m
          · have hqI : (q : Int) < (m : Int) := by omega
            obtain ⟨ad2, x, rfl, hb2, hx, q1, q2, q3⟩ := HLN.out.lin hqm
            have q2' := cell_behind q2 (by omega)
            have hx2 := fits1_iff.1 (List.all_eq_true.1 HFIT.out x (List.mem_of_getElem? hx))
            have hls := lineS_bound (a := a) (fitsL_take HFIT.out q)
            have hlk : (L.take q).length ≤ 8 := by simp; omega
            have HSL := Lib.hid (sum_line (a := a) hx)
            clear hx q2 q3
            obtain ⟨x1, x2, x3⟩ := x
            dsimp only at *
            by_cases hxa : x1 = a
            · have HS2 := Lib.hid (HSL.out.1 hxa)
              have t1 : (x1 == a) = true := by simpa using hxa
              subst hxa
              generalize lineS x1 (L.take q) = Z at *
              go_wp2_with fail
              exact ⟨⟨q + 1, by omega, by go_num, by rw [HS2.out]; congr 1; omega, by first | rfl | trivial⟩, by simp [intOf]; omega⟩
            · have HS2 := Lib.hid (HSL.out.2 hxa)
              have t1 : (x1 == a) = false := by simpa using hxa
              generalize lineS a (L.take q) = Z at *
              go_wp2_with fail
              exact ⟨⟨q + 1, by omega, by go_num, by rw [HS2.out], by first | rfl | trivial⟩, by simp [intOf]; omega⟩
          · obtain rfl : q = m := by omega
            rw [List.take_of_length_le (Nat.le_of_eq hm)]
            go_wp2_with fail
            exact ⟨⟨k + 1, by omega, by go_num, by rw [HST.out], by first | rfl | trivial⟩, by simp [intOf]; omega⟩
      · rw [if_neg ht] at HST
        go_wp2_with fail
        go_loopw [9, 7] (fun jv sv wr2 => ∃ q : Nat, q ≤ m ∧ jv = .int .i64 q ∧ sv = .int .i64 S ∧ wr2 = wr) (fun jv _ _ => m - (intOf jv).toNat)
        case atStart => exact ⟨0, Nat.zero_le _, rfl, rfl, rfl⟩
        case round =>
          obtain ⟨q, hq, rfl, rfl, rfl⟩ := hrel
          by_cases hqm : q < m
          · have hqI : (q : Int) < (m : Int) := by omega
            obtain ⟨ad2, x, rfl, hb2, hx, q1, q2, q3⟩ := HLN.out.lin hqm
            clear hx q2 q3
            cases void
            · have t1 : (ent == e) = false := by simpa using ht
              go_wp2_with fail
              exact ⟨⟨q + 1, by omega, by go_num, rfl, by first | rfl | trivial⟩, by simp [intOf]; omega⟩
            · go_wp2_with fail
              exact ⟨⟨q + 1, by omega, by go_num, rfl, by first | rfl | trivial⟩, by simp [intOf]; omega⟩
          · obtain rfl : q = m := by omega
            go_wp2_with fail
            exact ⟨⟨k + 1, by omega, by go_num, by rw [HST.out]; simp, by first | rfl | trivial⟩, by simp [intOf]; omega⟩
    · obtain rfl : k = n := by omega
      rw [List.take_of_length_le (by rw [List.length_map]; have := HL.out; omega)]
      go_wp2_with fail
      go_ret
      exact ⟨rfl, rfl⟩
end Go.Proofs.YtmgncoialppmpaaGreat
