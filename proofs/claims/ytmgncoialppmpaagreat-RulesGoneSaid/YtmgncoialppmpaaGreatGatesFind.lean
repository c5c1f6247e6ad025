/-
  Contracts of cmp.Compare, slices.Compare over two ints each, slices.BinarySearchFunc over rows by entity and period.
-/
import Derived.Test.YtmgncoialppmpaaGreatMany12
import Derived.Test.YtmgncoialppmpaaGreatMany7
namespace Go.Proofs.YtmgncoialppmpaaGreat
open Go.RowKit

def cmpIGt (a b : Int) : Int := if a < b then -1 else if b < a then 1 else 0

set_option maxRecDepth 100000 in
theorem isNaN_anyGt (a : Int) (w : World) : Calls Tryz.prog 223 #[.int .i64 a] w fun e w' => e = .returned (.bool false) ∧ w = w' := by
  have h : (a != a) = false := by simp
  go_enter Tryz.func223, Tryz.ntmps223
  go_wp2
  go_ret
  exact ⟨rfl, rfl⟩

set_option maxRecDepth 100000 in
theorem compare_anyGt (a b : Int) (w : World) : Calls Tryz.prog 175 #[.int .i64 a, .int .i64 b] w fun e w' => e = .returned (.int .i64 (cmpIGt a b)) ∧ w = w' := by
  have hx : (a < b ∧ cmpIGt a b = -1) ∨ (¬ a < b ∧ b < a ∧ cmpIGt a b = 1) ∨ (¬ a < b ∧ ¬ b < a ∧ cmpIGt a b = 0) := by
    unfold cmpIGt
    by_cases h1 : a < b
    · exact .inl ⟨h1, by simp [h1]⟩
    · by_cases h2 : b < a
      · exact .inr (.inl ⟨h1, h2, by simp [h1, h2]⟩)
      · exact .inr (.inr ⟨h1, h2, by simp [h1, h2]⟩)
  rcases hx with ⟨h1, h3⟩ | ⟨h1, h2, h3⟩ | ⟨h1, h2, h3⟩
  all_goals
    rw [h3]
    clear h3
    go_enter Tryz.func175, Tryz.ntmps175
    go_wp2_with (go_at_call 223; refine (isNaN_anyGt _ _).mono ?_; rintro e w' ⟨rfl, rfl⟩)
    go_ret
    exact ⟨rfl, rfl⟩

theorem cmpI_ne {a b : Int} (h : ¬ a = b) : (cmpIGt a b != 0) = true := by
  unfold cmpIGt
  simp only [bne_iff_ne, ne_eq]
  split
  · omega
  · split <;> omega
theorem cmp2_first {a b c d : Int} (h : ¬ a = c) : cmpIGt a c = cmp2 ⟨a, b, 0⟩ c d := by
  unfold cmpIGt cmp2
  simp only
  split
  · rfl
  · split
    · rfl
    · omega
theorem cmp2_second {a b d : Int} : cmpIGt b d = cmp2 ⟨a, b, 0⟩ a d := by
  unfold cmpIGt cmp2
  simp
set_option maxRecDepth 100000 in
set_option maxHeartbeats 1000000 in
theorem compare2_to (a b c d v : Int) (g1 g2 c1 c2 : Nat) (w : World) (h1 : w.cell? ⟨g1, 0, none⟩ = some (.int .i64 a)) (h2 : w.cell? ⟨g1, 1, none⟩ = some (.int .i64 b)) (h3 : w.cell? ⟨g2, 0, none⟩ = some (.int .i64 c)) (h4 : w.cell? ⟨g2, 1, none⟩ = some (.int .i64 d))
    (hv1 : ¬ a = c → cmpIGt a c = v ∧ (v != 0) = true) (hv2 : a = c → ¬ b = d → cmpIGt b d = v ∧ (v != 0) = true) (hv3 : a = c → b = d → v = 0) :
    Calls Tryz.prog 228 #[.slice (some ⟨g1, 0, none⟩) 2 c1, .slice (some ⟨g2, 0, none⟩) 2 c2] w fun e w' => e = .returned (.int .i64 v) ∧ Drew w w' := by
  have H1 := Lib.hid hv1
  have H2 := Lib.hid hv2
  have H3 := Lib.hid hv3
  clear hv1 hv2 hv3
  go_enter Tryz.func228, Tryz.ntmps228
  go_wp2_with fail
  go_loopw [11] (fun i wr => (i = .int .i64 0 ∨ (i = .int .i64 1 ∧ Hid (a = c)) ∨ (i = .int .i64 2 ∧ Hid (a = c ∧ b = d))) ∧ wr = w) (fun i _ => 2 - (intOf i).toNat)
  case atStart => exact ⟨.inl rfl, rfl⟩
  case round =>
    obtain ⟨rfl | ⟨rfl, hac⟩ | ⟨rfl, hac⟩, rfl⟩ := hrel
    · have kc := Lib.hid (compare_anyGt a c wr)
      by_cases hac : a = c
      · have hv : cmpIGt a c = 0 := by subst hac; simp [cmpIGt]
        rw [hv] at kc
        have HAC := Lib.hid hac
        clear hv hac
        go_wp2_with fail
        refine kc.out.mono ?_
        rintro e w' ⟨rfl, rfl⟩
        go_wp2
        exact ⟨⟨.inr (.inl ⟨rfl, HAC⟩), by first | rfl | trivial⟩, by simp [intOf]⟩
      · obtain ⟨hv, hn⟩ := H1.out hac
        rw [hv] at kc
        clear hv hac
        go_wp2_with fail
        refine kc.out.mono ?_
        rintro e w' ⟨rfl, rfl⟩
        go_wp2
        go_ret
        exact ⟨rfl, Drew.refl _⟩
    · have kc := Lib.hid (compare_anyGt b d wr)
      by_cases hbd : b = d
      · have hv : cmpIGt b d = 0 := by subst hbd; simp [cmpIGt]
        rw [hv] at kc
        have HAC : Hid (a = c ∧ b = d) := ⟨hac.out, hbd⟩
        clear hv hac hbd
        go_wp2_with fail
        refine kc.out.mono ?_
        rintro e w' ⟨rfl, rfl⟩
        go_wp2
        exact ⟨⟨.inr (.inr ⟨rfl, HAC⟩), by first | rfl | trivial⟩, by simp [intOf]⟩
      · obtain ⟨hv, hn⟩ := H2.out hac.out hbd
        rw [hv] at kc
        clear hv hac hbd
        go_wp2_with fail
        refine kc.out.mono ?_
        rintro e w' ⟨rfl, rfl⟩
        go_wp2
        go_ret
        exact ⟨rfl, Drew.refl _⟩
    · obtain rfl := H3.out hac.out.1 hac.out.2
      clear hac
      go_wp2
      go_ret
      exact ⟨rfl, Drew.refl _⟩
theorem compare2_any (a b c d : Int) (g1 g2 c1 c2 : Nat) (w : World) (h1 : w.cell? ⟨g1, 0, none⟩ = some (.int .i64 a)) (h2 : w.cell? ⟨g1, 1, none⟩ = some (.int .i64 b)) (h3 : w.cell? ⟨g2, 0, none⟩ = some (.int .i64 c)) (h4 : w.cell? ⟨g2, 1, none⟩ = some (.int .i64 d)) :
    Calls Tryz.prog 228 #[.slice (some ⟨g1, 0, none⟩) 2 c1, .slice (some ⟨g2, 0, none⟩) 2 c2] w fun e w' => e = .returned (.int .i64 (cmp2 ⟨a, b, 0⟩ c d)) ∧ Drew w w' := by
  refine compare2_to a b c d _ g1 g2 c1 c2 w h1 h2 h3 h4 (fun h => ?_) (fun h k => ?_) fun h k => ?_
  · exact ⟨cmp2_first h, by rw [← cmp2_first h]; exact cmpI_ne h⟩
  · subst h
    exact ⟨cmp2_second, by rw [← cmp2_second]; exact cmpI_ne k⟩
  · subst h k
    unfold cmp2; simp

set_option maxRecDepth 100000 in
theorem placeCmp_anyGt (a : Trio) (en pe : Int) (w : World) : Calls Tryz.prog 227 #[.agg #[.int .i64 a.x, .int .i64 a.y, .int .i64 a.z], .agg #[.int .i64 en, .int .i64 pe]] w fun e w' => e = .returned (.int .i64 (cmp2 a en pe)) ∧ Below w.heap.size w w' := by
  obtain ⟨a, b, z⟩ := a
  obtain ⟨W, hW⟩ : ∃ W, (w.alloc (.cells #[.int .i64 a, .int .i64 b, .int .i64 z] 113)).alloc (.cells #[.int .i64 en, .int .i64 pe] 254) = W := ⟨_, rfl⟩
  have hs : w.heap.size + 2 ≤ W.heap.size := by rw [← hW]; simp
  have h1 : W.cell? ⟨w.heap.size, 0, none⟩ = some (.int .i64 a) := by rw [← hW]; simp [go_sem]
  have h2 : W.cell? ⟨w.heap.size, 1, none⟩ = some (.int .i64 b) := by rw [← hW]; simp [go_sem]
  have h3 : W.cell? ⟨w.heap.size + 1, 0, none⟩ = some (.int .i64 en) := by rw [← hW]; simp [go_sem]
  have h4 : W.cell? ⟨w.heap.size + 1, 1, none⟩ = some (.int .i64 pe) := by rw [← hW]; simp [go_sem]
  have HB : Hid (Below w.heap.size w W) := by rw [← hW]; exact ((Below.refl _ _).alloc (Nat.le_refl _) _).alloc (by simp) _
  have Q := Lib.hid (regrown_calls (w := W) fun w1 hb => (compare2_any a b en pe w.heap.size (w.heap.size + 1) 3 2 w1 ((hb.cell (by show w.heap.size < _; omega)).trans h1) ((hb.cell (by show w.heap.size < _; omega)).trans h2) ((hb.cell (by show w.heap.size + 1 < _; omega)).trans h3) ((hb.cell (by show w.heap.size + 1 < _; omega)).trans h4)).mono fun e w' (h : _ ∧ Drew w1 w') => ⟨h.1, h.2.below⟩)
  have HW := Lib.hid hW
  replace h1 := cell_regrown h1
  replace h2 := cell_regrown h2
  replace h3 := cell_regrown h3
  replace h4 := cell_regrown h4
  have he : cmp2 ⟨a, b, 0⟩ en pe = cmp2 ⟨a, b, z⟩ en pe := rfl
  rw [he] at Q
  clear he hW hs
  generalize cmp2 ⟨a, b, z⟩ en pe = cv at *
  go_enter Tryz.func227, Tryz.ntmps227
  go_wp2_with fail
  rw [HW.out]
  refine wp_region_quiet_below (by kernel_rfl) (by kernel_rfl) ?_
  repeat (quiet_step (fail))
  quiet_step (exact Q.out _ _)
  repeat (quiet_step (fail))
  refine wpQuiet_nil ?_
  intro _ hw'
  obtain ⟨⟨dq, osq⟩, hw''⟩ := hw'
  subst hw''
  go_wp2_with fail
  go_ret
  exact ⟨rfl, HB.out.trans ((below_regrown W dq osq).mono HB.out.size)⟩

/-- At the head of the search: what lies before i is less, what lies from j on is not. -/
def SeekRelGt (w : World) (l : List Trio) (x : Int) (i j : Nat) (wr : World) : Prop :=
  i ≤ j ∧ j ≤ l.length ∧ (∀ (k : Nat) (a : Trio), k < i → l[k]? = some a → a.key < x) ∧ (∀ (k : Nat) (a : Trio), j ≤ k → l[k]? = some a → x ≤ a.key) ∧ Below w.heap.size w wr

set_option maxRecDepth 100000 in
set_option maxHeartbeats 1000000 in
theorem search_anyGt (l : List Trio) (en pe : Int) (ho : okT en pe = true) (A : Option Addr) (n c B : Nat) (w : World) (h : Rd w B 3 A n (trios l)) (hB : B ≤ w.heap.size) (hn : n ≤ 1000000) (hg : GoodT l) :
    Calls Tryz.prog 226 #[.slice A n c, .agg #[.int .i64 en, .int .i64 pe], .func (.func 227) #[] #[]] w fun e w' => e = .returned (.tuple #[.int .i64 (posT l (en * 2000 + pe) : Nat), .bool (findT l (en * 2000 + pe)).isSome]) ∧ Below w.heap.size w w' := by
  have HL := Lib.hid h.trios_len
  have HR := Lib.hid h
  have HS := Lib.hid hg.1
  have HG := Lib.hid hg.2
  have HO := Lib.hid ho
  obtain ⟨x, hxe⟩ : ∃ x, x = en * 2000 + pe := ⟨_, rfl⟩
  rw [← hxe]
  have HXE := Lib.hid hxe
  obtain ⟨w0, hw0⟩ : ∃ w0, w.alloc (.cells #[.int .i64 en, .int .i64 pe] 254) = w0 := ⟨_, rfl⟩
  have HB0 : Hid (Below w.heap.size w w0) := by rw [← hw0]; exact (Below.refl _ _).alloc (Nat.le_refl _) _
  have hs0 : w.heap.size + 1 ≤ w0.heap.size := by rw [← hw0]; simp
  have hk0 : w0.cell? ⟨w.heap.size, 0, none⟩ = some (.int .i64 en) := by rw [← hw0]; simp [go_sem]
  have hk1 : w0.cell? ⟨w.heap.size, 1, none⟩ = some (.int .i64 pe) := by rw [← hw0]; simp [go_sem]
  have HW0 := Lib.hid hw0
  clear h hg ho hxe hw0
  go_enter Tryz.func226, Tryz.ntmps226
  go_wp2_with fail
  rw [HW0.out]
  go_loopw [9, 10] (fun iv jv wr => ∃ i j : Nat, iv = .int .i64 i ∧ jv = .int .i64 j ∧ SeekRelGt w0 l x i j wr) (fun iv jv _ => (intOf jv).toNat - (intOf iv).toNat)
  case atStart => exact ⟨0, n, rfl, rfl, Nat.zero_le _, by rw [HL.out]; exact Nat.le_refl _, (fun k a hk => by omega), (fun k a hk ha => by have := (List.getElem?_eq_some_iff.1 ha).1; have := HL.out; omega), Below.refl _ _⟩
  case round =>
    obtain ⟨i, j, rfl, rfl, hrel⟩ := hrel
    obtain ⟨hij, hjl, hlo, hhi, hbel⟩ := hrel
    have hjn : j ≤ n := by have := HL.out; omega
    have hzr := hbel.size
    have HRr := Lib.hid ((HR.out.below (HB0.out.mono hB)).below (hbel.mono (by omega)))
    have e0 := cell_regrown ((hbel.cell (p := ⟨w.heap.size, 0, none⟩) (by show w.heap.size < _; omega)).trans hk0)
    have e1 := cell_regrown ((hbel.cell (p := ⟨w.heap.size, 1, none⟩) (by show w.heap.size < _; omega)).trans hk1)
    have HLO := Lib.hid hlo; have HHI := Lib.hid hhi; have HB := Lib.hid hbel
    clear hlo hhi hbel hjl
    by_cases hlt : i < j
    · obtain ⟨m, hmd⟩ : ∃ m, m = (i + j) / 2 := ⟨_, rfl⟩
      have him : i ≤ m := by omega
      have hmj : m < j := by omega
      have hm : ((i : Int) + (j : Int)) / 2 = (m : Int) := by omega
      clear hmd
      obtain ⟨ad, a, rfl, hb1, hx, p1, p2, p3⟩ := HRr.out.trio (i := m) (by omega)
      have p2' := cell_behind p2 (by omega)
      have p3' := cell_behind p3 (by omega)
      have hmn : (m : Int) < (n : Int) := by omega
      have Q := Lib.hid (regrown_calls (w := wr) fun w1 _ => placeCmp_anyGt a en pe w1)
      have hlt2 : decide (cmp2 a en pe < 0) = decide (a.key < x) := by rw [cmp2_lt (HG.out a (List.mem_of_getElem? hx)) HO.out, HXE.out]
      have HX := Lib.hid hx
      replace p1 := cell_regrown p1
      replace p2' := cell_regrown p2'
      replace p3' := cell_regrown p3'
      clear p2 p3 hx
      generalize cmp2 a en pe = cv at *
      go_wp2_with fail
      refine wp_region_quiet_below (by kernel_rfl) (by kernel_rfl) ?_
      repeat (quiet_step (fail))
      quiet_step (exact Q.out _ _)
      repeat (quiet_step (fail))
      refine wpQuiet_nil ?_
      intro _ hw'
      obtain ⟨⟨dq, osq⟩, hw''⟩ := hw'
      subst hw''
      have hb2 := below_regrown wr dq osq
      generalize Sort.grow (redrawn wr dq) osq = w' at *
      have HB2 : Hid (Below w0.heap.size w0 w') := HB.out.trans (hb2.mono hzr)
      clear hb2 Q p1 p2' p3' e0 e1
      by_cases hc : a.key < x
      · have hd : cv < 0 := by simpa [hc] using hlt2
        clear hlt2
        go_wp2
        refine ⟨⟨m + 1, j, by go_num, rfl, by omega, by have := HL.out; omega, ?_, HHI.out, HB2.out⟩, by simp [intOf]; omega⟩
        intro k b hk hkb
        rcases Nat.lt_or_ge k m with h1 | h1
        · have := rise_ltGt HS.out h1 hkb HX.out; omega
        · obtain rfl : k = m := by omega
          rw [HX.out] at hkb
          injection hkb with hkb
          rw [← hkb]; exact hc
      · have hd : ¬ cv < 0 := by simpa [hc] using hlt2
        clear hlt2
        go_wp2
        refine ⟨⟨i, m, rfl, rfl, by omega, by have := HL.out; omega, HLO.out, ?_, HB2.out⟩, by simp [intOf]; omega⟩
        intro k b hk hkb
        have := rise_leGt HS.out hk HX.out hkb
        omega
    · obtain rfl : i = j := by omega
      have hpos : posT l x = i := posT_eq (by have := HL.out; omega) HLO.out fun a ha => HHI.out i a (Nat.le_refl _) ha
      have hfind := find_atGt HS.out x
      rw [hpos] at hfind
      have HF := Lib.hid hfind
      have HP := Lib.hid hpos
      clear hpos hfind
      by_cases hin : i < n
      · obtain ⟨ad, a, rfl, hb1, hx, p1, p2, p3⟩ := HRr.out.trio hin
        have p2' := cell_behind p2 (by omega)
        have p3' := cell_behind p3 (by omega)
        have hinI : (i : Int) < (n : Int) := by omega
        have Q := Lib.hid (regrown_calls (w := wr) fun w1 _ => placeCmp_anyGt a en pe w1)
        have hfs : (findT l x).isSome = (cmp2 a en pe == 0) := by
          rw [HF.out, hx, cmp2_eq (HG.out a (List.mem_of_getElem? hx)) HO.out, ← HXE.out]
          by_cases e : a.key = x <;> simp [e]
        have HFS := Lib.hid hfs
        replace p1 := cell_regrown p1
        replace p2' := cell_regrown p2'
        replace p3' := cell_regrown p3'
        clear p2 p3 hx hfs
        generalize cmp2 a en pe = cv at *
        go_wp2_with fail
        refine wp_region_quiet_below (by kernel_rfl) (by kernel_rfl) ?_
        repeat (quiet_step (fail))
        quiet_step (exact Q.out _ _)
        repeat (quiet_step (fail))
        refine wpQuiet_nil ?_
        intro _ hw'
        obtain ⟨⟨dq, osq⟩, hw''⟩ := hw'
        subst hw''
        have hb2 := below_regrown wr dq osq
        generalize Sort.grow (redrawn wr dq) osq = w' at *
        have HB2 : Hid (Below w0.heap.size w0 w') := HB.out.trans (hb2.mono hzr)
        clear hb2 Q p1 p2' p3' e0 e1
        go_wp2
        go_ret2
        exact ⟨by rw [HP.out, HFS.out]; rfl, HB0.out.trans (HB2.out.mono HB0.out.size)⟩
      · have hfs : (findT l x).isSome = false := by
          rw [HF.out, List.getElem?_eq_none (by have := HL.out; omega)]; rfl
        have HFS := Lib.hid hfs
        clear hfs
        have hinI : ¬ (i : Int) < (n : Int) := by omega
        clear e0 e1
        go_wp2_with fail
        go_big_quiet (fail)
        go_wp2
        go_ret2
        exact ⟨by rw [HP.out, HFS.out]; rfl, HB0.out.trans ((HB.out.trans (Drew.mk _ _).below).mono HB0.out.size)⟩
end Go.Proofs.YtmgncoialppmpaaGreat

