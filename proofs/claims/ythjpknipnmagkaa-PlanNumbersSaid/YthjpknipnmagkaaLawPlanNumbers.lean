/-
  The statement PlanNumbers.
-/
-- HOLE2: obtain ⟨fuel1, hf1⟩ := h1
-- obtain ⟨l1, q1, s1, _⟩ := argTpls hf1
-- exact numbers_walk a0 l1 a1 len1 cap1 W q1 s1
import Derived.Test.YthjpknipnmagkaaMany18
import Derived.Test.YthjpknipnmagkaaMany19
import Derived.Test.YthjpknipnmagkaaRefCheck2
import Derived.BigQuiet
namespace Go.Proofs.Ythjpknipnmagkaa
open Mo
open Go.RowKit Go.Sort

theorem loop_step {pr : Option Jrn} {last : Int} {js : List Jrn} {k : Nat} {j : Jrn} (hj : js[k]? = some j) (h : loopN pr last (js.drop k) = true) :
    (turnedO pr j = true ∨ last ≤ j.per) ∧ loopN (some j) (if turnedO pr j = true then last else j.per) (js.drop (k + 1)) = true := by
  obtain ⟨hk, rfl⟩ := List.getElem?_eq_some_iff.1 hj
  rw [List.drop_eq_getElem_cons hk] at h
  unfold loopN at h
  rw [Bool.and_eq_true, Bool.or_eq_true, decide_eq_true_eq] at h
  exact h
/-- The one ahead of place k. -/
def prevJ (js : List Jrn) : Nat → Option Jrn
  | 0 => none
  | k + 1 => js[k]?
theorem add_zero' (a : Addr) : a.add 0 = a := by unfold Addr.add; rw [if_pos rfl]
theorem check_two {j : Jrn} (h : checkE j = 0) : 2 ≤ j.lines.length := by
  unfold checkE at h
  split at h
  · rename_i h2
    have h3 := (Bool.and_eq_true .. ▸ h2).2
    unfold linesOk at h3
    rw [Bool.and_eq_true] at h3
    have := (inB_iff.1 h3.1).1
    omega
  · cases h
theorem check_per {j : Jrn} (h : checkE j = 0) : 0 ≤ j.per ∧ j.per < 1200 := by
  unfold checkE at h
  split at h
  · rename_i h2
    have h3 := (Bool.and_eq_true .. ▸ h2).1
    unfold frontOk at h3
    simp only [Bool.and_eq_true] at h3
    have := h3.1.2
    unfold okP at this
    simp at this
    omega
  · cases h
theorem check_id {j : Jrn} (h : checkE j = 0) : 1 ≤ j.id ∧ j.id ≤ 999999 := by
  unfold checkE at h
  split at h
  · rename_i h2
    have h3 := (Bool.and_eq_true .. ▸ h2).1
    unfold frontOk at h3
    simp only [Bool.and_eq_true] at h3
    exact inB_iff.1 h3.1.1.1
  · cases h
theorem check_fits {j : Jrn} (h : checkE j = 0) {x : Lin} (hx : x ∈ j.lines) : -1000000000000000 ≤ x.amt ∧ x.amt ≤ 1000000000000000 := by
  unfold checkE at h
  split at h
  · split at h
    · rename_i h3
      exact fits1_iff.1 (List.all_eq_true.1 h3 x hx)
    · cases h
  · cases h
/-- What the statement's line asks, value by value. -/
theorem turned_two {a b : Jrn} {x y : Lin} (hx : a.lines[0]? = some x) (hy : b.lines[0]? = some y) : turnedJ a b = (((decide (b.lines.length = 2) && decide (b.per = a.per + 1)) && decide (y.amt = -x.amt)) && decide (y.acct = x.acct)) := by
  unfold turnedJ
  have h1 : a.lines.head? = some x := by rw [← hx]; exact List.head?_eq_getElem?
  have h2 : b.lines.head? = some y := by rw [← hy]; exact List.head?_eq_getElem?
  simp [h1, h2]
theorem perT_ge {t : Tpl} {p : Int} (h : p ∈ perT t) : 0 ≤ p := by
  unfold perT at h
  split at h
  · rename_i hc
    obtain ⟨h1, h2, h3, h4, _⟩ := front_of hc
    unfold perL at h
    obtain ⟨k, _, rfl⟩ := List.mem_map.1 h
    have : 0 ≤ (k : Int) * t.ev := Int.mul_nonneg (by omega) (by omega)
    omega
  · cases h
theorem itemsK_ge (l : List Tpl) : ∀ k, ∀ x ∈ itemsK l k, 0 ≤ x.per
  | 0, _, h => by cases h
  | k + 1, x, h => by
    rcases List.mem_append.1 h with h | h
    · exact itemsK_ge l k x h
    · cases hg : l[k]? with
      | none => rw [hg] at h; cases h
      | some t =>
        rw [hg] at h
        obtain ⟨p, hp, rfl⟩ := List.mem_map.1 (show x ∈ tplP k t.rk (perT t) from h)
        exact perT_ge hp
theorem runJ_all {l : List Tpl} {first : Int} {js : List Jrn} (h : runJ l first = some js) : loopN none 0 js = true ∧ Numbered first js ∧ ∀ j ∈ js, checkE j = 0 := by
  unfold runJ at h
  have hr : Rises (putsI [] (itemsK l l.length)) := putsI_rises _ _ List.Pairwise.nil
  obtain ⟨tail, e, hg⟩ := runT_groups (p := 0) (fromP_of_rises hr fun x hx => by
    rcases mem_putsI _ _ x hx with hx | hx
    · cases hx
    · exact itemsK_ge _ _ x hx) h
  rw [List.nil_append] at e
  subst e
  obtain ⟨h1, h2⟩ := runT_numbers (fun i j hj => by simp at hj) (fun j hj => by cases hj) h
  exact ⟨hg.loop none 0 (by omega), h1, h2⟩

set_option maxRecDepth 100000 in
set_option maxHeartbeats 8000000 in
theorem numbers_walk (first : Int) (l : List Tpl) (A : Option Addr) (n c : Nat) (w : World) (hR : Rd w w.heap.size 12 A n (tpls l)) (hin : ∀ t ∈ l, TplIn w t) :
    Calls Try.prog 4 #[.int .i64 first, .slice A n c] w fun e w' => e = .returned (.bool true) ∧ Below w.heap.size w w' := by
  have KS := Lib.hid (small_any l A n c w hR hin)
  have KA : Hid (∀ w1, Calls Try.prog 11 #[] w1 fun e w' => e = .returned (.bool true) ∧ Below w1.heap.size w1 w') := alive9_any
  have HLN := Lib.hid hR.tpls_len
  have KR : Hid (FewT l → 1 ≤ first → first ≤ 900000 → ∀ w1, Below w.heap.size w w1 → Calls Try.prog 14 #[.int .i64 first, .slice A n c] w1 (RunEnd w1 (runJ l first))) := fun hf h1 h2 w1 hb =>
    run_any first l A n c w1 ((hR.below hb).wide hb.size) (fun t ht => (hin t ht).below hb) (by have := hf.few; have := HLN.out; omega) (by omega)
  clear hR hin
  go_enter Try.func4, Try.ntmps4
  go_wp2_with fail
  refine KS.out.mono ?_
  rintro e w3 ⟨b, rfl, hfew, hb3⟩
  have HB3 := Lib.hid hb3
  have HF := Lib.hid hfew
  clear hb3 hfew KS
  have end_alive : True := trivial
  cases b
  · go_wp2_with fail
    refine (KA.out _).mono ?_
    rintro e w4 ⟨rfl, hb4⟩
    have HB4 := Lib.hid (HB3.out.trans (hb4.mono HB3.out.size))
    clear hb4
    go_wp2_with fail
    go_ret
    exact ⟨rfl, HB4.out⟩
  by_cases h1 : first < 1
  · go_wp2_with fail
    refine (KA.out _).mono ?_
    rintro e w4 ⟨rfl, hb4⟩
    have HB4 := Lib.hid (HB3.out.trans (hb4.mono HB3.out.size))
    clear hb4
    go_wp2_with fail
    go_ret
    exact ⟨rfl, HB4.out⟩
  by_cases h2 : 900000 < first
  · go_wp2_with fail
    refine (KA.out _).mono ?_
    rintro e w4 ⟨rfl, hb4⟩
    have HB4 := Lib.hid (HB3.out.trans (hb4.mono HB3.out.size))
    clear hb4
    go_wp2_with fail
    go_ret
    exact ⟨rfl, HB4.out⟩
  have KR2 := Lib.hid (KR.out (HF.out rfl) (by omega) (by omega))
  clear KR
  go_wp2_with fail
  refine (KA.out _).mono ?_
  rintro e w4 ⟨rfl, hb4⟩
  have HB4 := Lib.hid (HB3.out.trans (hb4.mono HB3.out.size))
  have KR3 := Lib.hid (KR2.out w4 HB4.out)
  clear hb4 KR2
  go_wp2_with fail
  refine KR3.out.mono ?_
  rintro e w5 ⟨hb5, hres⟩
  have HB5 := Lib.hid (HB4.out.trans (hb5.mono HB4.out.size))
  clear hb5 KR3
  rcases hres with ⟨_, rfl⟩ | ⟨A5, c5, la, hrun, rfl, hown⟩
  · go_wp2_with fail
    go_ret
    exact ⟨rfl, HB5.out⟩
  obtain ⟨hl0, hnum, hchk⟩ := runJ_all hrun
  have HL0 := Lib.hid hl0
  have HNUM : Hid (∀ (k : Nat) (a : JR), la[k]? = some a → a.j.id = first + (k : Int) ∧ checkE a.j = 0) := fun k a hk => ⟨hnum k a.j (by rw [List.getElem?_map, hk]; rfl), hchk _ (List.mem_map_of_mem (List.mem_of_getElem? hk))⟩
  have HRD : Hid (Rd w5 w5.heap.size 6 A5 la.length (jrs la)) := rd_of_own hown.own
  have HLI : Hid (∀ a ∈ la, Rd w5 w5.heap.size 3 a.A a.j.lines.length (lins a.j.lines)) := fun a ha => rd_of_own (hown.lines a ha)
  have hlen : la.length ≤ maxLen := by
    rcases hown.own.2 with ⟨_, h⟩ | ⟨g, cap, cur, hv, hB, hh, hn, hc, _⟩
    · omega
    · omega
  obtain ⟨m, hm⟩ : ∃ m, la.length = m := ⟨_, rfl⟩
  have HM := Lib.hid hm
  rw [hm] at HRD hlen
  rw [hm]
  clear hm hl0 hnum hchk hown hrun
  unfold maxLen at hlen
  go_wp2_with fail
  go_loopw [7, 8] (fun lv iv wr => ∃ (k : Nat) (last : Int), k ≤ m ∧ iv = .int .i64 k ∧ lv = .int .i64 last ∧ Hid (loopN (prevJ (la.map JR.j) k) last ((la.map JR.j).drop k) = true) ∧ Below w5.heap.size w5 wr) (fun _ iv _ => m - (intOf iv).toNat)
  case atStart => exact ⟨0, 0, Nat.zero_le _, rfl, rfl, HL0.out, Below.refl _ _⟩
  case round =>
    obtain ⟨k, last, hk, rfl, rfl, hlp, hbel⟩ := hrel
    have HBW : Hid (Below w.heap.size w wr) := HB5.out.trans (hbel.mono HB5.out.size)
    by_cases hlt : k < m
    · obtain ⟨ad, a, rfl, hb0, hx, p0, p1, p2, p3, p4, p5⟩ := (HRD.out.below hbel).jr hlt
      obtain ⟨hid, hch⟩ := HNUM.out k a hx
      have hmem := List.mem_of_getElem? hx
      have kc := refCheck_any a.j a.A a.j.lines.length a.c w5.heap.size wr ((HLI.out a hmem).below hbel) hbel.size
      rw [hch] at kc
      unfold Jrn.val at kc
      rw [hid] at kc
      have KC := Lib.hid kc
      have HX := Lib.hid hx; have HCH := Lib.hid hch; have HBEL := Lib.hid hbel; have HLP := Lib.hid hlp
      have hkI : (k : Int) < (m : Int) := by omega
      have hci := check_id hch
      rw [hid] at hci
      have hw1 : wrap64 (first + (k : Int)) = first + (k : Int) := by unfold wrap64; omega
      rw [hid] at p0
      clear hx hch hbel hlp kc hmem hid
      go_wp2_with fail
      refine KC.out.mono ?_
      rintro e wv ⟨rfl, hbv⟩
      have HBV := Lib.hid (HBW.out.trans (hbv.mono HBW.out.size))
      have HBV5 := Lib.hid (HBEL.out.trans (hbv.mono HBEL.out.size))
      clear hbv KC p0 p1 p2 p3 p4 p5 hb0
      obtain ⟨ad', a', hA', hb0, hx', p0, p1, p2, p3, p4, p5⟩ := (HRD.out.below HBV5.out).jr hlt
      injection hA' with hA'
      subst hA'
      obtain rfl : a = a' := by
        have := HX.out.symm.trans hx'
        injection this
      obtain ⟨al, x, hal, hbl, hx0, y0, y1, y2⟩ := ((HLI.out a (List.mem_of_getElem? hx')).below HBV5.out).lin (i := 0) (by have := check_two HCH.out; omega)
      rw [hal] at p4
      clear p0 p1 p3 p5 hx'
      simp only [Nat.zero_mul] at y0 y1 y2
      rw [add_zero'] at y0
      replace y1 := cell_behind (j := 1) y1 (by omega)
      rw [add_zero'] at y1
      have HN : Hid (∀ z : Bool, turnedO (prevJ (la.map JR.j) k) a.j = z → loopN (prevJ (la.map JR.j) (k + 1)) (if z = true then last else a.j.per) ((la.map JR.j).drop (k + 1)) = true ∧ (z = false → last ≤ a.j.per)) := by
        intro z hz
        have hg : (la.map JR.j)[k]? = some a.j := by rw [List.getElem?_map, HX.out]; rfl
        obtain ⟨g1, g2⟩ := loop_step hg HLP.out
        rw [hz] at g1 g2
        refine ⟨?_, fun h => ?_⟩
        · show loopN ((la.map JR.j)[k]?) _ _ = true
          rw [hg]; exact g2
        · subst h
          rcases g1 with g1 | g1
          · cases g1
          · exact g1
      clear HLP hb0
      rcases Nat.eq_zero_or_pos k with hk0 | hk0
      · have hd0 : decide (0 < k) = false := decide_eq_false (by omega)
        have hz : turnedO (prevJ (la.map JR.j) k) a.j = false := by rw [hk0]; rfl
        obtain ⟨g1, g2⟩ := HN.out _ hz
        have HG := Lib.hid g1
        have hle := g2 rfl
        clear y0 y1 y2 hk0 hz HN g1 g2
        go_wp2_with fail
        refine wp_region_quiet_lit (by kernel_rfl) (by kernel_rfl) ?_
        simp only [List.append]
        repeat (go_big_quiet_step (fail))
        refine wpQuiet_nil ?_
        intro _ hw'
        obtain ⟨nq, rfl⟩ := hw'
        go_wp2_with fail
        exact ⟨⟨k + 1, _, by omega, by go_num, rfl, HG.out, below_drewN HBV5.out _⟩, by simp [intOf]; omega⟩
      have hk1 : wrap64 ((k : Int) - 1) = ((k - 1 : Nat) : Int) := by unfold wrap64; omega
      have hk2 : ((k - 1 : Nat) : Int) < (m : Int) := by omega
      have hd0 : decide (0 < k) = true := decide_eq_true hk0
      obtain ⟨ad', b, hA', _, hxb, _, _, r2, _, r4, _⟩ := (HRD.out.below HBV5.out).jr (i := k - 1) (by omega)
      injection hA' with hA'
      subst hA'
      obtain ⟨hidb, hchb⟩ := HNUM.out _ b hxb
      obtain ⟨bl, xb, hbl, _, hxb0, z0, z1, z2⟩ := ((HLI.out b (List.mem_of_getElem? hxb)).below HBV5.out).lin (i := 0) (by have := check_two hchb; omega)
      rw [hbl] at r4
      simp only [Nat.zero_mul] at z0 z1
      rw [add_zero'] at z0
      replace z1 := cell_behind (j := 1) z1 (by omega)
      rw [add_zero'] at z1
      have hpb := check_per hchb
      have hfb := check_fits hchb (List.mem_of_getElem? hxb0)
      have hwp : wrap64 (b.j.per + 1) = b.j.per + 1 := by unfold wrap64; omega
      have hwn : wrap64 (-xb.amt) = -xb.amt := by unfold wrap64; omega
      have HLB : Hid (2 ≤ b.j.lines.length) := check_two hchb
      have HLA : Hid (2 ≤ a.j.lines.length) := check_two HCH.out
      have HT : Hid (turnedO (prevJ (la.map JR.j) k) a.j = (((decide (a.j.lines.length = 2) && decide (a.j.per = b.j.per + 1)) && decide (x.amt = -xb.amt)) && decide (x.acct = xb.acct))) := by
        have h0 : prevJ (la.map JR.j) k = some b.j := by
          obtain ⟨k', rfl⟩ : ∃ k', k = k' + 1 := ⟨k - 1, by omega⟩
          show (la.map JR.j)[k']? = _
          rw [List.getElem?_map, show la[k']? = some b from hxb]; rfl
        rw [Hid, h0]
        exact turned_two hxb0 hx0
      clear y2 z2 hidb hchb hpb hfb hxb hxb0 hx0 hbl hal HCH
      have hlb := HLB.out
      have hla := HLA.out
      generalize a.j.lines.length = La at *
      generalize b.j.lines.length = Lb at *
      have hLb0 : (0 : Int) < (Lb : Int) := by omega
      have hLa0 : (0 : Int) < (La : Int) := by omega
      clear HLB HLA hlb hla
      by_cases hL : La = 2
      · have hd1 : ((La : Int) == 2) = true := beq_iff_eq.2 (by omega)
        by_cases hP : a.j.per = b.j.per + 1
        · have hd2 : (a.j.per == b.j.per + 1) = true := beq_iff_eq.2 hP
          by_cases hA : x.amt = -xb.amt
          · have hd3 : (x.amt == -xb.amt) = true := beq_iff_eq.2 hA
            by_cases hC : x.acct = xb.acct
            · have hd4 : (x.acct == xb.acct) = true := beq_iff_eq.2 hC
              have hz : turnedO (prevJ (la.map JR.j) k) a.j = true := by rw [HT.out, decide_eq_true hL, decide_eq_true hP, decide_eq_true hA, decide_eq_true hC]; rfl
              obtain ⟨g1, g2⟩ := HN.out _ hz
              have HG := Lib.hid g1
              clear hz HN g1 g2 HT hL hP hA hC
              go_wp2_with fail
              refine wp_region_quiet_lit (by kernel_rfl) (by kernel_rfl) ?_
              simp only [List.append]
              repeat (go_big_quiet_step (fail))
              refine wpQuiet_nil ?_
              intro _ hw'
              obtain ⟨nq, rfl⟩ := hw'
              go_wp2_with fail
              exact ⟨⟨k + 1, _, by omega, by go_num, rfl, HG.out, below_drewN HBV5.out _⟩, by simp [intOf]; omega⟩
            · have hz : turnedO (prevJ (la.map JR.j) k) a.j = false := by rw [HT.out, decide_eq_false hC]; simp
              obtain ⟨g1, g2⟩ := HN.out _ hz
              have HG := Lib.hid g1
              have hle := g2 rfl
              have hd4 : (x.acct == xb.acct) = false := beq_eq_false_iff_ne.2 hC
              clear hL hP hA
              clear hz HN g1 g2 HT
              go_wp2_with fail
              refine wp_region_quiet_lit (by kernel_rfl) (by kernel_rfl) ?_
              simp only [List.append]
              repeat (go_big_quiet_step (fail))
              refine wpQuiet_nil ?_
              intro _ hw'
              obtain ⟨nq, rfl⟩ := hw'
              go_wp2_with fail
              exact ⟨⟨k + 1, _, by omega, by go_num, rfl, HG.out, below_drewN HBV5.out _⟩, by simp [intOf]; omega⟩
          · have hz : turnedO (prevJ (la.map JR.j) k) a.j = false := by rw [HT.out, decide_eq_false hA]; simp
            obtain ⟨g1, g2⟩ := HN.out _ hz
            have HG := Lib.hid g1
            have hle := g2 rfl
            have hd3 : (x.amt == -xb.amt) = false := beq_eq_false_iff_ne.2 hA
            clear hL hP
            clear hz HN g1 g2 HT
            go_wp2_with fail
            refine wp_region_quiet_lit (by kernel_rfl) (by kernel_rfl) ?_
            simp only [List.append]
            repeat (go_big_quiet_step (fail))
            refine wpQuiet_nil ?_
            intro _ hw'
            obtain ⟨nq, rfl⟩ := hw'
            go_wp2_with fail
            exact ⟨⟨k + 1, _, by omega, by go_num, rfl, HG.out, below_drewN HBV5.out _⟩, by simp [intOf]; omega⟩
        · have hz : turnedO (prevJ (la.map JR.j) k) a.j = false := by rw [HT.out, decide_eq_false hP]; simp
          obtain ⟨g1, g2⟩ := HN.out _ hz
          have HG := Lib.hid g1
          have hle := g2 rfl
          have hd2 : (a.j.per == b.j.per + 1) = false := beq_eq_false_iff_ne.2 hP
          clear hL
          clear hz HN g1 g2 HT
          go_wp2_with fail
          refine wp_region_quiet_lit (by kernel_rfl) (by kernel_rfl) ?_
          simp only [List.append]
          repeat (go_big_quiet_step (fail))
          refine wpQuiet_nil ?_
          intro _ hw'
          obtain ⟨nq, rfl⟩ := hw'
          go_wp2_with fail
          exact ⟨⟨k + 1, _, by omega, by go_num, rfl, HG.out, below_drewN HBV5.out _⟩, by simp [intOf]; omega⟩
      · have hz : turnedO (prevJ (la.map JR.j) k) a.j = false := by rw [HT.out, decide_eq_false hL]; rfl
        obtain ⟨g1, g2⟩ := HN.out _ hz
        have HG := Lib.hid g1
        have hle := g2 rfl
        have hd1 : ((La : Int) == 2) = false := beq_eq_false_iff_ne.2 (by omega)
        clear hz HN g1 g2 HT
        go_wp2_with fail
        refine wp_region_quiet_lit (by kernel_rfl) (by kernel_rfl) ?_
        simp only [List.append]
        repeat (go_big_quiet_step (fail))
        refine wpQuiet_nil ?_
        intro _ hw'
        obtain ⟨nq, rfl⟩ := hw'
        go_wp2_with fail
        exact ⟨⟨k + 1, _, by omega, by go_num, rfl, HG.out, below_drewN HBV5.out _⟩, by simp [intOf]; omega⟩
    · obtain rfl : k = m := by omega
      go_wp2_with fail
      go_ret
      exact ⟨rfl, HBW.out⟩
end Go.Proofs.Ythjpknipnmagkaa

