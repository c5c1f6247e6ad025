/-
  The statement TrialPlus.
-/
-- HOLE2: obtain ⟨fuel0, hf0⟩ := h0
-- obtain ⟨fuel1, hf1⟩ := h1
-- obtain ⟨l0, q0, b0, _, s0, _⟩ := argBals hf0
-- obtain ⟨l1, q1, b1, _, s1, _⟩ := argBals hf1
-- exact trialPlus_walk l0 l1 a0 a1 len0 len1 cap0 cap1 W q0 q1 b0 b1 (fun x hx => (s0 x hx).1) (fun x hx => (s1 x hx).1)
import Derived.Test.YthjpknipnmagkaaTrialAlive
import Derived.Test.YthjpknipnmagkaaMany12
import Derived.Test.YthjpknipnmagkaaIntMap
import Derived.Test.YthjpknipnmagkaaRefCheck
import Derived.Test.YthjpknipnmagkaaQuietTail
import Derived.BigQuiet
namespace Go.Proofs.Ythjpknipnmagkaa
open Mo
open Go.RowKit Go.Sort

def amtOk (x : Bal) : Prop := -1099511627776 ≤ x.amt ∧ x.amt ≤ 1099511627776
theorem sumB_bound {a : Int} : ∀ {l : List Bal}, (∀ x ∈ l, amtOk x) → -(1099511627776 * (l.length : Int)) ≤ sumB a l ∧ sumB a l ≤ 1099511627776 * (l.length : Int)
  | [], _ => by simp [sumB]
  | x :: r, h => by
    have h1 := sumB_bound (a := a) fun y hy => h y (List.mem_cons_of_mem _ hy)
    have h2 := h x (List.mem_cons_self ..)
    unfold amtOk at h2
    rw [sumB, List.length_cons]
    split <;> omega
theorem plusB_small {l : List Bal} (h : ∀ x ∈ l, amtOk x) (hl : l.length ≤ 60) : plusB l = true := plusB_iff.2 fun x hx => by
  have h1 := h x hx
  have h2 := sumB_bound (a := x.acct) h
  unfold amtOk at h1
  exact ⟨fits1_iff.2 ⟨by omega, by omega⟩, fits1_iff.2 ⟨by omega, by omega⟩⟩
theorem sumB_step {a : Int} {l : List Bal} {k : Nat} {x : Bal} (h : l[k]? = some x) : sumB a (l.take (k + 1)) = sumB a (l.take k) + if x.acct = a then x.amt else 0 := by
  obtain ⟨hk, rfl⟩ := List.getElem?_eq_some_iff.1 h
  rw [List.take_succ_eq_append_getElem hk, sumB_append]
  simp [sumB]
theorem rise_len : ∀ (R l : List Bal), (R.Pairwise fun x y => x.acct < y.acct) → (∀ x ∈ R, ∃ y ∈ l, y.acct = x.acct) → R.length ≤ l.length
  | [], _, _, _ => Nat.zero_le _
  | x :: r, l, hr, h => by
    have h2 := List.pairwise_cons.1 hr
    obtain ⟨y, hy, e⟩ := h x (List.mem_cons_self ..)
    have ih := rise_len r (l.filter fun z => z.acct != x.acct) h2.2 fun z hz => by
      obtain ⟨u, hu, e2⟩ := h z (List.mem_cons_of_mem _ hz)
      have := h2.1 z hz
      exact ⟨u, List.mem_filter.2 ⟨hu, by simp; omega⟩, e2⟩
    have hlt : (l.filter fun z => z.acct != x.acct).length < l.length := List.length_filter_lt_length_iff_exists.2 ⟨y, hy, by simp [e]⟩
    rw [List.length_cons]
    omega
theorem PlusOf.len {l R : List Bal} (h : PlusOf l R) : R.length ≤ l.length := rise_len R l h.rise fun x hx => by
  have h1 := (h.mem x).1 hx
  by_cases hy : ∃ y ∈ l, y.acct = x.acct
  · exact hy
  · rw [sumB_out fun y hm e => hy ⟨y, hm, e⟩] at h1
    omega
/-- How many of the balances have come up. -/
def CntR (R : List Bal) (left : Lit → Bool) (q : Nat) : Prop := (R.filter fun b => !left (.int .i64 b.acct)).length = q
theorem is64_of {w : World} {b n : Nat} {D : DataW Unit} {f : Int → Int} (h : IMapAt w b n D f) {a : Int} (ha : is64 a) : is64 (f a) := (h.look ha).2
theorem cnt_start {L R : List Bal} {w : World} {b n : Nat} {D : DataW Unit} (hw : ∀ x ∈ L, is64 x.acct) (h : PlusOf L R) (hS : IMapAt w b n D (fun a => sumB a L)) : CntR R (Maps.has D) 0 := by
  unfold CntR
  rw [List.length_eq_zero_iff, List.filter_eq_nil_iff]
  intro x hx
  have hm := (h.mem x).1 hx
  have hy : ∃ y ∈ L, y.acct = x.acct := by
    by_cases hy : ∃ y ∈ L, y.acct = x.acct
    · exact hy
    · rw [sumB_out fun y hm e => hy ⟨y, hm, e⟩] at hm
      omega
  obtain ⟨y, hy, e⟩ := hy
  have h64 : is64 x.acct := e ▸ hw y hy
  cases hh : Maps.has D (.int .i64 x.acct)
  · have := hS.absent h64 hh
    omega
  · simp
theorem cnt_one : ∀ (R : List Bal) (p q : Bal → Bool) (x : Bal), (R.Pairwise fun x y => x.acct < y.acct) → x ∈ R → (∀ b ∈ R, b.acct ≠ x.acct → q b = p b) → p x = false → q x = true → (R.filter q).length = (R.filter p).length + 1
  | [], _, _, _, _, h, _, _, _ => by cases h
  | y :: r, p, q, x, hr, hx, hq, h1, h2 => by
    have hp := List.pairwise_cons.1 hr
    rcases List.mem_cons.1 hx with rfl | hx
    · have e : r.filter q = r.filter p := List.filter_congr fun b hb => hq b (List.mem_cons_of_mem _ hb) (by have := hp.1 b hb; omega)
      rw [List.filter_cons, List.filter_cons, h1, h2, if_pos rfl, if_neg (by decide), e, List.length_cons]
    · have ih := cnt_one r p q x hp.2 hx (fun b hb => hq b (List.mem_cons_of_mem _ hb)) h1 h2
      have e : q y = p y := hq y (List.mem_cons_self ..) (by have := hp.1 x hx; omega)
      rw [List.filter_cons, List.filter_cons, e]
      cases p y
      · simpa using ih
      · simp only [if_true, List.length_cons]
        omega
theorem sameKey_ne {a b : Int} (h : a ≠ b) : (Lit.int .i64 a).sameKey (.int .i64 b) = false := by
  cases hh : (Lit.int .i64 a).sameKey (.int .i64 b)
  · rfl
  · have := WideAt.sameKey_eq hh
    injection this with _ this
    exact absurd this h
theorem cnt_zero {R : List Bal} {left : Lit → Bool} {q : Nat} {a : Int} (h : CntR R left q) (ha : ∀ b ∈ R, b.acct ≠ a) : CntR R (fun z => left z && !z.sameKey (.int .i64 a)) q := by
  unfold CntR at h ⊢
  rw [← h]
  congr 1
  refine List.filter_congr fun b hb => ?_
  simp [sameKey_ne (ha b hb)]
theorem cnt_more {L R : List Bal} {left : Lit → Bool} {q : Nat} {x : Bal} (hP : PlusOf L R) (h : CntR R left q) (hx : x ∈ R) (hl : left (.int .i64 x.acct) = true) : CntR R (fun z => left z && !z.sameKey (.int .i64 x.acct)) (q + 1) := by
  unfold CntR at h ⊢
  rw [← h]
  refine cnt_one R _ _ x hP.rise hx (fun b _ hb => ?_) (by simp [hl]) ?_
  · simp [sameKey_ne hb]
  · simp [Lit.sameKey]
theorem cnt_all {R : List Bal} {left : Lit → Bool} {q : Nat} (h : CntR R left q) (hl : ∀ kl, left kl = false) : q = R.length := by
  unfold CntR at h
  rw [← h, List.filter_eq_self.2 fun b _ => by simp [hl]]
set_option maxRecDepth 100000 in
set_option maxHeartbeats 8000000 in
theorem trialPlus_walk (la lb : List Bal) (A1 A2 : Option Addr) (n1 n2 c1 c2 : Nat) (w : World) (h1 : Rd w w.heap.size 2 A1 n1 (bals la)) (h2 : Rd w w.heap.size 2 A2 n2 (bals lb)) (hm1 : n1 ≤ maxLen) (hm2 : n2 ≤ maxLen) (hw1 : ∀ x ∈ la, i64ok x.acct) (hw2 : ∀ x ∈ lb, i64ok x.acct) :
    Calls Try.prog 7 #[.slice A1 n1 c1, .slice A2 n2 c2] w fun e w' => e = .returned (.bool true) ∧ Below w.heap.size w w' := by
  unfold maxLen at hm1 hm2
  have KA : Hid (∀ w1, Calls Try.prog 16 #[] w1 fun e w' => e = .returned (.bool true) ∧ Below w1.heap.size w1 w') := alive10_any
  have HR1 := Lib.hid (fun w1 (hb : Below w.heap.size w w1) => h1.below hb)
  have HR2 := Lib.hid (fun w1 (hb : Below w.heap.size w w1) => h2.below hb)
  have HL1 := Lib.hid h1.bals_len
  have HL2 := Lib.hid h2.bals_len
  have HW : Hid (∀ x ∈ la ++ lb, is64 x.acct) := fun x hx => by
    rcases List.mem_append.1 hx with hx | hx
    · exact hw1 x hx
    · exact hw2 x hx
  have hmm := @run_makeMap Try.prog
  clear h1 h2 hw1 hw2
  go_enter Try.func7, Try.ntmps7
  by_cases g1 : 30 < (n1 : Int)
  · go_wp2_with fail
    refine (KA.out _).mono ?_
    rintro e w4 ⟨rfl, hb4⟩
    have HB4 := Lib.hid hb4
    clear hb4
    go_wp2_with fail
    go_ret
    exact ⟨rfl, HB4.out⟩
  by_cases g2 : 30 < (n2 : Int)
  · go_wp2_with fail
    refine (KA.out _).mono ?_
    rintro e w4 ⟨rfl, hb4⟩
    have HB4 := Lib.hid hb4
    clear hb4
    go_wp2_with fail
    go_ret
    exact ⟨rfl, HB4.out⟩
  go_wp2_with fail
  refine (KA.out _).mono ?_
  rintro e w4 ⟨rfl, hb4⟩
  have HB4 := Lib.hid hb4
  have hz4 := hb4.size
  obtain ⟨v5, w5, hrun5, hown5, hb5⟩ := append_bals (base := w.heap.size) (m := 0) (c := c1) (v := .slice none 0 0) (L := []) (World.ownsRow_nil _ _ _ _) (HR1.out w4 hb4) hz4 (by omega)
  rw [Nat.zero_add, List.nil_append] at hown5
  have hb45 := hb4.trans hb5
  have hz5 := hb45.size
  obtain ⟨v6, w6, hrun6, hown6, hb6⟩ := append_bals (c := c2) hown5 (HR2.out w5 hb45) hz5 (by omega)
  have HB6 := Lib.hid (hb45.trans hb6)
  obtain ⟨A6, c6, rfl⟩ := own_form hown6
  have HR6 : Hid (Rd w6 w6.heap.size 2 A6 (n1 + n2) (bals (la ++ lb))) := rd_of_own hown6
  clear hb4 hown5 hb5 hb45 hown6 hb6
  obtain ⟨n, hn⟩ : ∃ n, n1 + n2 = n := ⟨_, rfl⟩
  rw [hn] at HR6 hrun6
  have HN := Lib.hid hn
  obtain ⟨L, hL⟩ : ∃ L, la ++ lb = L := ⟨_, rfl⟩
  have HLL := Lib.hid hL
  rw [hL] at HR6 HW
  have HLN : Hid (L.length = n) := by rw [Hid, ← hL, List.length_append, HL1.out, HL2.out, hn]
  have hn60 : n ≤ 60 := by omega
  clear hn hL
  go_wp2_with (at_builtin; first | refine Lib.wpList_append_run _ rfl _ _ _ _ rfl _ _ rfl rfl _ _ (hrun5 _) ?_ | refine Lib.wpList_append_run _ rfl _ _ _ _ rfl _ _ rfl rfl _ _ (hrun6 _) ?_)
  clear hrun5 hrun6
  go_loopw [36] (fun iv wr => ∃ k : Nat, k ≤ n ∧ iv = .int .i64 k ∧ Hid (∀ x ∈ L.take k, amtOk x) ∧ Below w6.heap.size w6 wr) (fun iv _ => n - (intOf iv).toNat)
  case atStart => exact ⟨0, Nat.zero_le _, rfl, by simp [Hid], Below.refl _ _⟩
  case round =>
    obtain ⟨k, hk, rfl, hsm, hbel⟩ := hrel
    have hz6 := HB6.out.size
    have HBW := Lib.hid (HB6.out.trans (hbel.mono hz6))
    have hzr := hbel.size
    by_cases hlt : k < n
    · obtain ⟨ad, x, rfl, hb0, hx, p0, p1⟩ := (HR6.out.below hbel).bal hlt
      have p1' := cell_behind (j := 1) p1 (by omega)
      have hkI : (k : Int) < (n : Int) := by omega
      have HBE := Lib.hid hbel
      have HX := Lib.hid hx
      have hzw : w.heap.size ≤ wr.heap.size := HBW.out.size
      clear hx p1 hb0 hbel
      by_cases e1 : 1099511627776 < x.amt
      · go_wp2_with fail
        go_ret
        exact ⟨rfl, HBW.out.alloc hzw _⟩
      by_cases e2 : x.amt < -1099511627776
      · go_wp2_with fail
        go_ret
        exact ⟨rfl, HBW.out.alloc hzw _⟩
      have HSM : Hid (∀ y ∈ L.take (k + 1), amtOk y) := fun y hy => by
        obtain ⟨hk2, rfl⟩ := List.getElem?_eq_some_iff.1 HX.out
        rw [List.take_succ_eq_append_getElem hk2] at hy
        rcases List.mem_append.1 hy with hy | hy
        · exact hsm.out y hy
        · rw [List.mem_singleton] at hy
          subst hy
          exact ⟨by omega, by omega⟩
      go_wp2_with fail
      exact ⟨⟨k + 1, by omega, by go_num, HSM, HBE.out.alloc hzr _⟩, by simp [intOf]; omega⟩
    · obtain rfl : k = n := by omega
      have e : L.take k = L := List.take_of_length_le (by rw [HLN.out]; omega)
      rw [e] at hsm
      have HPB := Lib.hid (plusB_small hsm.out (by rw [HLN.out]; exact hn60))
      have kp1 := plus_any la lb A1 A2 n1 n2 c1 c2 w.heap.size wr (HR1.out wr HBW.out) (HR2.out wr HBW.out) HBW.out.size (by omega)
      rw [HLL.out] at kp1
      have KP1 := Lib.hid kp1
      clear e hbel kp1
      go_wp2_with fail
      refine KP1.out.mono ?_
      rintro e w7 ⟨hb7, ⟨hbad, _⟩ | ⟨_, A7, c7, R, hR, rfl, hown7⟩⟩
      · rw [HPB.out] at hbad; cases hbad
      have HB7 := Lib.hid (HBW.out.trans (hb7.mono HBW.out.size))
      have HP7 := Lib.hid hR
      have HO7 := Lib.hid hown7
      have hzw7 := HB7.out.size
      have kp2 := plus_any lb la A2 A1 n2 n1 c2 c1 w.heap.size w7 (HR2.out w7 HB7.out) (HR1.out w7 HB7.out) hzw7 (by omega)
      have KP2 := Lib.hid kp2
      clear hb7 hR hown7 kp2 KP1
      go_wp2_with fail
      refine KP2.out.mono ?_
      rintro e w8 ⟨hb8, hres⟩
      have hperm : (la ++ lb).Perm (lb ++ la) := List.perm_append_comm
      rcases hres with ⟨hbad, _⟩ | ⟨_, A8, c8, R8, hR8, rfl, hown8⟩
      · rw [← plusB_perm hperm, HLL.out, HPB.out] at hbad; cases hbad
      obtain rfl : R = R8 := HP7.out.unique hR8 fun a => by rw [← HLL.out]; exact sumB_perm a hperm
      have HB8 := Lib.hid (HB7.out.trans (hb8.mono hzw7))
      have HR7 : Hid (Rd w8 w8.heap.size 2 A7 R.length (bals R)) := ((rd_of_own HO7.out).far hb8 (Nat.le_refl _)).wide hb8.size
      have HR8 : Hid (Rd w8 w8.heap.size 2 A8 R.length (bals R)) := rd_of_own hown8
      have hRn : R.length ≤ 60 := by
        have := HP7.out.len
        rw [HLN.out] at this
        omega
      have KS := Lib.hid (sameBalances_any R R A7 A8 R.length R.length c7 c8 w8.heap.size w8.heap.size w8 HR7.out HR8.out (by omega) (by omega))
      clear hb8 hR8 hown8 KP2
      obtain ⟨m, hm⟩ : ∃ m, R.length = m := ⟨_, rfl⟩
      have HM := Lib.hid hm
      rw [hm] at HR7 HR8 hRn KS ⊢
      rw [show (R == R) = true from beq_self_eq_true R] at KS
      clear hm
      go_wp2_with fail
      refine KS.out.mono ?_
      rintro e w9 ⟨rfl, hd9⟩
      have hb9 : Below w8.heap.size w8 w9 := hd9.below
      have HB9 := Lib.hid (HB8.out.trans (hb9.mono HB8.out.size))
      have HR9 := Lib.hid ((HR7.out.below hb9))
      have hz9 := HB9.out.size
      have hz89 := hb9.size
      have hb10 : Below w9.heap.size w9 (w9.alloc (.map #[] 0)) := (Below.refl _ _).alloc (Nat.le_refl _) _
      have HM10 : Hid (IMapAt (w9.alloc (.map #[] 0)) w9.heap.size 0 (.map []) (fun _ => 0)) := imap_made w9
      have hb010 : Below w.heap.size w (w9.alloc (.map #[] 0)) := HB9.out.trans (hb10.mono hz9)
      have hz10 : (w9.alloc (.map #[] 0)).heap.size = w9.heap.size + 1 := by simp
      have hz010 := hb010.size
      obtain ⟨v11, w11, hrun11, hown11, hb11⟩ := append_bals (w := w9.alloc (.map #[] 0)) (base := (w9.alloc (.map #[] 0)).heap.size) (m := 0) (c := c1) (v := .slice none 0 0) (L := []) (World.ownsRow_nil _ _ _ _) (HR1.out _ hb010) (Nat.le_refl _) (by omega)
      rw [Nat.zero_add, List.nil_append] at hown11
      have hz11 := hb11.size
      obtain ⟨v12, w12, hrun12, hown12, hb12⟩ := append_bals (c := c2) hown11 (HR2.out w11 (hb010.trans (hb11.mono hz010))) hz11 (by omega)
      obtain ⟨A12, c12, rfl⟩ := own_form hown12
      have hb1012 := hb11.trans hb12
      have HB12 := Lib.hid (hb010.trans (hb1012.mono hz010))
      have HM12 := Lib.hid (HM10.out.below hb1012)
      rw [HN.out, HLL.out] at hown12
      rw [HN.out] at hrun12
      have HR12 : Hid (Rd w12 w12.heap.size 2 A12 k (bals L)) := rd_of_own hown12
      have HX12 := Lib.hid ((HR9.out.below (hb10.mono hz89)).below (hb1012.mono (by omega)))
      have hz12 := hb1012.size
      clear hd9 hb9 KS hb10 hb010 hown11 hb11 hown12 hb12 hb1012
      go_wp2_with (at_builtin; first | refine Lib.wpList_append_run _ rfl _ _ _ _ rfl _ _ rfl rfl _ _ (hrun11 _) ?_ | refine Lib.wpList_append_run _ rfl _ _ _ _ rfl _ _ rfl rfl _ _ (hrun12 _) ?_)
      clear hrun11 hrun12
      go_loopw [79] (fun iv wq => ∃ kk : Nat, kk ≤ k ∧ iv = .int .i64 kk ∧ (∃ nm D, nm ≤ kk ∧ IMapAt wq w9.heap.size nm D (fun a => sumB a (L.take kk))) ∧ But (fun q => q = w9.heap.size) w12 wq) (fun iv _ => k - (intOf iv).toNat)
      case atStart => exact ⟨0, Nat.zero_le _, rfl, ⟨0, _, Nat.le_refl _, HM12.out⟩, But.refl _ _⟩
      case round =>
        obtain ⟨kk, hkk, rfl, ⟨nm, D, hnm, hS⟩, hbut⟩ := hrel
        have hCELL := Lib.hid (fun p hp => imap_cell HM12.out hS hbut p hp)
        have hzr2 := hbut.size
        have hmb := hS.lt
        by_cases hlt2 : kk < k
        · obtain ⟨ad, x, rfl, hb0, hx, p0, p1⟩ := (HR12.out.same fun p hp => hCELL.out p (by omega)).bal hlt2
          have p1' := cell_behind (j := 1) p1 (by omega)
          have hkkI : (kk : Int) < (k : Int) := by omega
          obtain ⟨x1, x2⟩ := x
          dsimp only at *
          have hx64 : is64 x1 := HW.out _ (List.mem_of_getElem? hx)
          have hxa := hsm.out _ (List.mem_of_getElem? hx)
          have hsb := sumB_bound (a := x1) (l := L.take kk) fun y hy => hsm.out y (List.mem_of_mem_take hy)
          have hlk : (L.take kk).length ≤ 60 := by rw [List.length_take]; omega
          unfold amtOk at hxa
          dsimp only at hxa
          obtain ⟨F, hF⟩ : ∃ F, sumB x1 (L.take kk) = F := ⟨_, rfl⟩
          rw [hF] at hsb
          have hb13 : Below wr.heap.size wr (wr.alloc (.cells #[.int .i64 x1, .int .i64 x2] 68)) := (Below.refl _ _).alloc (Nat.le_refl _) _
          have hS13 := hS.below hb13
          have hl0 := (hS13.look hx64).1
          rw [hF] at hl0
          obtain ⟨w14, hu, ho14, hg14⟩ := hS13.own.update imKeyed Try.underlying34 (by unfold maxLen; omega) (imKey hx64) (plainElem_int Try.underlying3 (wf_is64 (x := F + x2) ⟨by omega, by omega⟩))
          have HS14 : Hid (IMapAt w14 w9.heap.size (nm + 1) _ (fun a => sumB a (L.take (kk + 1)))) := (hS13.put hx64 ho14).congr fun y _ => by
            rw [sumB_step hx]
            unfold updI
            by_cases hy : y = x1
            · subst hy
              rw [if_pos rfl, if_pos rfl]
              show F + x2 = sumB y (L.take kk) + x2
              omega
            · rw [if_neg hy, if_neg (fun h => hy h.symm)]
              show sumB y (L.take kk) = sumB y (L.take kk) + 0
              omega
          have HB14 : Hid (But (fun q => q = w9.heap.size) w12 w14) := hbut.trans ((But.of_below hb13).trans ((But.of_grown hg14).wide fun z _ hz => by injection hz with hz; exact hz.symm))
          have hwF : wrap64 (F + x2) = F + x2 := by unfold wrap64; omega
          clear hx p1 hsb hF hS hbut hb13 hS13 ho14 hg14 hxa hx64 hb0
          go_wp2_with fail
          exact ⟨⟨kk + 1, by omega, by go_num, ⟨_, _, by omega, HS14.out⟩, HB14.out⟩, by simp [intOf]; omega⟩
        · rename World => wm
          obtain rfl : kk = k := by omega
          have e : L.take kk = L := List.take_of_length_le (by rw [HLN.out]; omega)
          rw [e] at hS
          have HS := Lib.hid hS
          have HBUT := Lib.hid hbut
          have hHX : Hid (Rd wm w8.heap.size 2 A7 m (bals R)) := HX12.out.same fun p hp => hCELL.out p (by omega)
          have HBR : Hid (Below w.heap.size w wm) := HB12.out.trans (hbut.below (fun q _ hq => by omega) (by omega))
          clear e hS hbut
          go_wp2_with (at_range; refine wpList_range_own _ rfl _ 34 rfl 3 3 imKeyed Try.underlying34 imR w9.heap.size nm D rfl HS.out.own ?_; intro w0 hrg0 hg0 hs0)
          go_frame
          have hmb2 : w9.heap.size < wm.heap.size := HS.out.lt
          have HB0 : Hid (Below wm.heap.size wm w0) := (But.of_grown hg0).below (fun q _ hq => by cases hq) (Nat.le_refl _)
          go_loopw [14] (fun nv wq => ∃ left cnt, ∃ q : Nat, nv = .int .i64 q ∧ wq.ranges Try.prog 3 imR w9.heap.size wm.heap.size nm D left cnt ∧ Hid (CntR R left q) ∧ Below wm.heap.size wm wq) (fun _ wq => wq.rangeLeft w9.heap.size wm.heap.size)
          case atStart => exact ⟨_, _, 0, rfl, hrg0, Lib.hid (cnt_start HW.out HP7.out HS.out), HB0.out⟩
          case round =>
            obtain ⟨left, cnt, q, rfl, hrg, hcnt, hbel⟩ := hrel
            have HRG := Lib.hid hrg; have HBL := Lib.hid hbel; have HC := hcnt
            clear hrg hbel hrg0 hg0 hcnt
            go_wp2_with (at_next; refine wpList_next_ranges_ii _ rfl _ rfl 3 3 .i64 .i64 imKeyed Try.underlying3 Try.underlying3 w9.heap.size wm.heap.size nm D left cnt rfl HRG.out ?_ ?_)
            · intro hc0 hl0
              have hq : q = m := by rw [cnt_all HC.out hl0, HM.out]
              subst hq
              have HRr : Hid (Rd wr w8.heap.size 2 A7 q (bals R)) := hHX.out.far HBL.out (by omega)
              have HSr := Lib.hid (HS.out.below HBL.out)
              have HBWr : Hid (Below w.heap.size w wr) := HBR.out.trans (HBL.out.mono HBR.out.size)
              clear hc0 hl0 HRG HC
              go_wp2_with fail
              rename World => wl
              go_loopw [17] (fun iv wz => ∃ k4 : Nat, k4 ≤ q ∧ iv = .int .i64 k4 ∧ Below wl.heap.size wl wz) (fun iv _ => q - (intOf iv).toNat)
              case atStart => exact ⟨0, Nat.zero_le _, rfl, Below.refl _ _⟩
              case round =>
                obtain ⟨k4, hk4, rfl, hbel⟩ := hrel
                have HBZ := Lib.hid hbel
                have HBWz : Hid (Below w.heap.size w wr) := HBWr.out.trans (hbel.mono HBWr.out.size)
                by_cases hlt4 : k4 < q
                · obtain ⟨ad, x, rfl, hb0, hx, p0, p1⟩ := (HRr.out.far hbel (by have := HBL.out.size; omega)).bal hlt4
                  have p1' := cell_behind (j := 1) p1 (by omega)
                  have hk4I : (k4 : Int) < (q : Int) := by omega
                  obtain ⟨hm1, hm2⟩ := (HP7.out.mem x).1 (List.mem_of_getElem? hx)
                  have hy : ∃ y ∈ L, y.acct = x.acct := by
                    by_cases hy : ∃ y ∈ L, y.acct = x.acct
                    · exact hy
                    · rw [sumB_out fun y hm e => hy ⟨y, hm, e⟩] at hm1
                      omega
                  obtain ⟨y, hyL, hye⟩ := hy
                  have h64 : is64 x.acct := hye ▸ HW.out y hyL
                  have hfit : fits1 x.amt = true := by rw [← hm1, ← hye]; exact (plusB_iff.1 HPB.out y hyL).2
                  have hl0 : ∀ z, (Instr.lookup 34 (.map (some w9.heap.size)) (.int .i64 x.acct) false).run Try.prog (wr.drewN z) = .ok (.int .i64 x.amt) (wr.drewN z) := fun z => by
                    have := ((HSr.out.below hbel).kept (w' := wr.drewN z) rfl).look h64
                    rw [hm1] at this
                    exact this.1
                  have KF : Hid (∀ z, Calls Try.prog 27 #[.int .i64 x.amt] (wr.drewN z) fun e w'' => e = .returned (.bool true) ∧ ∃ m, w'' = wr.drewN m) := fun z =>
                    (refFits_any x.amt (wr.drewN z)).mono fun e w' h => ⟨by rw [h.1, hfit], z, h.2.symm⟩
                  have e1 : (x.amt == 0) = false := beq_eq_false_iff_ne.2 hm2
                  have e2 : (x.amt != x.amt) = false := by simp
                  have HX4 := Lib.hid hx
                  clear hx p1 hbel hyL hye h64 hfit hm1 hm2 hb0
                  rcases Nat.eq_zero_or_pos k4 with hk0 | hk0
                  · have hd0 : decide (0 < k4) = false := decide_eq_false (by omega)
                    have HK0 := Lib.hid hk0
                    clear hk0
                    go_wp2_with fail
                    go_big_quiet (exact KF.out _)
                    go_wp2_with fail
                    exact ⟨⟨k4 + 1, by omega, by go_num, below_drewN HBZ.out _⟩, by simp [intOf]; omega⟩
                  · have hd0 : decide (0 < k4) = true := decide_eq_true hk0
                    have hk1 : wrap64 ((k4 : Int) - 1) = ((k4 - 1 : Nat) : Int) := by unfold wrap64; omega
                    have hk2 : ((k4 - 1 : Nat) : Int) < (q : Int) := by omega
                    obtain ⟨ad', b, hA', _, hxb, r0, _⟩ := (HRr.out.far HBZ.out (by have := HBL.out.size; omega)).bal (i := k4 - 1) (by omega)
                    injection hA' with hA'
                    subst hA'
                    have hlt5 : b.acct < x.acct := by
                      have hp := List.pairwise_iff_getElem.1 HP7.out.rise
                      obtain ⟨i1, e3⟩ := List.getElem?_eq_some_iff.1 hxb
                      obtain ⟨i2, e4⟩ := List.getElem?_eq_some_iff.1 HX4.out
                      have := hp (k4 - 1) k4 i1 i2 (by omega)
                      rw [e3, e4] at this
                      exact this
                    have hd1 : decide (x.acct ≤ b.acct) = false := decide_eq_false (by omega)
                    clear hxb hlt5
                    go_wp2_with fail
                    go_big_quiet (exact KF.out _)
                    go_wp2_with fail
                    exact ⟨⟨k4 + 1, by omega, by go_num, below_drewN HBZ.out _⟩, by simp [intOf]; omega⟩
                · obtain rfl : k4 = q := by omega
                  clear hbel
                  go_wp2_with fail
                  go_ret
                  exact ⟨rfl, HBWz.out⟩
            · intro x c w2 cnt2 hwx hwc hlk hat hrg2 hlt2 hg2 hs2 hen
              have hsum : sumB x L = c := by
                have h1 := HS.out.at' x (is64_wf hwx)
                rw [hat] at h1
                injection h1 with h1
                injection h1 with _ h1
                exact h1.symm
              have HRG2 := Lib.hid hrg2
              have HB2 : Hid (Below wm.heap.size wm w2) := HBL.out.trans ((But.of_grown hg2).below (fun z _ hz => by injection hz with hz; omega) HBL.out.size)
              have hq60 : q ≤ 60 := by
                have h1 := HC.out
                unfold CntR at h1
                have h2 := List.length_filter_le (fun b : Bal => !left (.int .i64 b.acct)) R
                rw [h1, HM.out] at h2
                omega
              have hlf : wr.rangeLeft w9.heap.size wm.heap.size = cnt := HRG.out.left_eq
              have hlf2 : w2.rangeLeft w9.heap.size wm.heap.size = cnt2 := hrg2.left_eq
              have HLF : Hid (w2.rangeLeft w9.heap.size wm.heap.size < wr.rangeLeft w9.heap.size wm.heap.size) := by rw [Hid, hlf, hlf2]; exact hlt2
              by_cases hc : c = 0
              · have hcb : (c != 0) = false := by simp [hc]
                have HN2 : Hid (CntR R (fun z => left z && !z.sameKey (.int .i64 x)) q) := cnt_zero HC.out fun b hb e => by
                  have := (HP7.out.mem b).1 hb
                  rw [e, hsum] at this
                  omega
                clear hwx hwc hlk hat hrg2 hlt2 hg2 hs2 hsum hc hlf hlf2 HRG
                go_wp2_with fail
                exact ⟨⟨_, cnt2, q, rfl, HRG2.out, HN2.out, HB2.out⟩, HLF.out⟩
              · have hcb : (c != 0) = true := by simpa using hc
                have HN2 : Hid (CntR R (fun z => left z && !z.sameKey (.int .i64 x)) (q + 1)) := cnt_more (x := ⟨x, c⟩) HP7.out HC.out ((HP7.out.mem ⟨x, c⟩).2 ⟨hsum, hc⟩) hlk
                clear hwx hwc hlk hat hrg2 hlt2 hg2 hs2 hsum hc hlf hlf2 HRG
                go_wp2_with fail
                exact ⟨⟨_, cnt2, q + 1, by go_num, HRG2.out, HN2.out, HB2.out⟩, HLF.out⟩
end Go.Proofs.Ythjpknipnmagkaa

