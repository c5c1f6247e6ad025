/-
  The statement PlanZero.
-/
-- WIT0: .agg #[.int .i64 0, .int .i64 0, .int .i64 0, .int .i64 0, .int .i64 0, .int .i64 0, .int .i64 0, .int .i64 0, .int .i64 0, .slice none 0 0, .slice none 0 0, .int .i64 0]
-- HOLE2: obtain ⟨fuel0, hf0⟩ := h0
-- obtain ⟨t0, rfl, q0, s0⟩ := argTpl hf0
-- exact zero_walk t0 a1 W q0
import Derived.Test.YthjpknipnmagkaaPlanAlive
import Derived.Test.YthjpknipnmagkaaMany18
import Derived.Test.YthjpknipnmagkaaIntMap
import Derived.Test.YthjpknipnmagkaaMany19
import Derived.Test.YthjpknipnmagkaaQuietTail
import Derived.BigQuiet
namespace Go.Proofs.Ythjpknipnmagkaa
open Mo
open Go.RowKit Go.Sort
open Go.ChangeMaps (setBlock)

theorem tpl_new0 (w : World) (t : Tpl) (B : Nat) (hB : w.heap.size = B) : Rd (w.alloc (.cells t.cells.toArray 24)) (w.alloc (.cells t.cells.toArray 24)).heap.size 12 (some ⟨B, 0, none⟩) 1 (tpls [t]) := hB ▸ tpl_one w t

theorem checkE_len' {j : Jrn} (h : checkE j = 0) : j.lines.length ≤ 8 := by
  unfold checkE at h
  split at h
  · rename_i h1
    rw [Bool.and_eq_true] at h1
    have h3 := h1.2
    unfold linesOk at h3
    rw [Bool.and_eq_true] at h3
    have := (inB_iff.1 h3.1).2
    omega
  · cases h
theorem checkE_fits' {j : Jrn} (h : checkE j = 0) : ∀ x ∈ j.lines, (-1000000000000000 ≤ x.amt ∧ x.amt ≤ 1000000000000000) ∧ 0 ≤ x.acct ∧ x.acct ≤ 9999 := by
  intro x hx
  unfold checkE at h
  split at h
  · rename_i h1
    split at h
    · rename_i h2
      rw [Bool.and_eq_true] at h1
      have h3 := h1.2
      unfold linesOk linesAll at h3
      rw [Bool.and_eq_true] at h3
      have h4 := List.all_eq_true.1 h3.2 x hx
      unfold lineOk at h4
      simp only [Bool.and_eq_true] at h4
      have h5 := inB_iff.1 h4.1.1.1
      exact ⟨fits1_iff.1 (List.all_eq_true.1 h2 x hx), by omega, by omega⟩
    · cases h
  · cases h
theorem accSum_bound {L : List Lin} (hf : ∀ x ∈ L, -1000000000000000 ≤ x.amt ∧ x.amt ≤ 1000000000000000) (hl : L.length ≤ 8) : ∀ p : List Int, -(8000000000000000 * (p.length : Int)) ≤ accSum L p ∧ accSum L p ≤ 8000000000000000 * (p.length : Int)
  | [] => by simp [accSum]
  | a :: r => by
    have h1 := accSum_bound hf hl r
    have h2 := linSum_bound (a := a) hf
    rw [accSum, List.length_cons]
    omega
set_option maxRecDepth 100000 in
set_option maxHeartbeats 8000000 in
theorem zero_walk (t : Tpl) (id : Int) (w : World) (h : TplIn w t) : Calls Try.prog 3 #[.agg t.cells.toArray, .int .i64 id] w fun e w' => e = .returned (.bool true) ∧ Below w.heap.size w w' := by
  obtain ⟨W, hW⟩ : ∃ W, w.alloc (.cells t.cells.toArray 24) = W := ⟨_, rfl⟩
  have hb : Below w.heap.size w W := by rw [← hW]; exact (Below.refl _ _).alloc (Nat.le_refl _) _
  have hx : TplAt W w.heap.size t := by rw [← hW]; exact heap_new w _
  have hz : W.heap.size = w.heap.size + 1 := by rw [← hW]; simp
  obtain ⟨W2, hW2⟩ : ∃ W2, W.alloc (.cells t.cells.toArray 24) = W2 := ⟨_, rfl⟩
  have hb2 : Below W.heap.size W W2 := by rw [← hW2]; exact (Below.refl _ _).alloc (Nat.le_refl _) _
  have hrd := tpl_new0 W t _ hz
  rw [hW2] at hrd
  have HB2 : Hid (Below w.heap.size w W2) := hb.trans (hb2.mono hb.size)
  have HIN : Hid (∀ w1, Below w.heap.size w w1 → TplIn w1 t) := fun w1 h1 => h.below h1
  have KS := Lib.hid (small_any [t] _ 1 1 W2 hrd fun u hu => by
    have : u = t := by simpa using hu
    subst this
    exact HIN.out _ HB2.out)
  have HX2 : Hid (∀ w', Below W2.heap.size W2 w' → TplAt w' w.heap.size t) := fun w' h => (hx.below hb2).below h
  have HW := Lib.hid hW; have HW2 := Lib.hid hW2; have HZ := Lib.hid hz
  have KA : Hid (∀ w1, Calls Try.prog 11 #[] w1 fun e w' => e = .returned (.bool true) ∧ Below w1.heap.size w1 w') := alive9_any
  have KF : Hid (∀ w1, Calls Try.prog 10 #[.agg t.cells.toArray] w1 fun e w' => e = .returned (.agg t.cells.toArray) ∧ Below w1.heap.size w1 w') := fun w1 => refT_any t w1
  have KC : Hid (∀ w1, Below w.heap.size w w1 → Calls Try.prog 9 #[.agg t.cells.toArray] w1 fun e w' => e = .returned (.bool (chkT t)) ∧ Below w1.heap.size w1 w') := fun w1 h1 => refCheckPlan_any t w1 (HIN.out w1 h1)
  have KM : Hid (1 ≤ id → id ≤ 900000 → ∀ w1, Below w.heap.size w w1 → Calls Try.prog 12 #[.agg t.cells.toArray, .int .i64 t.frm, .int .i64 id] w1 (MkEnd w1 (mkB t t.frm id) (mkL t t.frm id))) := fun h1 h2 w1 hb1 => makeT_any t t.frm id w1 (HIN.out w1 hb1) (by omega)
  obtain ⟨⟨x0, x1, x2, x3, x4, x5⟩, x6, x7, x8, x9, x10, x11⟩ := tpl_cells hx
  clear hW hb hx hz hW2 hb2 hrd h
  unfold Tpl.cells at *
  have hmm := @run_makeMap Try.prog
  go_enter Try.func3, Try.ntmps3
  go_wp2_with fail
  rw [HW.out]
  go_wp2_with fail
  rw [HW2.out]
  refine KS.out.mono ?_
  rintro e w3 ⟨b, rfl, _, hb3⟩
  have HB3 : Hid (Below w.heap.size w w3) := HB2.out.trans (hb3.mono HB2.out.size)
  have HX3 : Hid (TplAt w3 w.heap.size t) := HX2.out w3 hb3
  clear hb3 KS HW HW2 HX2 x0 x1 x2 x3 x4 x5 x6 x7 x8 x9 x10 x11
  cases b
  · go_wp2_with fail
    refine (KA.out _).mono ?_
    rintro e w4 ⟨rfl, hb4⟩
    have HB4 := Lib.hid (HB3.out.trans (hb4.mono HB3.out.size))
    clear hb4
    go_wp2_with fail
    go_ret
    exact ⟨rfl, HB4.out⟩
  by_cases h1 : id < 1
  · go_wp2_with fail
    refine (KA.out _).mono ?_
    rintro e w4 ⟨rfl, hb4⟩
    have HB4 := Lib.hid (HB3.out.trans (hb4.mono HB3.out.size))
    clear hb4
    go_wp2_with fail
    go_ret
    exact ⟨rfl, HB4.out⟩
  by_cases h2 : 900000 < id
  · go_wp2_with fail
    refine (KA.out _).mono ?_
    rintro e w4 ⟨rfl, hb4⟩
    have HB4 := Lib.hid (HB3.out.trans (hb4.mono HB3.out.size))
    clear hb4
    go_wp2_with fail
    go_ret
    exact ⟨rfl, HB4.out⟩
  have KM2 := Lib.hid (KM.out (by omega) (by omega))
  clear KM
  obtain ⟨⟨x0, x1, x2, x3, x4, x5⟩, x6, x7, x8, x9, x10, x11⟩ := tpl_cells HX3.out
  go_wp2_with fail
  refine (KF.out _).mono ?_
  rintro e w4 ⟨rfl, hb4⟩
  have HB4 := Lib.hid (HB3.out.trans (hb4.mono HB3.out.size))
  have HX4 := Lib.hid (HX3.out.below hb4)
  have KC4 := Lib.hid (KC.out w4 HB4.out)
  clear hb4 KF KC HX3 x0 x1 x2 x3 x4 x5 x6 x7 x8 x9 x10 x11
  go_wp2_with fail
  refine KC4.out.mono ?_
  rintro e w5 ⟨rfl, hb5⟩
  have HB5 := Lib.hid (HB4.out.trans (hb5.mono HB4.out.size))
  have HX5 := Lib.hid (HX4.out.below hb5)
  clear hb5 KC4 HX4
  cases hc : chkT t
  · go_wp2_with fail
    refine (KA.out _).mono ?_
    rintro e w4 ⟨rfl, hb4⟩
    have HB4 := Lib.hid (HB5.out.trans (hb4.mono HB5.out.size))
    clear hb4
    go_wp2_with fail
    go_ret
    exact ⟨rfl, HB4.out⟩
  have HC := Lib.hid hc
  clear hc
  go_wp2_with fail
  refine (KA.out _).mono ?_
  rintro e w6 ⟨rfl, hb6⟩
  have HB6 := Lib.hid (HB5.out.trans (hb6.mono HB5.out.size))
  have HX6 := Lib.hid (HX5.out.below hb6)
  have KM6 := Lib.hid (KM2.out w6 HB6.out)
  obtain ⟨⟨x0, x1, x2, x3, x4, x5⟩, x6, x7, x8, x9, x10, x11⟩ := tpl_cells HX6.out
  clear hb6 HX5 KM2 KA
  go_wp2_with fail
  refine KM6.out.mono ?_
  rintro e w7 ⟨hb7, hres⟩
  have HB7 := Lib.hid (HB6.out.trans (hb7.mono HB6.out.size))
  have HX7 := Lib.hid (HX6.out.below hb7)
  clear hb7 KM6 HX6 x0 x1 x2 x3 x4 x5 x6 x7 x8 x9 x10 x11
  rcases hres with ⟨_, rfl⟩ | ⟨hmk, A, c, la, rfl, hmap, hown⟩
  · go_wp2_with fail
    go_ret
    exact ⟨rfl, HB7.out⟩
  obtain ⟨_, hck⟩ := mkB_check hmk
  have hpl := mkL_plain t t.frm id
  have hl2 := mkL_len2 t t.frm id
  obtain ⟨js, hjs⟩ : ∃ js, mkL t t.frm id = js := ⟨_, rfl⟩
  have HJS := Lib.hid hjs
  rw [hjs] at hmap hck hpl hl2
  have HOK : Hid (∀ a ∈ la, checkE a.j = 0 ∧ a.j.ref = ⟨#[]⟩ ∧ a.j.void = false) := fun a ha => by
    have : a.j ∈ js := hmap ▸ List.mem_map_of_mem ha
    exact ⟨hck _ this, hpl _ this⟩
  have HMAP := Lib.hid hmap
  have HRD : Hid (Rd w7 w7.heap.size 6 A la.length (jrs la)) := rd_of_own hown.own
  have HLI : Hid (∀ a ∈ la, Rd w7 w7.heap.size 3 a.A a.j.lines.length (lins a.j.lines)) := fun a ha => rd_of_own (hown.lines a ha)
  have hjl : js.length = la.length := by rw [← hmap]; simp
  obtain ⟨m, hm⟩ : ∃ m, la.length = m := ⟨_, rfl⟩
  rw [hm] at HRD hjl ⊢
  have HM := Lib.hid hm; have HJL := Lib.hid hjl
  have hm2 : m ≤ 2 := by omega
  clear hjs hck hpl hl2 hm hjl hmap hown hmk
  obtain ⟨W8, hW8⟩ : ∃ W8, w7.alloc (.map #[] 0) = W8 := ⟨_, rfl⟩
  have hb8 : Below w7.heap.size w7 W8 := by rw [← hW8]; exact (Below.refl _ _).alloc (Nat.le_refl _) _
  have HM8 : Hid (IMapAt W8 w7.heap.size 0 (.map []) (fun _ => 0)) := by rw [← hW8]; exact imap_made w7
  have HW8 := Lib.hid hW8
  have HB78 := Lib.hid hb8
  have hz8 : W8.heap.size = w7.heap.size + 1 := by rw [← hW8]; simp
  clear hW8 hb8
  go_wp2_with fail
  rw [HW8.out]
  go_wp2_with fail
  go_loopw [8] (fun iv wr => ∃ k : Nat, k ≤ m ∧ iv = .int .i64 k ∧ (∃ nm D, nm ≤ 8 * k ∧ IMapAt wr w7.heap.size nm D (fun a => linSum a (linesOf (js.take k)))) ∧ But (fun q => q = w7.heap.size) W8 wr) (fun iv _ => m - (intOf iv).toNat)
  case atStart => exact ⟨0, Nat.zero_le _, rfl, ⟨0, _, Nat.zero_le _, HM8.out.congr fun a _ => rfl⟩, But.refl _ _⟩
  case round =>
    obtain ⟨k, hk, rfl, ⟨nm, D, hnm, hS⟩, hbut⟩ := hrel
    have hCELL := Lib.hid (fun p hp => imap_cell HM8.out hS hbut p hp)
    have hzr := hbut.size
    have HS := Lib.hid hS; have HBUT := Lib.hid hbut
    clear hS hbut
    by_cases hlt : k < m
    · have HR2 : Hid (Rd wr w7.heap.size 6 A m (jrs la)) := (HRD.out.below HB78.out).same fun p hp => hCELL.out p (by omega)
      obtain ⟨ad, a, rfl, hb0, hx, p0, p1, p2, p3, p4, p5⟩ := HR2.out.jr hlt
      have hmem := List.mem_of_getElem? hx
      obtain ⟨hch, href, hvd⟩ := HOK.out a hmem
      have HL2 : Hid (Rd wr w7.heap.size 3 a.A a.j.lines.length (lins a.j.lines)) := ((HLI.out a hmem).below HB78.out).same fun p hp => hCELL.out p (by omega)
      have kc := refCheck_any a.j a.A a.j.lines.length a.c w7.heap.size wr HL2.out (by omega)
      rw [hch] at kc
      unfold Jrn.val at kc
      rw [href, hvd] at kc
      have KC := Lib.hid kc
      have HX := Lib.hid hx; have HCH := Lib.hid hch
      have hkI : (k : Int) < (m : Int) := by omega
      rw [href] at p3
      rw [hvd] at p5
      clear hx hch kc hmem href hvd hb0
      go_wp2_with fail
      refine KC.out.mono ?_
      rintro e wv ⟨rfl, hbv⟩
      have HBUT2 : Hid (But (fun q => q = w7.heap.size) W8 wv) := HBUT.out.trans (But.of_below hbv)
      have hmb : w7.heap.size < wr.heap.size := HS.out.lt
      have HS2 := Lib.hid (HS.out.below hbv)
      have hCELL2 := Lib.hid (fun p hp => imap_cell HM8.out HS2.out HBUT2.out p hp)
      have hzv := HBUT2.out.size
      clear hbv KC p0 p1 p2 p3 p4 p5 HR2 HL2 HS HBUT hCELL
      have HR2 : Hid (Rd wv w7.heap.size 6 (some ad) m (jrs la)) := (HRD.out.below HB78.out).same fun p hp => hCELL2.out p (by omega)
      obtain ⟨ad', a', hA', hb0, hx', p0, p1, p2, p3, p4, p5⟩ := HR2.out.jr hlt
      injection hA' with hA'
      subst hA'
      obtain rfl : a = a' := by
        have := HX.out.symm.trans hx'
        injection this
      obtain ⟨_, href, hvd⟩ := HOK.out a (List.mem_of_getElem? hx')
      rw [href] at p3
      rw [hvd] at p5
      clear p0 p1 p2 href hvd hx'
      have HP4 : Hid (∀ wq, But (fun q => q = w7.heap.size) W8 wq → (∃ n D f, IMapAt wq w7.heap.size n D f) → wq.cell? ⟨(ad.add (k * 6)).block, (ad.add (k * 6)).off + 4, none⟩ = some (.slice a.A a.j.lines.length a.c)) := fun wq hbq ⟨_, _, _, hq⟩ => by
        have e1 := imap_cell HM8.out hq hbq ⟨(ad.add (k * 6)).block, (ad.add (k * 6)).off + 4, none⟩ (by show (ad.add (k * 6)).block < _; rw [add_block]; omega)
        have e2 := hCELL2.out ⟨(ad.add (k * 6)).block, (ad.add (k * 6)).off + 4, none⟩ (by show (ad.add (k * 6)).block < _; rw [add_block]; omega)
        rw [e1, ← e2, p4]
      have HL8 : Hid (Rd W8 w7.heap.size 3 a.A a.j.lines.length (lins a.j.lines)) := (HLI.out a (List.mem_of_getElem? HX.out)).below HB78.out
      have hla8 : a.j.lines.length ≤ 8 := (checkE_len' HCH.out)
      have HFT : Hid (∀ x ∈ a.j.lines, (-1000000000000000 ≤ x.amt ∧ x.amt ≤ 1000000000000000) ∧ 0 ≤ x.acct ∧ x.acct ≤ 9999) := checkE_fits' HCH.out
      obtain ⟨Ls, hLs⟩ : ∃ Ls, a.j.lines = Ls := ⟨_, rfl⟩
      have HLS := Lib.hid hLs
      rw [hLs] at HL8 hla8 HFT HP4 p4
      obtain ⟨La, hLa⟩ : ∃ La, Ls.length = La := ⟨_, rfl⟩
      have HLA := Lib.hid hLa
      rw [hLa] at HL8 hla8 HP4 p4
      obtain ⟨g, hg⟩ : ∃ g : Int → Int, (fun x => linSum x (linesOf (js.take k))) = g := ⟨_, rfl⟩
      have HG := Lib.hid hg
      have HGB : Hid (∀ x, -20000000000000000 ≤ g x ∧ g x ≤ 20000000000000000) := fun x => by
        rw [← hg]
        have hf : ∀ y ∈ linesOf (js.take k), -1000000000000000 ≤ y.amt ∧ y.amt ≤ 1000000000000000 := fun y hy => by
          obtain ⟨j, hj, hy2⟩ := List.mem_flatMap.1 hy
          have hj2 := List.mem_of_mem_take hj
          rw [← HMAP.out] at hj2
          obtain ⟨b, hb, rfl⟩ := List.mem_map.1 hj2
          exact (checkE_fits' (HOK.out b hb).1 y hy2).1
        have hl : (linesOf (js.take k)).length ≤ 16 := by
          have hk2 : (js.take k).length ≤ 2 := by rw [List.length_take]; omega
          have h8 : ∀ j ∈ js.take k, j.lines.length ≤ 8 := fun j hj => by
            have hj2 := List.mem_of_mem_take hj
            rw [← HMAP.out] at hj2
            obtain ⟨b, hb, rfl⟩ := List.mem_map.1 hj2
            exact checkE_len' (HOK.out b hb).1
          have : ∀ l : List Jrn, (∀ j ∈ l, j.lines.length ≤ 8) → (linesOf l).length ≤ 8 * l.length := by
            intro l
            induction l with
            | nil => intro _; simp [linesOf]
            | cons j r ih =>
              intro hh
              have h1 := ih fun i hi => hh i (List.mem_cons_of_mem _ hi)
              have h2 := hh j (List.mem_cons_self ..)
              unfold linesOf at h1 ⊢
              rw [List.flatMap_cons, List.length_append, List.length_cons]
              omega
          have := this _ h8
          omega
        have := linSum_bound (a := x) hf
        show -20000000000000000 ≤ linSum x (linesOf (js.take k)) ∧ linSum x (linesOf (js.take k)) ≤ 20000000000000000
        omega
      rw [hg] at HS2
      have HXA := HX
      clear hLs hLa hg HCH HX
      go_wp2_with fail
      go_loopw [9] (fun jv wr => ∃ kk : Nat, kk ≤ La ∧ jv = .int .i64 kk ∧ (∃ n2 D2, n2 ≤ 8 * k + kk ∧ IMapAt wr w7.heap.size n2 D2 (fun x => g x + linSum x (Ls.take kk))) ∧ But (fun q => q = w7.heap.size) W8 wr) (fun jv _ => La - (intOf jv).toNat)
      case atStart => exact ⟨0, Nat.zero_le _, rfl, ⟨nm, D, by omega, HS2.out.congr fun x _ => by simp [linSum]⟩, HBUT2.out⟩
      case round =>
        obtain ⟨kk, hkk, rfl, ⟨n2, D2, hn2, hS⟩, hbut⟩ := hrel
        have q4 := HP4.out _ hbut ⟨_, _, _, hS⟩
        have hCELL3 := Lib.hid (fun p hp => imap_cell HM8.out hS hbut p hp)
        have HS3 := Lib.hid hS; have HBUT3 := Lib.hid hbut
        by_cases hlt2 : kk < La
        · obtain ⟨al, x, hal, hbl, hx, y0, y1, y2⟩ := (HL8.out.same fun p hp => hCELL3.out p (by omega)).lin hlt2
          have y1' := cell_behind (j := 1) y1 (by omega)
          rw [hal] at q4
          have hkkI : (kk : Int) < (La : Int) := by omega
          obtain ⟨hfx, hax⟩ := HFT.out x (List.mem_of_getElem? hx)
          have hgb := HGB.out x.acct
          have hlb := linSum_bound (a := x.acct) (l := Ls.take kk) fun y hy => (HFT.out y (List.mem_of_mem_take hy)).1
          have hlk8 : (Ls.take kk).length ≤ 8 := by rw [List.length_take]; omega
          have hx64 : is64 x.acct := ⟨by omega, by omega⟩
          obtain ⟨F, hF⟩ : ∃ F, g x.acct + linSum x.acct (Ls.take kk) = F := ⟨_, rfl⟩
          have hl0 : ∀ q, (Instr.lookup 34 (.map (some w7.heap.size)) (.int .i64 x.acct) false).run Try.prog (wr.drewN q) = .ok (.int .i64 F) (wr.drewN q) := fun q => by
            have := (hS.kept (w' := wr.drewN q) rfl).look hx64
            rw [hF] at this
            exact this.1
          have hwF : wrap64 (F + x.amt) = F + x.amt := by unfold wrap64; omega
          clear y1 y2 p3 p4 p5 hS hbut
          go_wp2_with fail
          refine wp_region_drew_tail 21 (by kernel_rfl) (by kernel_rfl) ?_
          simp only [List.take_succ_cons, List.take_zero, List.drop_succ_cons, List.drop_zero]
          repeat (go_big_quiet_step (fail))
          refine wpQuiet_nil ?_
          intro w' hw'
          obtain ⟨q, rfl⟩ := hw'
          have hS4 := HS3.out.kept (w' := wr.drewN q) rfl
          obtain ⟨w9, hu, ho9, hg9⟩ := hS4.own.update imKeyed Try.underlying34 (by unfold maxLen; omega) (imKey hx64) (plainElem_int Try.underlying3 (wf_is64 (x := F + x.amt) ⟨by omega, by omega⟩))
          have HS9 : Hid (IMapAt w9 w7.heap.size (n2 + 1) _ (fun y => g y + linSum y (Ls.take (kk + 1)))) := (hS4.put hx64 ho9).congr fun y _ => by
            rw [linSum_step hx]
            unfold updI
            by_cases hy : y = x.acct
            · subst hy
              rw [if_pos rfl, if_pos rfl]
              show F + x.amt = g x.acct + (linSum x.acct (Ls.take kk) + x.amt)
              omega
            · rw [if_neg hy, if_neg (fun h => hy h.symm)]
              show g y + linSum y (Ls.take kk) = g y + (linSum y (Ls.take kk) + 0)
              omega
          have HB9 : Hid (But (fun q => q = w7.heap.size) W8 w9) := HBUT3.out.trans ((But.of_below (below_drewN (Below.refl _ _) q)).trans ((But.of_grown hg9).wide fun z _ hz => by injection hz with hz; exact hz.symm))
          clear hS4 ho9 hg9 hl0 hF hlb hgb hfx hx q4 y0 y1' HS3 HBUT3 hCELL3
          go_wp2_with fail
          exact ⟨⟨kk + 1, by omega, by go_num, ⟨_, _, by omega, HS9.out⟩, HB9.out⟩, by simp [intOf]; omega⟩
        · obtain rfl : kk = La := by omega
          have HSn := HS3
          clear hS hbut p3 p4 p5
          go_wp2_with fail
          refine ⟨⟨k + 1, by omega, by go_num, ⟨n2, D2, by omega, HSn.out.congr fun y _ => ?_⟩, HBUT3.out⟩, by simp [intOf]; omega⟩
          have hjk : js[k]? = some a.j := by rw [← HMAP.out, List.getElem?_map, HXA.out]; rfl
          show g y + linSum y (Ls.take kk) = linSum y (linesOf (js.take (k + 1)))
          rw [linesOf_step hjk, linSum_append, HLS.out, List.take_of_length_le (by rw [HLA.out]; omega), show linSum y (linesOf (js.take k)) = g y from congrFun HG.out y]
    · obtain rfl : k = m := by omega
      have HJ : Hid (js.take k = js) := List.take_of_length_le (by rw [HJL.out]; omega)
      rw [HJ.out] at HS
      have hX8 := HX7.out.below HB78.out
      have hlt0 : w.heap.size < w7.heap.size := lt_of_blk HX7.out
      have HXr : Hid (TplAt wr w.heap.size t) := (HBUT.out.block _ (lt_of_blk hX8) (by omega)).trans hX8
      have HBr : Hid (Below w.heap.size w wr) := HB7.out.trans ((HB78.out.mono HB7.out.size).trans (HBUT.out.below (fun q _ hq => by omega) (by omega)))
      have hlook : ∀ x, is64 x → (Instr.lookup 34 (.map (some w7.heap.size)) (.int .i64 x) false).run Try.prog wr = .ok (.int .i64 (linSum x (linesOf js))) wr := fun x hx => (HS.out.look hx).1
      have HLK := Lib.hid hlook
      obtain ⟨⟨x0, x1, x2, x3, x4, x5⟩, x6, x7, x8, x9, x10, x11⟩ := tpl_cells HXr.out
      obtain ⟨f1, f2, f3, f4, f5⟩ := front_of HC.out
      have hcre : is64 t.cre := by
        have h := HC.out
        unfold chkT frontT at h
        simp only [Bool.and_eq_true] at h
        have := inB_iff.1 h.1.2
        exact ⟨by omega, by omega⟩
      clear hX8 hlook HS hCELL
      rcases chk_kind HC.out with ⟨hk1, hac⟩ | ⟨hk2, hal⟩
      · have hjs2 : js = accL t t.frm id := by rw [← HJS.out]; unfold mkL; rw [if_pos hk1]
        have hdeb : is64 t.deb := by
          unfold accrT at hac
          simp only [Bool.and_eq_true] at hac
          have := inB_iff.1 hac.1.1.1
          exact ⟨by omega, by omega⟩
        by_cases hp : t.frm < 1199
        · have hz : ∀ x, linSum x (linesOf js) = 0 := fun x => by rw [hjs2]; exact zero_accr t t.frm id x hp
          have e1 := HLK.out _ hdeb
          have e2 := HLK.out _ hcre
          rw [hz] at e1 e2
          have hk2 : k = 2 := by rw [← HJL.out, hjs2]; unfold accL; rw [if_pos hp]; rfl
          clear HRD HM HJL HJ hz hjs2 hac
          subst hk2
          go_wp2_with fail
          go_ret
          exact ⟨rfl, HBr.out⟩
        · have hk2 : k = 1 := by rw [← HJL.out, hjs2]; unfold accL; rw [if_neg hp]; rfl
          have hp2 : t.frm = 1199 := by omega
          clear HRD HM HJL HJ hjs2 hac
          subst hk2
          go_wp2_with fail
          go_ret
          exact ⟨rfl, HBr.out⟩
      · have hjs2 : js = [allJ t t.frm id] := by rw [← HJS.out]; unfold mkL; rw [if_neg (by omega)]
        have hk3 : k = 1 := by rw [← HJL.out, hjs2]; rfl
        have hcj : checkE (allJ t t.frm id) = 0 := by
          have : allJ t t.frm id ∈ la.map JR.j := by rw [HMAP.out, hjs2]; exact List.mem_singleton.2 rfl
          obtain ⟨b, hb, e⟩ := List.mem_map.1 this
          rw [← e]
          exact (HOK.out b hb).1
        obtain ⟨z1, z2⟩ := zero_all hal hcj
        have hfit : ∀ y ∈ linesOf js, -1000000000000000 ≤ y.amt ∧ y.amt ≤ 1000000000000000 := fun y hy => by
          rw [hjs2] at hy
          obtain ⟨j, hj, hy2⟩ := List.mem_flatMap.1 hy
          rw [List.mem_singleton] at hj
          subst hj
          exact (checkE_fits' hcj y hy2).1
        have hl8 : (linesOf js).length ≤ 8 := by
          rw [hjs2]
          have := checkE_len' hcj
          simpa [linesOf] using this
        rw [← hjs2] at z1 z2
        have htg7 : t.tg.length ≤ 7 := by
          unfold allocT at hal
          simp only [Bool.and_eq_true] at hal
          have := (inB_iff.1 hal.1.1.1).2
          omega
        have htgA : ∀ x ∈ t.tg, is64 x := fun x hx => by
          unfold allocT at hal
          simp only [Bool.and_eq_true] at hal
          have := (tgOk_all hal.1.2).1 x hx
          exact ⟨by omega, by omega⟩
        obtain ⟨L, hL⟩ : ∃ L, linesOf js = L := ⟨_, rfl⟩
        rw [hL] at z1 z2 hfit hl8 HLK
        have HTA := Lib.hid htgA; have HFI := Lib.hid hfit; have HZ1 := Lib.hid z1
        have e2 := HLK.out _ hcre
        rw [z2] at e2
        have HTR : Hid (Rd wr wr.heap.size 1 t.At t.tg.length (ints .i64 t.tg)) := (HIN.out wr HBr.out).tg
        have HB8 := Lib.hid hl8
        clear HRD HM HJL HJ hjs2 hal hcj htgA hfit z1 z2 hL hl8
        subst hk3
        obtain ⟨tg, htg⟩ : ∃ tg, t.tg = tg := ⟨_, rfl⟩
        rw [htg] at HTR HTA HZ1 htg7 x9
        obtain ⟨n, hn⟩ : ∃ n, tg.length = n := ⟨_, rfl⟩
        have HN := Lib.hid hn
        rw [hn] at HTR htg7 x9
        clear hn htg
        go_wp2_with fail
        go_loopw [10, 11] (fun sv iv wq => ∃ q : Nat, q ≤ n ∧ iv = .int .i64 q ∧ sv = .int .i64 (accSum L (tg.take q)) ∧ wq = wr) (fun _ iv _ => n - (intOf iv).toNat)
        case atStart => exact ⟨0, Nat.zero_le _, rfl, rfl, rfl⟩
        case round =>
          obtain ⟨q, hq, rfl, rfl, rfl⟩ := hrel
          by_cases hlq : q < n
          · obtain ⟨aq, hA, hb2, z0⟩ := HTR.out.int hlq
            obtain ⟨y, hgq⟩ : ∃ y, tg[q]? = some y := ⟨_, List.getElem?_eq_getElem (show q < tg.length by have := HN.out; omega)⟩
            have hx64 := HTA.out _ (List.mem_of_getElem? hgq)
            have hst := accSum_step (L := L) hgq
            have hb1 := accSum_bound HFI.out HB8.out (tg.take q)
            have hb3 := linSum_bound (a := y) HFI.out
            have hlt8 := HB8.out
            have hlen : (tg.take q).length ≤ 7 := by rw [List.length_take]; omega
            rw [hgq, Option.getD_some] at z0
            have e3 := HLK.out _ hx64
            have hw3 : wrap64 (accSum L (tg.take q) + linSum y L) = accSum L (tg.take q) + linSum y L := by unfold wrap64; omega
            rw [hA] at x9
            have hqI : (q : Int) < (n : Int) := by omega
            have HST := Lib.hid hst
            clear hst hb1 hb3 hlt8 hlen hgq hb2 hA hx64
            generalize accSum L (tg.take q) = S at *
            go_wp2_with fail
            refine ⟨⟨q + 1, by omega, by go_num, ?_⟩, by simp [intOf]; omega⟩
            exact ⟨by rw [hw3, HST.out], trivial⟩
          · obtain rfl : q = n := by omega
            have hS : accSum L (tg.take q) = t.amt := by rw [List.take_of_length_le (by rw [HN.out]; omega), HZ1.out]
            rw [hS]
            have hwn : wrap64 (-t.amt) = -t.amt := by unfold wrap64; omega
            clear hS
            go_wp2_with fail
            go_ret
            exact ⟨rfl, HBr.out⟩
end Go.Proofs.Ythjpknipnmagkaa

