/-
  What the book's calls do with the lists of journals that it keeps: are they as they were; marks; growing.
-/
import Derived.Test.YtjlokkjbdgcooaaGreatMany28
import Derived.Test.YtjlokkjbdgcooaaGreatMany31
namespace Go.Proofs.YtjlokkjbdgcooaaGreat
open Go.RowKit

theorem markJl {w : World} {B i n c : Nat} {A : Option Addr} (h : w.ownsRow B 111 6 (.slice A n c) n (kJournals.marks i 0 n)) : JlRd w w.heap.size A n (markJrs i 0 n) := by
  rw [marks_jrs] at h
  refine ⟨rd_of_own h, fun a ha => ?_, fun a ha => ?_, fun a ha => ?_⟩
  · obtain ⟨k, rfl⟩ := markJrs_mem ha
    exact Rd.nil_
  · obtain ⟨k, rfl⟩ := markJrs_mem ha
    exact fun _ => rfl
  · obtain ⟨k, rfl⟩ := markJrs_mem ha
    refine ⟨?_, Nat.zero_le _⟩
    show (nameS i k).size ≤ _
    rw [nameS_size]; unfold maxLen; omega
/-- What the book keeps of journals. -/
structure KeptJ (w : World) (B b : Nat) (F : Nat → Value) (m : Nat) (V U : Nat → Value) (LV LU : Nat → List JR) : Prop where
  kept : kJournals.KeptD w B b F m V U (fun i => (LV i).length) (fun i => jrs (LV i)) (fun i => jrs (LU i))
  same : ∀ i, i < m → (LV i).map JR.j = (LU i).map JR.j
  lv : ∀ i, i < m → ∀ a ∈ LV i, w.ownsRow B 113 3 a.lv a.j.lines.length (lins a.j.lines)
  lu : ∀ i, i < m → ∀ a ∈ LU i, w.ownsRow B 113 3 a.lv a.j.lines.length (lins a.j.lines)
  size : ∀ i, i < m → ∀ a ∈ LV i, a.j.ref.size ≤ maxLen ∧ a.j.lines.length ≤ maxLen
theorem KeptJ.below {w w' : World} {B b m : Nat} {F V U : Nat → Value} {LV LU : Nat → List JR} (h : KeptJ w B b F m V U LV LU) (hb : Below w.heap.size w w') : KeptJ w' B b F m V U LV LU :=
  ⟨h.kept.below hb, h.same, fun i hi a ha => own_kept (h.lv i hi a ha) fun k hk _ => hb.block k hk, fun i hi a ha => own_kept (h.lu i hi a ha) fun k hk _ => hb.block k hk, h.size⟩
theorem KeptJ.sizeU {w : World} {B b m : Nat} {F V U : Nat → Value} {LV LU : Nat → List JR} (h : KeptJ w B b F m V U LV LU) : ∀ i, i < m → ∀ a ∈ LU i, a.j.ref.size ≤ maxLen ∧ a.j.lines.length ≤ maxLen := fun i hi a ha => by
  have : a.j ∈ (LV i).map JR.j := by rw [h.same i hi]; exact List.mem_map.2 ⟨a, ha, rfl⟩
  obtain ⟨x, hx, e⟩ := List.mem_map.1 this
  rw [← e]; exact h.size i hi x hx

set_option maxRecDepth 100000 in
set_option maxHeartbeats 1000000 in
theorem stillJournals_any (b B m : Nat) (F V U : Nat → Value) (LV LU : Nat → List JR) (w : World) (h : KeptJ w B b F m V U LV LU) (hm : m ≤ 250) (hL : ∀ i, i < m → (LV i).length ≤ 800000) :
    Calls Tryz.prog 67 #[.pointer (some ⟨b, 0, none⟩)] w fun e w' => e = .returned (.bool true) ∧ Below w.heap.size w w' := by
  have HK := Lib.hid h
  obtain ⟨A2, c2, e2⟩ := own_form h.kept.2.2.1
  have E2 := Lib.hid e2; have HL := Lib.hid hL
  clear h e2 hL
  go_enter Tryz.func67, Tryz.ntmps67
  go_wp2_with fail
  go_loopw [3] (fun iv wr => ∃ i : Nat, i ≤ m ∧ iv = .int .i64 i ∧ Below w.heap.size w wr) (fun iv _ => m - (intOf iv).toNat)
  case atStart => exact ⟨0, Nat.zero_le _, rfl, Below.refl _ _⟩
  case round =>
    obtain ⟨i, hi, rfl, hb⟩ := hrel
    have hk := HK.out.below hb
    have hc2 : wr.cell? ⟨b, 10, none⟩ = some (F 10) := hk.kept.1.cell (i := 10) (by omega)
    have hc3 : wr.cell? ⟨b, 11, none⟩ = some (F 11) := hk.kept.1.cell (i := 11) (by omega)
    by_cases hlt : i < m
    · obtain ⟨G2, d2, f2, g2, _⟩ := Kind.tab_at hk.kept.2.2.1 hlt
      obtain ⟨G3, d3, f3, g3, _⟩ := Kind.tab_at hk.kept.2.2.2.1 hlt
      rw [show F 10 = _ from f2] at hc2
      rw [show F 11 = _ from f3] at hc3
      have hV := hk.kept.2.2.2.2.2.1.1 i hlt
      have hU := hk.kept.2.2.2.2.2.2.1 i hlt
      have hll := HL.out i hlt
      obtain ⟨Av, cv, ev⟩ := own_form hV
      obtain ⟨Au, cu, eu⟩ := own_form hU
      rw [ev] at g2 hV
      rw [eu] at g3 hU
      have JV : JlRd wr wr.heap.size Av (LV i).length (LV i) := ⟨rd_of_own hV, fun a ha => rd_of_own (hk.lv i hlt a ha), fun a ha => own_nil (hk.lv i hlt a ha), hk.size i hlt⟩
      have JU : JlRd wr wr.heap.size Au (LV i).length (LU i) := ⟨rd_of_own hU, fun a ha => rd_of_own (hk.lu i hlt a ha), fun a ha => own_nil (hk.lu i hlt a ha), hk.sizeU i hlt⟩
      have hsm := hk.same i hlt
      have Q := Lib.hid (regrown_calls (w := wr) fun w1 hb1 => sameJournals_any (LV i) (LU i) Av Au (LV i).length cv cu _ _ w1 (JV.far hb1 (Nat.le_refl _)) (JU.far hb1 (Nat.le_refl _)) hb1.size hb1.size (by omega) hsm)
      have hiI : (i : Int) < (m : Int) := by omega
      have HB := Lib.hid hb
      dsimp only at g2 g3
      generalize (LV i).length = n at *
      clear hk hV hU ev eu f2 f3 JV JU hsm hb
      have hc2r := cell_regrown hc2; replace hc3 := cell_regrown hc3; replace g2 := cell_regrown g2; replace g3 := cell_regrown g3
      go_wp2_with fail
      refine wp_region_quiet_below (by kernel_rfl) (by kernel_rfl) ?_
      repeat (go_big_quiet_step (fail))
      go_big_quiet_want
      go_big_quiet_op
      go_big_quiet_call (exact Q.out _ _)
      repeat (go_big_quiet_step (fail))
      refine wpQuiet_nil ?_
      intro _ hw'
      obtain ⟨⟨dq, osq⟩, hw''⟩ := hw'
      subst hw''
      have HB2 := Lib.hid (HB.out.trans ((below_regrown wr dq osq).mono HB.out.size))
      go_wp2_with fail
      exact ⟨⟨i + 1, by omega, by go_num, HB2.out⟩, by simp [intOf]; omega⟩
    · rw [show F 10 = _ from E2.out] at hc2
      have HB := Lib.hid hb
      clear hk hc3 hb
      go_wp2_with fail
      go_ret
      exact ⟨rfl, HB.out⟩

set_option maxRecDepth 100000 in
set_option maxHeartbeats 8000000 in
theorem putJournals_any (b B m : Nat) (F V : Nat → Value) (N : Nat → Nat) (L : Nat → List Value) (w : World) (h : kJournals.KeptV w B b F m V N L) (hm : m ≤ 250) (hN : ∀ i, i < m → N i ≤ 800000) :
    Calls Tryz.prog 72 #[.pointer (some ⟨b, 0, none⟩)] w fun e w' => e = .returned (.tuple #[]) ∧ kJournals.KeptV w' B b F m V N (fun j => kJournals.marks j 0 (N j)) ∧ Below B w w' ∧ Only [kJournals.e] w w' := by
  have HK := Lib.hid h
  obtain ⟨A2, c2, e2⟩ := own_form h.2.2.1
  have hBs : B ≤ w.heap.size := by have := h.1.lt; have := h.2.1; omega
  have HLL : Hid (∀ i, i < m → (L i).length = N i * kJournals.size) := fun i hi => (h.2.2.2.1 i hi).1
  have E2 := Lib.hid e2; have HN := Lib.hid hN
  clear h e2 hN
  go_enter Tryz.func72, Tryz.ntmps72
  go_wp2_with fail
  go_loopw [2] (fun iv wr => ∃ i : Nat, i ≤ m ∧ iv = .int .i64 i ∧ kJournals.KeptV wr B b F m V N (kJournals.markTo N L i) ∧ Below B w wr ∧ Only [kJournals.e] w wr) (fun iv _ => m - (intOf iv).toNat)
  case atStart => exact ⟨0, Nat.zero_le _, rfl, HK.out.congr (fun _ _ => rfl) fun i _ => by simp [Kind.markTo], Below.refl _ _, Only.refl _ _⟩
  case round =>
    obtain ⟨i, hi, rfl, hk, hbel, honly⟩ := hrel
    have hc2 : wr.cell? ⟨b, 10, none⟩ = some (F 10) := hk.1.cell (i := 10) (by omega)
    have HONLY := Lib.hid honly
    clear honly
    by_cases hlt : i < m
    · obtain ⟨G2, d2, f2, g2, hG2, _⟩ := Kind.tab_at hk.2.2.1 hlt
      rw [show F 10 = _ from f2] at hc2
      have hll := HN.out i hlt
      have hV := hk.2.2.2.1 i hlt
      obtain ⟨Av, cv, ev⟩ := own_form hV
      rw [ev] at g2
      have hiI : (i : Int) < (m : Int) := by omega
      have HKK := Lib.hid hk
      have HEV := Lib.hid ev
      have HV := Lib.hid hV
      have hblr := hk.1.lt
      obtain ⟨wo, hwo⟩ : ∃ z, z = wr := ⟨_, rfl⟩
      subst hwo
      clear hk hV ev
      go_wp2_with fail
      refine (markJournals_any i 0 (N i) _ (by omega) (by omega) (by omega)).mono ?_
      rintro e w1 ⟨Am, cm, rfl, hmm, hb1⟩
      have hz1 := hb1.size
      have HK1 : Hid (kJournals.KeptV w1 B b F m V N (kJournals.markAt N L i 0)) := (HKK.out.below hb1).congr (fun _ _ => rfl) fun j _ => kJournals.markAt_zero N L i j
      have HB1 : Hid (Below B w w1) := hbel.trans (hb1.mono (by have := hbel.size; omega))
      have HON1 : Hid (Only [kJournals.e] w w1) := HONLY.out.trans (Only.below hb1)
      have HMM := Lib.hid hmm
      clear hmm hb1
      generalize hnn : N i = n at *
      have HNN := Lib.hid hnn
      clear hnn
      go_wp2_with fail
      go_loopw [4] (fun kv wr => ∃ k : Nat, k ≤ n ∧ kv = .int .i64 k ∧ kJournals.KeptV wr B b F m V N (kJournals.markAt N L i k) ∧ wr.ownsRow wo.heap.size 111 6 (.slice Am n cm) n (kJournals.marks i 0 n) ∧ Below B w wr ∧ Only [kJournals.e] w wr) (fun kv _ => n - (intOf kv).toNat)
      case atStart => exact ⟨0, Nat.zero_le _, rfl, HK1.out, HMM.out, HB1.out, HON1.out⟩
      case round =>
        obtain ⟨k, hk, rfl, hkv, hmr, hbr, hor⟩ := hrel
        have HOR := Lib.hid hor
        clear hor
        by_cases hkn : k < n
        · have hc3 : wr.cell? ⟨b, 10, none⟩ = some (F 10) := hkv.1.cell (i := 10) (by omega)
          obtain ⟨G3, d3, f3, g3, _⟩ := Kind.tab_at hkv.2.2.1 hlt
          rw [show F 10 = _ from f3] at hc3
          have hVr := hkv.2.2.2.1 i hlt
          rw [HNN.out] at hVr
          obtain ⟨g, cv2, ev2, hBg, hglt⟩ := hVr.form (by omega)
          have hVr2 := hVr
          rw [ev2] at g3 hVr2
          obtain ⟨gm, cm2, em2, _, hgm⟩ := hmr.form (by omega)
          injection em2 with em3 _ em4
          subst em3
          subst em4
          have hmk := jrs_at (markJrs i 0 n) k (jrMark i (0 + k)) (by simp [markJrs, hkn])
          rw [← marks_jrs] at hmk
          have hm0 : wr.cell? ⟨gm, k * 6, none⟩ = some (.int .i64 0) := own_cell hmr (hmk 0 _ rfl)
          have hm1 : wr.cell? ⟨gm, k * 6 + 1, none⟩ = some (.int .i64 0) := own_cell hmr (hmk 1 _ rfl)
          have hm2 : wr.cell? ⟨gm, k * 6 + 2, none⟩ = some (.int .i64 0) := own_cell hmr (hmk 2 _ rfl)
          have hm3 : wr.cell? ⟨gm, k * 6 + 3, none⟩ = some (.string (nameS i (0 + k))) := own_cell hmr (hmk 3 _ rfl)
          have hm4 : wr.cell? ⟨gm, k * 6 + 4, none⟩ = some (.slice none 0 0) := own_cell hmr (hmk 4 _ rfl)
          have hm5 : wr.cell? ⟨gm, k * 6 + 5, none⟩ = some (.bool false) := own_cell hmr (hmk 5 _ rfl)
          have hxl : (kJournals.markAt N L i k i).length = n * 6 := hVr2.1
          obtain ⟨y0, hy0⟩ := own_some hVr2 (j := k * 6) (by omega)
          obtain ⟨y1, hy1⟩ := own_some hVr2 (j := k * 6 + 1) (by omega)
          obtain ⟨y2, hy2⟩ := own_some hVr2 (j := k * 6 + 2) (by omega)
          obtain ⟨y3, hy3⟩ := own_some hVr2 (j := k * 6 + 3) (by omega)
          obtain ⟨y4, hy4⟩ := own_some hVr2 (j := k * 6 + 4) (by omega)
          obtain ⟨y5, hy5⟩ := own_some hVr2 (j := k * 6 + 5) (by omega)
          have hf0 := own_warm hVr2 (k * 6)
          have hf1 := own_warm hVr2 (k * 6 + 1)
          have hf2 := own_warm hVr2 (k * 6 + 2)
          have hf3 := own_warm hVr2 (k * 6 + 3)
          have hf4 := own_warm hVr2 (k * 6 + 4)
          have hf5 := own_warm hVr2 (k * 6 + 5)
          have hknI : (k : Int) < (n : Int) := by omega
          have HPUT := Lib.hid ((hkv.put (o := k * 6) hlt (by rw [HNN.out]; exact ev2) (kJournals.mark i k)).congr (fun _ _ => rfl) fun j _ => kJournals.markAt_step N L i k (HLL.out i hlt) (by rw [HNN.out]; exact hkn) j)
          have hsep : g ≠ gm := by
            have h1 := own_ge hmr gm rfl
            have h2 := own_lt (by have := HV.out; rw [HEV.out] at this; exact this) (k := g)
            intro e
            have : (Value.slice Av n cv).ownBlock = some g := by
              rw [← HEV.out, ev2]; rfl
            have := h2 this
            omega
          have HMR : Hid ((wr.setCells g (k * 6) (kJournals.mark i k)).ownsRow wo.heap.size 111 6 (.slice (some ⟨gm, 0, none⟩) n cm) n (kJournals.marks i 0 n)) :=
            own_kept hmr fun q _ hq => setCells_other _ _ _ _ (fun e => hsep (by
              have : gm = q := by simpa [Value.ownBlock] using hq
              rw [this]; exact e.symm))
          have HOR2 : Hid (Only [kJournals.e] w (wr.setCells g (k * 6) (kJournals.mark i k))) := by
            obtain ⟨cur, hcur⟩ := own_block hVr2 (k := g) rfl
            exact HOR.out.trans (setCells_only hcur _ _)
          have HBR : Hid (Below B w (wr.setCells g (k * 6) (kJournals.mark i k))) := hbr.trans (setCells_below hBg _ _ _)
          have HW : Hid (wr.setCells g (k * 6) (kJournals.mark i k) = (((((wr.setCell ⟨g, k * 6, none⟩ (.int .i64 0)).setCell ⟨g, k * 6 + 1, none⟩ (.int .i64 0)).setCell ⟨g, k * 6 + 2, none⟩ (.int .i64 0)).setCell ⟨g, k * 6 + 3, none⟩ (.string (nameS i (0 + k)))).setCell ⟨g, k * 6 + 4, none⟩ (.slice none 0 0)).setCell ⟨g, k * 6 + 5, none⟩ (.bool false)) := by
            unfold Hid
            rw [Nat.zero_add]
            rfl
          generalize nameS i (0 + k) = x3 at *
          clear hkv hmr hVr hVr2 ev2 f3 f2 hmk hxl
          go_wp2_with fail
          go_still_tail 13, (by kernel_rfl)
          go_wp2
          rw [← HW.out]
          exact ⟨⟨k + 1, by omega, by go_num, HPUT.out.below (Drew.below ⟨1, rfl⟩), HMR.out, HBR.out.drew, HOR2.out.trans (Only.drew ⟨1, rfl⟩)⟩, by simp [intOf]; omega⟩
        · obtain rfl : k = n := by omega
          have HKV : Hid (kJournals.KeptV wr B b F m V N (kJournals.markTo N L (i + 1))) := hkv.congr (fun _ _ => rfl) fun j _ => by rw [← kJournals.markAt_end N L i j (HLL.out i hlt), HNN.out]
          clear hkv hmr
          go_wp2
          exact ⟨⟨i + 1, by omega, by go_num, HKV.out, hbr, HOR.out⟩, by simp [intOf]; omega⟩
    · rw [show F 10 = _ from E2.out] at hc2
      have HKK := Lib.hid hk
      clear hk
      go_wp2
      go_end0
      refine ⟨rfl, HKK.out.congr (fun _ _ => rfl) fun j hj => ?_, hbel, HONLY.out⟩
      simp [Kind.markTo, show j < i by omega]

set_option maxRecDepth 100000 in
set_option maxHeartbeats 1000000 in
theorem growJournals_any (b B m : Nat) (F V : Nat → Value) (N : Nat → Nat) (w : World) (h : kJournals.KeptV w B b F m V N (fun j => kJournals.marks j 0 (N j))) (hm : m ≤ 250) (hN : ∀ i, i < m → N i ≤ 800000) :
    Calls Tryz.prog 87 #[.pointer (some ⟨b, 0, none⟩)] w fun e w' => ∃ A c G, e = .returned (.slice A m c) ∧ kJournals.GInv w w' B b F m V N m (.slice A m c) G := by
  have HG0 := Lib.hid (Kind.ginv_start h (fun _ => .slice none 0 0))
  have HN := Lib.hid hN
  obtain ⟨A2, c2, e2⟩ := own_form h.2.2.1
  have E2 := Lib.hid e2
  clear h hN e2
  go_enter Tryz.func87, Tryz.ntmps87
  go_wp2_with fail
  go_loopw [3, 4] (fun ov iv wr => ∃ (i : Nat) (A : Option Addr) (c : Nat) (G : Nat → Value), i ≤ m ∧ iv = .int .i64 i ∧ ov = .slice A i c ∧ kJournals.GInv w wr B b F m V N i (.slice A i c) G) (fun _ iv _ => m - (intOf iv).toNat)
  case atStart => exact ⟨0, none, 0, _, Nat.zero_le _, rfl, rfl, HG0.out⟩
  case round =>
    obtain ⟨i, A, c, G, hi, rfl, rfl, hg⟩ := hrel
    have hc2 : wr.cell? ⟨b, 10, none⟩ = some (F 10) := hg.book.cell (i := 10) (by omega)
    have HG := Lib.hid hg
    by_cases hlt : i < m
    · obtain ⟨G2, d2, f2, g2, _⟩ := Kind.tab_at hg.tab hlt
      rw [show F 10 = _ from f2] at hc2
      have hl := Kind.linv_start hlt hg
      obtain ⟨Av, cv, ev⟩ := own_form hl.own
      rw [ev] at g2 hl
      have HLI := Lib.hid hl
      have hni := HN.out i hlt
      have hiI : (i : Int) < (m : Int) := by omega
      clear hg f2 hl ev
      obtain ⟨wo, hwo⟩ : ∃ z, z = wr := ⟨_, rfl⟩
      subst hwo
      generalize hnn : N i = n at *
      have HNN := Lib.hid hnn
      clear hnn
      go_wp2_with fail
      go_loopw [5, 6] (fun lv tv wr => ∃ (t : Nat) (Al : Option Addr) (cl : Nat), t ≤ 12 ∧ tv = .int .i64 t ∧ lv = .slice Al (n + t) cl ∧ kJournals.LInv w wr B b F m V N i (.slice A i c) G wo.heap.size (.slice Al (n + t) cl) (n + t)) (fun _ tv _ => 12 - (intOf tv).toNat)
      case atStart => exact ⟨0, Av, cv, by omega, rfl, rfl, HLI.out⟩
      case round =>
        obtain ⟨t, Al, cl, ht, rfl, rfl, hl⟩ := hrel
        have HL := Lib.hid hl
        by_cases ht12 : t < 12
        · clear hl
          have ec : ((n + t : Nat) : Int) = (n : Int) + (t : Int) := by omega
          go_wp2_with fail
          rw [show ((n : Int) + (t : Int)) = ((n + t : Nat) : Int) from by omega, show (1 : Int) = ((1 : Nat) : Int) from rfl]
          refine (markJournals_any i (n + t) 1 wr (by omega) (by omega) (by omega)).mono ?_
          rintro e w1 ⟨Am, cm, rfl, hmm, hb1⟩
          have hz1 := hb1.size
          have hbl := HL.out.inv.book.lt
          have hlow := HL.out.inv.low
          obtain ⟨v', w2, hrun, hown, hgw, hp, hst⟩ := append_strong (P := Tryz.prog) (ty := 48) (c := cm) infoJrn Tryz.underlying48 rfl (by omega) B (.slice Al (n + t) cl) (n + t) _ (own_kept HL.out.own fun k hk _ => hb1.block k hk) (rd_of_own hmm) (marks_oneJr _ _ _) (by unfold maxLen; omega) (by omega) (by omega)
          have HL2 := Lib.hid (Kind.linv_step hlt HL.out hb1 hown hgw hp hst)
          obtain ⟨A', c', rfl⟩ := own_form hown
          have HR := Lib.hid hrun
          clear hrun hown hgw hp hst hmm hb1
          go_wp2_with (at_builtin; refine wpList_append_run rfl _ _ _ rfl _ _ _ _ rfl rfl HR.out ?_)
          exact ⟨⟨t + 1, A', c', by omega, by go_num, rfl, HL2.out⟩, by simp [intOf]; omega⟩
        · obtain rfl : t = 12 := by omega
          clear hl
          go_wp2_with fail
          rw [show ((n : Int) + 12) = ((n + 12 : Nat) : Int) from by omega, show (60 : Int) = ((60 : Nat) : Int) from rfl]
          refine (markJournals_any i (n + 12) 60 wr (by omega) (by omega) (by omega)).mono ?_
          rintro e w1 ⟨Am, cm, rfl, hmm, hb1⟩
          have hz1 := hb1.size
          have hbl := HL.out.inv.book.lt
          have hlow := HL.out.inv.low
          obtain ⟨v', w2, hrun, hown, hgw, hp, hst⟩ := append_strong (P := Tryz.prog) (ty := 48) (c := cm) infoJrn Tryz.underlying48 rfl (by omega) B (.slice Al (n + 12) cl) (n + 12) _ (own_kept HL.out.own fun k hk _ => hb1.block k hk) (rd_of_own hmm) (marks_oneJr _ _ _) (by unfold maxLen; omega) (by omega) (by omega)
          have HL2 := Lib.hid (Kind.linv_step hlt HL.out hb1 hown hgw hp hst)
          obtain ⟨A', c', rfl⟩ := own_form hown
          have HR := Lib.hid hrun
          obtain ⟨v3, w3, hrun3, ht3, hsz3, hk3, hv3, ho1, ho2, ho3⟩ := Kind.push (T := 39) HL2.out.inv.out infoJournals Tryz.underlying39 (.slice A' (n + 12 + 60) c') rfl (by omega) (by have := HL2.out.inv.book.lt; omega)
          have HG3 : Hid (kJournals.GInv w w3 B b F m V N (i + 1) v3 (upd G i (.slice A' (n + 12 + 60) c'))) := Kind.linv_done hlt (by have := HL2.out; rw [HNN.out]; exact this) ht3 (by omega) hk3 hv3 ho1 ho2 ho3
          obtain ⟨A3, c3, rfl⟩ := own_form ht3
          have HR3 := Lib.hid hrun3
          clear hrun hown hgw hp hst hmm hb1 hrun3 ht3 hsz3 hk3 hv3 ho1 ho2 ho3
          go_wp2_with (at_builtin; first | refine wpList_append_run rfl _ _ _ rfl _ _ _ _ rfl rfl HR.out ?_ | refine wpList_append_run rfl _ _ _ rfl _ _ _ _ rfl rfl HR3.out ?_)
          exact ⟨⟨i + 1, A3, c3, _, by omega, by go_num, rfl, HG3.out⟩, by simp [intOf]; omega⟩
    · rw [show F 10 = _ from E2.out] at hc2
      obtain rfl : i = m := by omega
      clear hg
      go_wp2
      go_ret
      exact ⟨A, c, G, rfl, HG.out⟩

set_option maxRecDepth 100000 in
set_option maxHeartbeats 1000000 in
theorem markedJournals_any (A : Option Addr) (c B m : Nat) (G : Nat → Value) (M : Nat → Nat) (w : World) (ht : kJournals.Tab w B (.slice A m c) m G) (hr : ∀ j, j < m → w.ownsRow B kJournals.e kJournals.size (G j) (M j) (kJournals.marks j 0 (M j))) (hm : m ≤ 250) (hM : ∀ i, i < m → M i ≤ 800000) :
    Calls Tryz.prog 97 #[.slice A m c] w fun e w' => e = .returned (.bool true) ∧ Below w.heap.size w w' := by
  have HT := Lib.hid ht
  have HR := Lib.hid hr
  have HM := Lib.hid hM
  clear ht hr hM
  go_enter Tryz.func97, Tryz.ntmps97
  go_wp2_with fail
  go_loopw [3] (fun iv wr => ∃ i : Nat, i ≤ m ∧ iv = .int .i64 i ∧ Below w.heap.size w wr) (fun iv _ => m - (intOf iv).toNat)
  case atStart => exact ⟨0, Nat.zero_le _, rfl, Below.refl _ _⟩
  case round =>
    obtain ⟨i, hi, rfl, hb⟩ := hrel
    by_cases hlt : i < m
    · obtain ⟨g, cap, f1, g1, hg, _⟩ := Kind.tab_at HT.out hlt
      injection f1 with f1 _ f2
      subst f1
      subst f2
      have hc1 := (hb.cell (p := ⟨g, i, none⟩) hg).trans g1
      have hV := own_kept (HR.out i hlt) fun k hk _ => hb.block k hk
      have hn := HM.out i hlt
      obtain ⟨Av, cv, ev⟩ := own_form hV
      rw [ev] at hc1 hV
      have HV := Lib.hid hV
      have hiI : (i : Int) < (m : Int) := by omega
      have hgz : g < wr.heap.size := Nat.lt_of_lt_of_le hg hb.size
      generalize hnn : M i = n at *
      clear g1 hV ev
      go_wp2_with fail
      go_region_law (first
        | (go_simp; go_at_call 147; refine (markJournals_any i 0 n _ (by omega) (by omega) (by omega)).mono ?_; rintro e w1 ⟨A5, c5, rfl, hmk, hb1⟩; have hc2 := (hb1.cell (p := ⟨g, i, none⟩) hgz).trans hc1)
        | (go_simp; go_at_call 19; refine (sameJournals_any (markJrs i 0 n) (markJrs i 0 n) Av A5 n cv c5 _ _ _ (markJl (own_kept HV.out fun k hk _ => hb1.block k hk)) (markJl hmk) (Nat.le_refl _) (Nat.le_refl _) (by omega) rfl).mono ?_; rintro e w2 ⟨rfl, hb2⟩))
      all_goals
        have HB3 : Hid (Below w.heap.size w w2) := (hb.drew.trans (hb1.mono hb.size)).trans (hb2.mono (Nat.le_trans hb.size hb1.size))
        clear hb1 hb2
        go_wp2
        exact ⟨⟨i + 1, by omega, by go_num, HB3.out⟩, by simp [intOf]; omega⟩
    · go_wp2
      go_ret
      exact ⟨rfl, hb⟩
end Go.Proofs.YtjlokkjbdgcooaaGreat

