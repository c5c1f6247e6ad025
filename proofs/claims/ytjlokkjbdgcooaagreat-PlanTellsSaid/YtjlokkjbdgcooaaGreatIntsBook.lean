/-
  What the book's calls do with the lists that it keeps: are they as they were; marks; growing.
-/
import Derived.Test.YtjlokkjbdgcooaaGreatMany26
namespace Go.Proofs.YtjlokkjbdgcooaaGreat
open Go.RowKit

set_option maxRecDepth 100000 in
set_option maxHeartbeats 1000000 in
theorem stillKInts_any (b B m : Nat) (F V U : Nat → Value) (L : Nat → List Int) (w : World) (h : kInts.Kept w B b F m V U (fun i => (L i).length) (fun i => ints .i64 (L i))) (hm : m ≤ 250) (hL : ∀ i, i < m → (L i).length ≤ 1000000) :
    Calls Tryz.prog 63 #[.pointer (some ⟨b, 0, none⟩)] w fun e w' => e = .returned (.bool true) ∧ Drew w w' := by
  have HK := Lib.hid h
  obtain ⟨A2, c2, e2⟩ := own_form h.2.2.1
  have E2 := Lib.hid e2; have HL := Lib.hid hL
  clear h e2 hL
  go_enter Tryz.func63, Tryz.ntmps63
  go_wp2_with fail
  go_loopw [3] (fun iv wr => ∃ i : Nat, i ≤ m ∧ iv = .int .i64 i ∧ Drew w wr) (fun iv _ => m - (intOf iv).toNat)
  case atStart => exact ⟨0, Nat.zero_le _, rfl, Drew.refl _⟩
  case round =>
    obtain ⟨i, hi, rfl, hd⟩ := hrel
    have hk := HK.out.drew hd
    have hc2 : wr.cell? ⟨b, 2, none⟩ = some (F 2) := hk.1.cell (i := 2) (by omega)
    have hc3 : wr.cell? ⟨b, 3, none⟩ = some (F 3) := hk.1.cell (i := 3) (by omega)
    by_cases hlt : i < m
    · obtain ⟨G2, d2, f2, g2, _⟩ := Kind.tab_at hk.2.2.1 hlt
      obtain ⟨G3, d3, f3, g3, _⟩ := Kind.tab_at hk.2.2.2.1 hlt
      rw [show F 2 = _ from f2] at hc2
      rw [show F 3 = _ from f3] at hc3
      have hV := hk.2.2.2.2.2.1.1 i hlt
      have hU := hk.2.2.2.2.2.2.1 i hlt
      have hll := HL.out i hlt
      obtain ⟨Av, cv, ev⟩ := own_form hV
      obtain ⟨Au, cu, eu⟩ := own_form hU
      rw [ev] at g2 hV
      rw [eu] at g3 hU
      have HV : Hid (Rd wr wr.heap.size 1 Av (L i).length (ints .i64 (L i))) := rd_of_own hV
      have HU : Hid (Rd wr wr.heap.size 1 Au (L i).length (ints .i64 (L i))) := rd_of_own hU
      have hiI : (i : Int) < (m : Int) := by omega
      have ht : (L i == L i) = true := by simp
      have HT := Lib.hid ht
      dsimp only at g2 g3
      generalize (L i).length = n at *
      clear hk hV hU ev eu f2 f3 ht
      go_wp2_with fail
      go_quiet ((go_at_call 20; refine (quiet_drew (sameInts_any (L i) (L i) _ _ n n _ _ _ _ _ (HV.out.drewN _) (HU.out.drewN _) (by unfold maxLen; omega) (by unfold maxLen; omega)))))
      rw [HT.out]
      go_wp2
      exact ⟨⟨i + 1, by omega, by go_num, hd.trans (Drew.mk _ _)⟩, by simp [intOf]; omega⟩
    · rw [show F 2 = _ from E2.out] at hc2
      clear hk hc3
      go_wp2
      go_ret
      exact ⟨rfl, hd⟩

set_option maxRecDepth 100000 in
set_option maxHeartbeats 1000000 in
theorem putKInts_any (b B m : Nat) (F V : Nat → Value) (N : Nat → Nat) (L : Nat → List Value) (w : World) (h : kInts.KeptV w B b F m V N L) (hm : m ≤ 250) (hN : ∀ i, i < m → N i ≤ 1000000) :
    Calls Tryz.prog 75 #[.pointer (some ⟨b, 0, none⟩)] w fun e w' => e = .returned (.tuple #[]) ∧ kInts.KeptV w' B b F m V N (fun j => kInts.marks j 0 (N j)) ∧ Below B w w' ∧ Only [kInts.e] w w' := by
  have HK := Lib.hid h
  obtain ⟨A2, c2, e2⟩ := own_form h.2.2.1
  have hBs : B ≤ w.heap.size := by have := h.1.lt; have := h.2.1; omega
  have HLL : Hid (∀ i, i < m → (L i).length = N i * kInts.size) := fun i hi => (h.2.2.2.1 i hi).1
  have E2 := Lib.hid e2; have HN := Lib.hid hN
  clear h e2 hN
  go_enter Tryz.func75, Tryz.ntmps75
  go_wp2_with fail
  go_loopw [2] (fun iv wr => ∃ i : Nat, i ≤ m ∧ iv = .int .i64 i ∧ kInts.KeptV wr B b F m V N (kInts.markTo N L i) ∧ Below B w wr ∧ Only [kInts.e] w wr) (fun iv _ => m - (intOf iv).toNat)
  case atStart => exact ⟨0, Nat.zero_le _, rfl, HK.out.congr (fun _ _ => rfl) fun i _ => by simp [Kind.markTo], Below.refl _ _, Only.refl _ _⟩
  case round =>
    obtain ⟨i, hi, rfl, hk, hbel, honly⟩ := hrel
    have hc2 : wr.cell? ⟨b, 2, none⟩ = some (F 2) := hk.1.cell (i := 2) (by omega)
    have HONLY := Lib.hid honly
    clear honly
    by_cases hlt : i < m
    · obtain ⟨G2, d2, f2, g2, hG2, _⟩ := Kind.tab_at hk.2.2.1 hlt
      rw [show F 2 = _ from f2] at hc2
      have hll := HN.out i hlt
      have hV := hk.2.2.2.1 i hlt
      obtain ⟨Av, cv, ev⟩ := own_form hV
      rw [ev] at g2
      have hiI : (i : Int) < (m : Int) := by omega
      have HKK := Lib.hid hk
      have HEV := Lib.hid ev
      have HV := Lib.hid hV
      have hblr := hk.1.lt
      obtain ⟨wo, hwo⟩ : ∃ z, z = wr := ⟨_, rfl⟩
      subst hwo
      clear hk hV ev
      go_wp2_with fail
      refine (markKInts_any i 0 (N i) _ (by omega) (by omega) (by omega)).mono ?_
      rintro e w1 ⟨Am, cm, rfl, hmm, hb1⟩
      have hz1 := hb1.size
      have HK1 : Hid (kInts.KeptV w1 B b F m V N (kInts.markAt N L i 0)) := (HKK.out.below hb1).congr (fun _ _ => rfl) fun j _ => kInts.markAt_zero N L i j
      have HB1 : Hid (Below B w w1) := hbel.trans (hb1.mono (by have := hbel.size; omega))
      have HON1 : Hid (Only [kInts.e] w w1) := HONLY.out.trans (Only.below hb1)
      have HMM := Lib.hid hmm
      clear hmm hb1
      generalize hnn : N i = n at *
      have HNN := Lib.hid hnn
      clear hnn
      go_wp2_with fail
      go_loopw [4] (fun kv wr => ∃ k : Nat, k ≤ n ∧ kv = .int .i64 k ∧ kInts.KeptV wr B b F m V N (kInts.markAt N L i k) ∧ wr.ownsRow wo.heap.size 3 1 (.slice Am n cm) n (kInts.marks i 0 n) ∧ Below B w wr ∧ Only [kInts.e] w wr) (fun kv _ => n - (intOf kv).toNat)
      case atStart => exact ⟨0, Nat.zero_le _, rfl, HK1.out, HMM.out, HB1.out, HON1.out⟩
      case round =>
        obtain ⟨k, hk, rfl, hkv, hmr, hbr, hor⟩ := hrel
        have HOR := Lib.hid hor
        clear hor
        by_cases hkn : k < n
        · have hc3 : wr.cell? ⟨b, 2, none⟩ = some (F 2) := hkv.1.cell (i := 2) (by omega)
          obtain ⟨G3, d3, f3, g3, _⟩ := Kind.tab_at hkv.2.2.1 hlt
          rw [show F 2 = _ from f3] at hc3
          have hVr := hkv.2.2.2.1 i hlt
          rw [HNN.out] at hVr
          obtain ⟨g, cv2, ev2, hBg, hglt⟩ := hVr.form (by omega)
          have hVr2 := hVr
          rw [ev2] at g3 hVr2
          obtain ⟨gm, cm2, em2, _, hgm⟩ := hmr.form (by omega)
          injection em2 with em3 _ em4
          subst em3
          subst em4
          have hm0 : wr.cell? ⟨gm, k, none⟩ = some (.int .i64 (intMark i k)) := own_cell hmr (by rw [marks_ints]; simp [ints, markL, intMark, hkn])
          have hxl : (kInts.markAt N L i k i).length = n * 1 := hVr2.1
          obtain ⟨y0, hy0⟩ := own_some hVr2 (j := k) (by omega)
          have hf0 := own_warm hVr2 k
          have hknI : (k : Int) < (n : Int) := by omega
          have HPUT := Lib.hid ((hkv.put (o := k) hlt (by rw [HNN.out]; exact ev2) (kInts.mark i k)).congr (L' := kInts.markAt N L i (k + 1)) (fun _ _ => rfl) fun j _ => by have := kInts.markAt_step N L i k (HLL.out i hlt) (by rw [HNN.out]; exact hkn) j; rw [show k * kInts.size = k from Nat.mul_one k] at this; exact this)
          have hsep : g ≠ gm := by
            have h1 := own_ge hmr gm rfl
            have h2 := own_lt (by have := HV.out; rw [HEV.out] at this; exact this) (k := g)
            intro e
            have : (Value.slice Av n cv).ownBlock = some g := by
              rw [← HEV.out, ev2]; rfl
            have := h2 this
            omega
          have HMR : Hid ((wr.setCells g (k) (kInts.mark i k)).ownsRow wo.heap.size 3 1 (.slice (some ⟨gm, 0, none⟩) n cm) n (kInts.marks i 0 n)) :=
            own_kept hmr fun q _ hq => setCells_other _ _ _ _ (fun e => hsep (by
              have : gm = q := by simpa [Value.ownBlock] using hq
              rw [this]; exact e.symm))
          have HOR2 : Hid (Only [kInts.e] w (wr.setCells g (k) (kInts.mark i k))) := by
            obtain ⟨cur, hcur⟩ := own_block hVr2 (k := g) rfl
            exact HOR.out.trans (setCells_only hcur _ _)
          have HBR : Hid (Below B w (wr.setCells g (k) (kInts.mark i k))) := hbr.trans (setCells_below hBg _ _ _)
          have HW : Hid (wr.setCells g (k) (kInts.mark i k) = wr.setCell ⟨g, k, none⟩ (.int .i64 (intMark i k))) := by
            unfold Hid
            rfl
          generalize intMark i k = x0 at *
          clear hkv hmr hVr hVr2 ev2 f3 f2 hxl
          go_wp2_with fail
          go_still_tail 13, (by kernel_rfl)
          go_wp2
          rw [← HW.out]
          exact ⟨⟨k + 1, by omega, by go_num, HPUT.out.below (Drew.below ⟨1, rfl⟩), HMR.out, HBR.out.drew, HOR2.out.trans (Only.drew ⟨1, rfl⟩)⟩, by simp [intOf]; omega⟩
        · obtain rfl : k = n := by omega
          have HKV : Hid (kInts.KeptV wr B b F m V N (kInts.markTo N L (i + 1))) := hkv.congr (fun _ _ => rfl) fun j _ => by rw [← kInts.markAt_end N L i j (HLL.out i hlt), HNN.out]
          clear hkv hmr
          go_wp2
          exact ⟨⟨i + 1, by omega, by go_num, HKV.out, hbr, HOR.out⟩, by simp [intOf]; omega⟩
    · rw [show F 2 = _ from E2.out] at hc2
      have HKK := Lib.hid hk
      clear hk
      go_wp2
      go_end0
      refine ⟨rfl, HKK.out.congr (fun _ _ => rfl) fun j hj => ?_, hbel, HONLY.out⟩
      simp [Kind.markTo, show j < i by omega]

set_option maxRecDepth 100000 in
set_option maxHeartbeats 1000000 in
theorem growKInts_any (b B m : Nat) (F V : Nat → Value) (N : Nat → Nat) (w : World) (h : kInts.KeptV w B b F m V N (fun j => kInts.marks j 0 (N j))) (hm : m ≤ 250) (hN : ∀ i, i < m → N i ≤ 1000000) :
    Calls Tryz.prog 83 #[.pointer (some ⟨b, 0, none⟩)] w fun e w' => ∃ A c G, e = .returned (.slice A m c) ∧ kInts.GInv w w' B b F m V N m (.slice A m c) G := by
  have HG0 := Lib.hid (Kind.ginv_start h (fun _ => .slice none 0 0))
  have HN := Lib.hid hN
  obtain ⟨A2, c2, e2⟩ := own_form h.2.2.1
  have E2 := Lib.hid e2
  clear h hN e2
  go_enter Tryz.func83, Tryz.ntmps83
  go_wp2_with fail
  go_loopw [3, 4] (fun ov iv wr => ∃ (i : Nat) (A : Option Addr) (c : Nat) (G : Nat → Value), i ≤ m ∧ iv = .int .i64 i ∧ ov = .slice A i c ∧ kInts.GInv w wr B b F m V N i (.slice A i c) G) (fun _ iv _ => m - (intOf iv).toNat)
  case atStart => exact ⟨0, none, 0, _, Nat.zero_le _, rfl, rfl, HG0.out⟩
  case round =>
    obtain ⟨i, A, c, G, hi, rfl, rfl, hg⟩ := hrel
    have hc2 : wr.cell? ⟨b, 2, none⟩ = some (F 2) := hg.book.cell (i := 2) (by omega)
    have HG := Lib.hid hg
    by_cases hlt : i < m
    · obtain ⟨G2, d2, f2, g2, _⟩ := Kind.tab_at hg.tab hlt
      rw [show F 2 = _ from f2] at hc2
      have hl := Kind.linv_start hlt hg
      obtain ⟨Av, cv, ev⟩ := own_form hl.own
      rw [ev] at g2 hl
      have HLI := Lib.hid hl
      have hni := HN.out i hlt
      have hiI : (i : Int) < (m : Int) := by omega
      clear hg f2 hl ev
      obtain ⟨wo, hwo⟩ : ∃ z, z = wr := ⟨_, rfl⟩
      subst hwo
      generalize hnn : N i = n at *
      have HNN := Lib.hid hnn
      clear hnn
      go_wp2_with fail
      go_loopw [5, 6] (fun lv tv wr => ∃ (t : Nat) (Al : Option Addr) (cl : Nat), t ≤ 12 ∧ tv = .int .i64 t ∧ lv = .slice Al (n + t) cl ∧ kInts.LInv w wr B b F m V N i (.slice A i c) G wo.heap.size (.slice Al (n + t) cl) (n + t)) (fun _ tv _ => 12 - (intOf tv).toNat)
      case atStart => exact ⟨0, Av, cv, by omega, rfl, rfl, HLI.out⟩
      case round =>
        obtain ⟨t, Al, cl, ht, rfl, rfl, hl⟩ := hrel
        have HL := Lib.hid hl
        by_cases ht12 : t < 12
        · clear hl
          have ec : ((n + t : Nat) : Int) = (n : Int) + (t : Int) := by omega
          go_wp2_with fail
          rw [show ((n : Int) + (t : Int)) = ((n + t : Nat) : Int) from by omega, show (1 : Int) = ((1 : Nat) : Int) from rfl]
          refine (markKInts_any i (n + t) 1 wr (by omega) (by omega) (by omega)).mono ?_
          rintro e w1 ⟨Am, cm, rfl, hmm, hb1⟩
          have hz1 := hb1.size
          have hbl := HL.out.inv.book.lt
          have hlow := HL.out.inv.low
          obtain ⟨v', w2, hrun, hown, hgw, hp, hst⟩ := append_strong (P := Tryz.prog) (ty := 22) (c := cm) infoInt Tryz.underlying22 rfl (by omega) B (.slice Al (n + t) cl) (n + t) _ (own_kept HL.out.own fun k hk _ => hb1.block k hk) (rd_of_own hmm) (marks_oneInt _ _ _) (by unfold maxLen; omega) (by omega) (by omega)
          have HL2 := Lib.hid (Kind.linv_step hlt HL.out hb1 hown hgw hp hst)
          obtain ⟨A', c', rfl⟩ := own_form hown
          have HR := Lib.hid hrun
          clear hrun hown hgw hp hst hmm hb1
          go_wp2_with (at_builtin; refine wpList_append_run rfl _ _ _ rfl _ _ _ _ rfl rfl HR.out ?_)
          exact ⟨⟨t + 1, A', c', by omega, by go_num, rfl, HL2.out⟩, by simp [intOf]; omega⟩
        · obtain rfl : t = 12 := by omega
          clear hl
          go_wp2_with fail
          rw [show ((n : Int) + 12) = ((n + 12 : Nat) : Int) from by omega, show (60 : Int) = ((60 : Nat) : Int) from rfl]
          refine (markKInts_any i (n + 12) 60 wr (by omega) (by omega) (by omega)).mono ?_
          rintro e w1 ⟨Am, cm, rfl, hmm, hb1⟩
          have hz1 := hb1.size
          have hbl := HL.out.inv.book.lt
          have hlow := HL.out.inv.low
          obtain ⟨v', w2, hrun, hown, hgw, hp, hst⟩ := append_strong (P := Tryz.prog) (ty := 22) (c := cm) infoInt Tryz.underlying22 rfl (by omega) B (.slice Al (n + 12) cl) (n + 12) _ (own_kept HL.out.own fun k hk _ => hb1.block k hk) (rd_of_own hmm) (marks_oneInt _ _ _) (by unfold maxLen; omega) (by omega) (by omega)
          have HL2 := Lib.hid (Kind.linv_step hlt HL.out hb1 hown hgw hp hst)
          obtain ⟨A', c', rfl⟩ := own_form hown
          have HR := Lib.hid hrun
          obtain ⟨v3, w3, hrun3, ht3, hsz3, hk3, hv3, ho1, ho2, ho3⟩ := Kind.push (T := 35) HL2.out.inv.out infoKInts Tryz.underlying35 (.slice A' (n + 12 + 60) c') rfl (by omega) (by have := HL2.out.inv.book.lt; omega)
          have HG3 : Hid (kInts.GInv w w3 B b F m V N (i + 1) v3 (upd G i (.slice A' (n + 12 + 60) c'))) := Kind.linv_done hlt (by have := HL2.out; rw [HNN.out]; exact this) ht3 (by omega) hk3 hv3 ho1 ho2 ho3
          obtain ⟨A3, c3, rfl⟩ := own_form ht3
          have HR3 := Lib.hid hrun3
          clear hrun hown hgw hp hst hmm hb1 hrun3 ht3 hsz3 hk3 hv3 ho1 ho2 ho3
          go_wp2_with (at_builtin; first | refine wpList_append_run rfl _ _ _ rfl _ _ _ _ rfl rfl HR.out ?_ | refine wpList_append_run rfl _ _ _ rfl _ _ _ _ rfl rfl HR3.out ?_)
          exact ⟨⟨i + 1, A3, c3, _, by omega, by go_num, rfl, HG3.out⟩, by simp [intOf]; omega⟩
    · rw [show F 2 = _ from E2.out] at hc2
      obtain rfl : i = m := by omega
      clear hg
      go_wp2
      go_ret
      exact ⟨A, c, G, rfl, HG.out⟩

set_option maxRecDepth 100000 in
set_option maxHeartbeats 1000000 in
theorem markedKInts_any (A : Option Addr) (c B m : Nat) (G : Nat → Value) (M : Nat → Nat) (w : World) (ht : kInts.Tab w B (.slice A m c) m G) (hr : ∀ j, j < m → w.ownsRow B kInts.e kInts.size (G j) (M j) (kInts.marks j 0 (M j))) (hm : m ≤ 250) (hM : ∀ i, i < m → M i ≤ 1000000) :
    Calls Tryz.prog 93 #[.slice A m c] w fun e w' => e = .returned (.bool true) ∧ Below w.heap.size w w' := by
  have HT := Lib.hid ht
  have HR := Lib.hid hr
  have HM := Lib.hid hM
  clear ht hr hM
  go_enter Tryz.func93, Tryz.ntmps93
  go_wp2_with fail
  go_loopw [3] (fun iv wr => ∃ i : Nat, i ≤ m ∧ iv = .int .i64 i ∧ Below w.heap.size w wr) (fun iv _ => m - (intOf iv).toNat)
  case atStart => exact ⟨0, Nat.zero_le _, rfl, Below.refl _ _⟩
  case round =>
    obtain ⟨i, hi, rfl, hb⟩ := hrel
    by_cases hlt : i < m
    · obtain ⟨g, cap, f1, g1, hg, _⟩ := Kind.tab_at HT.out hlt
      injection f1 with f1 _ f2
      subst f1
      subst f2
      have hc1 := (hb.cell (p := ⟨g, i, none⟩) hg).trans g1
      have hV := own_kept (HR.out i hlt) fun k hk _ => hb.block k hk
      have hn := HM.out i hlt
      obtain ⟨Av, cv, ev⟩ := own_form hV
      rw [ev] at hc1 hV
      have HV := Lib.hid hV
      have hiI : (i : Int) < (m : Int) := by omega
      have hgz : g < wr.heap.size := Nat.lt_of_lt_of_le hg hb.size
      generalize hnn : M i = n at *
      clear g1 hV ev
      go_wp2_with fail
      go_region_law (first
        | (go_simp; go_at_call 150; refine (markKInts_any i 0 n _ (by omega) (by omega) (by omega)).mono ?_; rintro e w1 ⟨A5, c5, rfl, hmk, hb1⟩; have hc2 := (hb1.cell (p := ⟨g, i, none⟩) hgz).trans hc1)
        | (go_simp; go_at_call 20; refine (sameInts_any (markL i 0 n) (markL i 0 n) Av A5 n n cv c5 _ _ _ (by rw [← marks_ints]; exact rd_of_own (own_kept HV.out fun k hk _ => hb1.block k hk)) (by rw [← marks_ints]; exact rd_of_own hmk) (by unfold maxLen; omega) (by unfold maxLen; omega)).mono ?_; rintro e w2 ⟨rfl, q, rfl⟩; rw [markL_same]))
      all_goals
        go_wp2
        exact ⟨⟨i + 1, by omega, by go_num, (hb.trans ((Drew.below ⟨1, rfl⟩).trans ((hb1.mono (Nat.le_refl _)).trans (Drew.below ⟨q, rfl⟩)) |>.mono hb.size))⟩, by simp [intOf]; omega⟩
    · go_wp2
      go_ret
      exact ⟨rfl, hb⟩
end Go.Proofs.YtjlokkjbdgcooaaGreat

