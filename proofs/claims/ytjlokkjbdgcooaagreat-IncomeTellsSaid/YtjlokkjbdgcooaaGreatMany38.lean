/-
  Several texts, one behind the other: what each holds stands ahead of it.
-/
import Derived.Test.YtjlokkjbdgcooaaGreatMany20
import Derived.Test.YtjlokkjbdgcooaaGreatMany37

/-
  Pairs as a kind of a book's lists: marks.
-/
namespace Go.Proofs.YtjlokkjbdgcooaaGreat
open Go.RowKit

def pairMark (i k : Nat) : Pair := ⟨-1000 * (i : Int) - (k : Int) - 1, 0⟩
def kPairs : Kind where
  f := 18
  t := 85
  e := 177
  size := 2
  mark := fun i k => (pairMark i k).cells
  hf := by decide
  hs := by decide
  hte := by decide
  htb := by decide
  heb := by decide
  hm := fun _ _ => rfl
theorem infoPairs : (Tryz.prog.info? kPairs.t).map (fun i => (i.zero, i.size, i.bytes)) = some (some (.slice none 0 0), 1, 24) := by kernel_rfl
theorem pairs_one (l : List Pair) : ∀ u ∈ pairs l, u.oneCell' = true := by
  intro u hu
  obtain ⟨a, _, hu⟩ := List.mem_flatMap.1 hu
  simp [Pair.cells] at hu
  rcases hu with rfl | rfl <;> rfl
def markPairs (i a n : Nat) : List Pair := (List.range n).map fun k => pairMark i (a + k)
theorem marks_pairs (i a n : Nat) : kPairs.marks i a n = pairs (markPairs i a n) := by
  unfold Kind.marks pairs markPairs
  rw [List.flatMap_map]; rfl
theorem markPairs_same (i n : Nat) : (markPairs i 0 n == markPairs i 0 n) = true := by simp
theorem marks_onePair (i a n : Nat) : ∀ u ∈ kPairs.marks i a n, u.oneCell' = true := by rw [marks_pairs]; exact pairs_one _

set_option maxRecDepth 100000 in
set_option maxHeartbeats 1000000 in
theorem markPairs_any (i a n : Nat) (w : World) (hi : i ≤ 1000) (ha : a ≤ 2000000) (hn : n ≤ 2000000) :
    Calls Tryz.prog 156 #[.int .i64 i, .int .i64 a, .int .i64 n] w fun e w' => ∃ A c, e = .returned (.slice A n c) ∧ w'.ownsRow w.heap.size 177 2 (.slice A n c) n (kPairs.marks i a n) ∧ Below w.heap.size w w' := by
  obtain ⟨i0, hi0, hz0, hz1, hz2⟩ := info_parts infoPair
  have hI := Lib.hid hi0; have hZ0 := Lib.hid hz0; have hZ1 := Lib.hid hz1; have hZ2 := Lib.hid hz2
  clear hi0 hz0 hz1 hz2
  go_enter Tryz.func156, Tryz.ntmps156
  go_wp2_with fail
  go_loopw [7, 8] (fun lv kv wr => ∃ (k : Nat) (A : Option Addr) (c : Nat), k ≤ n ∧ kv = .int .i64 ((a : Int) + (k : Int)) ∧ lv = .slice A k c ∧ wr.ownsRow w.heap.size 177 2 (.slice A k c) k (kPairs.marks i a k) ∧ Below w.heap.size w wr) (fun _ kv _ => a + n - (intOf kv).toNat)
  case atStart => exact ⟨0, none, 0, Nat.zero_le _, by simp, rfl, World.ownsRow_nil _ _ _ _, Below.refl _ _⟩
  case round =>
    obtain ⟨k, A, c, hk, rfl, rfl, hown, hbel⟩ := hrel
    have hsz := hbel.size
    by_cases hlt : k < n
    · have HX : Hid ([.int .i64 (-1000 * (i : Int) - ((a : Int) + (k : Int)) - 1), .int .i64 0] = kPairs.mark i (a + k)) := by
        unfold Hid
        show _ = (pairMark i (a + k)).cells
        unfold pairMark Pair.cells
        simp only [Int.natCast_add]
      go_wp2_with (at_builtin; refine wpList_append_lies _ rfl _ _ 85 rfl w.heap.size 177 i0 (.agg #[.int .i64 0, .int .i64 0]) 2 16 Tryz.underlying85 hI.out hZ0.out hZ1.out hZ2.out rfl (by decide) _ k _ rfl (own_kept hown fun q hq _ => Below.heap_alloc _ _ _ hq) ⟨wr.heap.size, 0, none⟩ 1 1 [.int .i64 (-1000 * (i : Int) - ((a : Int) + (k : Int)) - 1), .int .i64 0] rfl rfl (cells_new _ _ _) (by simp [Value.oneCell']) (by omega) (by unfold maxLen; omega) (by omega) (by simp; omega) _ rfl ?_)
      intro g cap w2 hown2 hg2 hat2 hlt2
      have hB2 : Hid (Below w.heap.size w w2) := (hbel.alloc hsz _).grown hg2 (by simp; omega) (own_ge hown)
      have HO2 := Lib.hid hown2
      clear hown2 hg2 hown hbel
      go_wp2
      refine ⟨⟨k + 1, some ⟨g, 0, none⟩, cap, by omega, by go_num, rfl, ?_, hB2.out⟩, by simp [intOf]; omega⟩
      have := HO2.out
      rw [HX.out] at this
      rw [Kind.marks_succ]
      exact this
    · obtain rfl : k = n := by omega
      have HO := Lib.hid hown
      clear hown
      go_wp2
      go_ret
      exact ⟨A, c, rfl, HO.out, hbel⟩
end Go.Proofs.YtjlokkjbdgcooaaGreat

/-
  What the book's calls do with the lists that it keeps: are they as they were; marks; growing.
-/
namespace Go.Proofs.YtjlokkjbdgcooaaGreat
open Go.RowKit

set_option maxRecDepth 100000 in
set_option maxHeartbeats 1000000 in
theorem stillPairs_any (b B m : Nat) (F V U : Nat → Value) (L : Nat → List Pair) (w : World) (h : kPairs.Kept w B b F m V U (fun i => (L i).length) (fun i => pairs (L i))) (hm : m ≤ 250) (hL : ∀ i, i < m → (L i).length ≤ 1000000) :
    Calls Tryz.prog 71 #[.pointer (some ⟨b, 0, none⟩)] w fun e w' => e = .returned (.bool true) ∧ Drew w w' := by
  have HK := Lib.hid h
  obtain ⟨A2, c2, e2⟩ := own_form h.2.2.1
  have E2 := Lib.hid e2; have HL := Lib.hid hL
  clear h e2 hL
  go_enter Tryz.func71, Tryz.ntmps71
  go_wp2_with fail
  go_loopw [3] (fun iv wr => ∃ i : Nat, i ≤ m ∧ iv = .int .i64 i ∧ Drew w wr) (fun iv _ => m - (intOf iv).toNat)
  case atStart => exact ⟨0, Nat.zero_le _, rfl, Drew.refl _⟩
  case round =>
    obtain ⟨i, hi, rfl, hd⟩ := hrel
    have hk := HK.out.drew hd
    have hc2 : wr.cell? ⟨b, 18, none⟩ = some (F 18) := hk.1.cell (i := 18) (by omega)
    have hc3 : wr.cell? ⟨b, 19, none⟩ = some (F 19) := hk.1.cell (i := 19) (by omega)
    by_cases hlt : i < m
    · obtain ⟨G2, d2, f2, g2, _⟩ := Kind.tab_at hk.2.2.1 hlt
      obtain ⟨G3, d3, f3, g3, _⟩ := Kind.tab_at hk.2.2.2.1 hlt
      rw [show F 18 = _ from f2] at hc2
      rw [show F 19 = _ from f3] at hc3
      have hV := hk.2.2.2.2.2.1.1 i hlt
      have hU := hk.2.2.2.2.2.2.1 i hlt
      have hll := HL.out i hlt
      obtain ⟨Av, cv, ev⟩ := own_form hV
      obtain ⟨Au, cu, eu⟩ := own_form hU
      rw [ev] at g2 hV
      rw [eu] at g3 hU
      have HV : Hid (Rd wr wr.heap.size 2 Av (L i).length (pairs (L i))) := rd_of_own hV
      have HU : Hid (Rd wr wr.heap.size 2 Au (L i).length (pairs (L i))) := rd_of_own hU
      have hiI : (i : Int) < (m : Int) := by omega
      have ht : (L i == L i) = true := by simp
      have HT := Lib.hid ht
      dsimp only at g2 g3
      generalize (L i).length = n at *
      clear hk hV hU ev eu f2 f3 ht
      go_wp2_with fail
      go_quiet ((go_at_call 39; refine (quiet_drew (samePairs_any (L i) (L i) _ _ n n _ _ _ _ _ (HV.out.drewN _) (HU.out.drewN _) (by omega) (by omega)))))
      rw [HT.out]
      go_wp2
      exact ⟨⟨i + 1, by omega, by go_num, hd.trans (Drew.mk _ _)⟩, by simp [intOf]; omega⟩
    · rw [show F 18 = _ from E2.out] at hc2
      clear hk hc3
      go_wp2
      go_ret
      exact ⟨rfl, hd⟩

set_option maxRecDepth 100000 in
set_option maxHeartbeats 1000000 in
theorem putPairs_any (b B m : Nat) (F V : Nat → Value) (N : Nat → Nat) (L : Nat → List Value) (w : World) (h : kPairs.KeptV w B b F m V N L) (hm : m ≤ 250) (hN : ∀ i, i < m → N i ≤ 1000000) :
    Calls Tryz.prog 81 #[.pointer (some ⟨b, 0, none⟩)] w fun e w' => e = .returned (.tuple #[]) ∧ kPairs.KeptV w' B b F m V N (fun j => kPairs.marks j 0 (N j)) ∧ Below B w w' ∧ Only [kPairs.e] w w' := by
  have HK := Lib.hid h
  obtain ⟨A2, c2, e2⟩ := own_form h.2.2.1
  have hBs : B ≤ w.heap.size := by have := h.1.lt; have := h.2.1; omega
  have HLL : Hid (∀ i, i < m → (L i).length = N i * kPairs.size) := fun i hi => (h.2.2.2.1 i hi).1
  have E2 := Lib.hid e2; have HN := Lib.hid hN
  clear h e2 hN
  go_enter Tryz.func81, Tryz.ntmps81
  go_wp2_with fail
  go_loopw [2] (fun iv wr => ∃ i : Nat, i ≤ m ∧ iv = .int .i64 i ∧ kPairs.KeptV wr B b F m V N (kPairs.markTo N L i) ∧ Below B w wr ∧ Only [kPairs.e] w wr) (fun iv _ => m - (intOf iv).toNat)
  case atStart => exact ⟨0, Nat.zero_le _, rfl, HK.out.congr (fun _ _ => rfl) fun i _ => by simp [Kind.markTo], Below.refl _ _, Only.refl _ _⟩
  case round =>
    obtain ⟨i, hi, rfl, hk, hbel, honly⟩ := hrel
    have hc2 : wr.cell? ⟨b, 18, none⟩ = some (F 18) := hk.1.cell (i := 18) (by omega)
    have HONLY := Lib.hid honly
    clear honly
    by_cases hlt : i < m
    · obtain ⟨G2, d2, f2, g2, hG2, _⟩ := Kind.tab_at hk.2.2.1 hlt
      rw [show F 18 = _ from f2] at hc2
      have hll := HN.out i hlt
      have hV := hk.2.2.2.1 i hlt
      obtain ⟨Av, cv, ev⟩ := own_form hV
      rw [ev] at g2
      have hiI : (i : Int) < (m : Int) := by omega
      have HKK := Lib.hid hk
      have HEV := Lib.hid ev
      have HV := Lib.hid hV
      have hblr := hk.1.lt
      obtain ⟨wo, hwo⟩ : ∃ z, z = wr := ⟨_, rfl⟩
      subst hwo
      clear hk hV ev
      go_wp2_with fail
      refine (markPairs_any i 0 (N i) _ (by omega) (by omega) (by omega)).mono ?_
      rintro e w1 ⟨Am, cm, rfl, hmm, hb1⟩
      have hz1 := hb1.size
      have HK1 : Hid (kPairs.KeptV w1 B b F m V N (kPairs.markAt N L i 0)) := (HKK.out.below hb1).congr (fun _ _ => rfl) fun j _ => kPairs.markAt_zero N L i j
      have HB1 : Hid (Below B w w1) := hbel.trans (hb1.mono (by have := hbel.size; omega))
      have HON1 : Hid (Only [kPairs.e] w w1) := HONLY.out.trans (Only.below hb1)
      have HMM := Lib.hid hmm
      clear hmm hb1
      generalize hnn : N i = n at *
      have HNN := Lib.hid hnn
      clear hnn
      go_wp2_with fail
      go_loopw [4] (fun kv wr => ∃ k : Nat, k ≤ n ∧ kv = .int .i64 k ∧ kPairs.KeptV wr B b F m V N (kPairs.markAt N L i k) ∧ wr.ownsRow wo.heap.size 177 2 (.slice Am n cm) n (kPairs.marks i 0 n) ∧ Below B w wr ∧ Only [kPairs.e] w wr) (fun kv _ => n - (intOf kv).toNat)
      case atStart => exact ⟨0, Nat.zero_le _, rfl, HK1.out, HMM.out, HB1.out, HON1.out⟩
      case round =>
        obtain ⟨k, hk, rfl, hkv, hmr, hbr, hor⟩ := hrel
        have HOR := Lib.hid hor
        clear hor
        by_cases hkn : k < n
        · have hc3 : wr.cell? ⟨b, 18, none⟩ = some (F 18) := hkv.1.cell (i := 18) (by omega)
          obtain ⟨G3, d3, f3, g3, _⟩ := Kind.tab_at hkv.2.2.1 hlt
          rw [show F 18 = _ from f3] at hc3
          have hVr := hkv.2.2.2.1 i hlt
          rw [HNN.out] at hVr
          obtain ⟨g, cv2, ev2, hBg, hglt⟩ := hVr.form (by omega)
          have hVr2 := hVr
          rw [ev2] at g3 hVr2
          obtain ⟨gm, cm2, em2, _, hgm⟩ := hmr.form (by omega)
          injection em2 with em3 _ em4
          subst em3
          subst em4
          have hmk := pairs_at (markPairs i 0 n) k (pairMark i (0 + k)) (by simp [markPairs, hkn])
          rw [← marks_pairs] at hmk
          have hm0 : wr.cell? ⟨gm, k * 2, none⟩ = some (.int .i64 (pairMark i (0 + k)).x) := own_cell hmr hmk.1
          have hm1 : wr.cell? ⟨gm, k * 2 + 1, none⟩ = some (.int .i64 (pairMark i (0 + k)).y) := own_cell hmr hmk.2
          have hxl : (kPairs.markAt N L i k i).length = n * 2 := hVr2.1
          obtain ⟨y0, hy0⟩ := own_some hVr2 (j := k * 2) (by omega)
          obtain ⟨y1, hy1⟩ := own_some hVr2 (j := k * 2 + 1) (by omega)
          have hf0 := own_warm hVr2 (k * 2)
          have hf1 := own_warm hVr2 (k * 2 + 1)
          have hknI : (k : Int) < (n : Int) := by omega
          have HPUT := Lib.hid ((hkv.put (o := k * 2) hlt (by rw [HNN.out]; exact ev2) (kPairs.mark i k)).congr (fun _ _ => rfl) fun j _ => kPairs.markAt_step N L i k (HLL.out i hlt) (by rw [HNN.out]; exact hkn) j)
          have hsep : g ≠ gm := by
            have h1 := own_ge hmr gm rfl
            have h2 := own_lt (by have := HV.out; rw [HEV.out] at this; exact this) (k := g)
            intro e
            have : (Value.slice Av n cv).ownBlock = some g := by
              rw [← HEV.out, ev2]; rfl
            have := h2 this
            omega
          have HMR : Hid ((wr.setCells g (k * 2) (kPairs.mark i k)).ownsRow wo.heap.size 177 2 (.slice (some ⟨gm, 0, none⟩) n cm) n (kPairs.marks i 0 n)) :=
            own_kept hmr fun q _ hq => setCells_other _ _ _ _ (fun e => hsep (by
              have : gm = q := by simpa [Value.ownBlock] using hq
              rw [this]; exact e.symm))
          have HOR2 : Hid (Only [kPairs.e] w (wr.setCells g (k * 2) (kPairs.mark i k))) := by
            obtain ⟨cur, hcur⟩ := own_block hVr2 (k := g) rfl
            exact HOR.out.trans (setCells_only hcur _ _)
          have HBR : Hid (Below B w (wr.setCells g (k * 2) (kPairs.mark i k))) := hbr.trans (setCells_below hBg _ _ _)
          have HW : Hid (wr.setCells g (k * 2) (kPairs.mark i k) = (wr.setCell ⟨g, k * 2, none⟩ (.int .i64 (pairMark i (0 + k)).x)).setCell ⟨g, k * 2 + 1, none⟩ (.int .i64 (pairMark i (0 + k)).y)) := by
            unfold Hid
            rw [Nat.zero_add]
            rfl
          generalize (pairMark i (0 + k)).x = x0 at *
          generalize (pairMark i (0 + k)).y = x1 at *
          clear hkv hmr hVr hVr2 ev2 f3 f2 hmk hxl
          go_wp2_with fail
          go_still_tail 13, (by kernel_rfl)
          go_wp2
          rw [← HW.out]
          exact ⟨⟨k + 1, by omega, by go_num, HPUT.out.below (Drew.below ⟨1, rfl⟩), HMR.out, HBR.out.drew, HOR2.out.trans (Only.drew ⟨1, rfl⟩)⟩, by simp [intOf]; omega⟩
        · obtain rfl : k = n := by omega
          have HKV : Hid (kPairs.KeptV wr B b F m V N (kPairs.markTo N L (i + 1))) := hkv.congr (fun _ _ => rfl) fun j _ => by rw [← kPairs.markAt_end N L i j (HLL.out i hlt), HNN.out]
          clear hkv hmr
          go_wp2
          exact ⟨⟨i + 1, by omega, by go_num, HKV.out, hbr, HOR.out⟩, by simp [intOf]; omega⟩
    · rw [show F 18 = _ from E2.out] at hc2
      have HKK := Lib.hid hk
      clear hk
      go_wp2
      go_end0
      refine ⟨rfl, HKK.out.congr (fun _ _ => rfl) fun j hj => ?_, hbel, HONLY.out⟩
      simp [Kind.markTo, show j < i by omega]

set_option maxRecDepth 100000 in
set_option maxHeartbeats 1000000 in
theorem growPairs_any (b B m : Nat) (F V : Nat → Value) (N : Nat → Nat) (w : World) (h : kPairs.KeptV w B b F m V N (fun j => kPairs.marks j 0 (N j))) (hm : m ≤ 250) (hN : ∀ i, i < m → N i ≤ 1000000) :
    Calls Tryz.prog 91 #[.pointer (some ⟨b, 0, none⟩)] w fun e w' => ∃ A c G, e = .returned (.slice A m c) ∧ kPairs.GInv w w' B b F m V N m (.slice A m c) G := by
  have HG0 := Lib.hid (Kind.ginv_start h (fun _ => .slice none 0 0))
  have HN := Lib.hid hN
  obtain ⟨A2, c2, e2⟩ := own_form h.2.2.1
  have E2 := Lib.hid e2
  clear h hN e2
  go_enter Tryz.func91, Tryz.ntmps91
  go_wp2_with fail
  go_loopw [3, 4] (fun ov iv wr => ∃ (i : Nat) (A : Option Addr) (c : Nat) (G : Nat → Value), i ≤ m ∧ iv = .int .i64 i ∧ ov = .slice A i c ∧ kPairs.GInv w wr B b F m V N i (.slice A i c) G) (fun _ iv _ => m - (intOf iv).toNat)
  case atStart => exact ⟨0, none, 0, _, Nat.zero_le _, rfl, rfl, HG0.out⟩
  case round =>
    obtain ⟨i, A, c, G, hi, rfl, rfl, hg⟩ := hrel
    have hc2 : wr.cell? ⟨b, 18, none⟩ = some (F 18) := hg.book.cell (i := 18) (by omega)
    have HG := Lib.hid hg
    by_cases hlt : i < m
    · obtain ⟨G2, d2, f2, g2, _⟩ := Kind.tab_at hg.tab hlt
      rw [show F 18 = _ from f2] at hc2
      have hl := Kind.linv_start hlt hg
      obtain ⟨Av, cv, ev⟩ := own_form hl.own
      rw [ev] at g2 hl
      have HLI := Lib.hid hl
      have hni := HN.out i hlt
      have hiI : (i : Int) < (m : Int) := by omega
      clear hg f2 hl ev
      obtain ⟨wo, hwo⟩ : ∃ z, z = wr := ⟨_, rfl⟩
      subst hwo
      generalize hnn : N i = n at *
      have HNN := Lib.hid hnn
      clear hnn
      go_wp2_with fail
      go_loopw [5, 6] (fun lv tv wr => ∃ (t : Nat) (Al : Option Addr) (cl : Nat), t ≤ 12 ∧ tv = .int .i64 t ∧ lv = .slice Al (n + t) cl ∧ kPairs.LInv w wr B b F m V N i (.slice A i c) G wo.heap.size (.slice Al (n + t) cl) (n + t)) (fun _ tv _ => 12 - (intOf tv).toNat)
      case atStart => exact ⟨0, Av, cv, by omega, rfl, rfl, HLI.out⟩
      case round =>
        obtain ⟨t, Al, cl, ht, rfl, rfl, hl⟩ := hrel
        have HL := Lib.hid hl
        by_cases ht12 : t < 12
        · clear hl
          have ec : ((n + t : Nat) : Int) = (n : Int) + (t : Int) := by omega
          go_wp2_with fail
          rw [show ((n : Int) + (t : Int)) = ((n + t : Nat) : Int) from by omega, show (1 : Int) = ((1 : Nat) : Int) from rfl]
          refine (markPairs_any i (n + t) 1 wr (by omega) (by omega) (by omega)).mono ?_
          rintro e w1 ⟨Am, cm, rfl, hmm, hb1⟩
          have hz1 := hb1.size
          have hbl := HL.out.inv.book.lt
          have hlow := HL.out.inv.low
          obtain ⟨v', w2, hrun, hown, hgw, hp, hst⟩ := append_strong (P := Tryz.prog) (ty := 85) (c := cm) infoPair Tryz.underlying85 rfl (by omega) B (.slice Al (n + t) cl) (n + t) _ (own_kept HL.out.own fun k hk _ => hb1.block k hk) (rd_of_own hmm) (marks_onePair _ _ _) (by unfold maxLen; omega) (by omega) (by omega)
          have HL2 := Lib.hid (Kind.linv_step hlt HL.out hb1 hown hgw hp hst)
          obtain ⟨A', c', rfl⟩ := own_form hown
          have HR := Lib.hid hrun
          clear hrun hown hgw hp hst hmm hb1
          go_wp2_with (at_builtin; refine wpList_append_run rfl _ _ _ rfl _ _ _ _ rfl rfl HR.out ?_)
          exact ⟨⟨t + 1, A', c', by omega, by go_num, rfl, HL2.out⟩, by simp [intOf]; omega⟩
        · obtain rfl : t = 12 := by omega
          clear hl
          go_wp2_with fail
          rw [show ((n : Int) + 12) = ((n + 12 : Nat) : Int) from by omega, show (60 : Int) = ((60 : Nat) : Int) from rfl]
          refine (markPairs_any i (n + 12) 60 wr (by omega) (by omega) (by omega)).mono ?_
          rintro e w1 ⟨Am, cm, rfl, hmm, hb1⟩
          have hz1 := hb1.size
          have hbl := HL.out.inv.book.lt
          have hlow := HL.out.inv.low
          obtain ⟨v', w2, hrun, hown, hgw, hp, hst⟩ := append_strong (P := Tryz.prog) (ty := 85) (c := cm) infoPair Tryz.underlying85 rfl (by omega) B (.slice Al (n + 12) cl) (n + 12) _ (own_kept HL.out.own fun k hk _ => hb1.block k hk) (rd_of_own hmm) (marks_onePair _ _ _) (by unfold maxLen; omega) (by omega) (by omega)
          have HL2 := Lib.hid (Kind.linv_step hlt HL.out hb1 hown hgw hp hst)
          obtain ⟨A', c', rfl⟩ := own_form hown
          have HR := Lib.hid hrun
          obtain ⟨v3, w3, hrun3, ht3, hsz3, hk3, hv3, ho1, ho2, ho3⟩ := Kind.push (T := 43) HL2.out.inv.out infoPairs Tryz.underlying43 (.slice A' (n + 12 + 60) c') rfl (by omega) (by have := HL2.out.inv.book.lt; omega)
          have HG3 : Hid (kPairs.GInv w w3 B b F m V N (i + 1) v3 (upd G i (.slice A' (n + 12 + 60) c'))) := Kind.linv_done hlt (by have := HL2.out; rw [HNN.out]; exact this) ht3 (by omega) hk3 hv3 ho1 ho2 ho3
          obtain ⟨A3, c3, rfl⟩ := own_form ht3
          have HR3 := Lib.hid hrun3
          clear hrun hown hgw hp hst hmm hb1 hrun3 ht3 hsz3 hk3 hv3 ho1 ho2 ho3
          go_wp2_with (at_builtin; first | refine wpList_append_run rfl _ _ _ rfl _ _ _ _ rfl rfl HR.out ?_ | refine wpList_append_run rfl _ _ _ rfl _ _ _ _ rfl rfl HR3.out ?_)
          exact ⟨⟨i + 1, A3, c3, _, by omega, by go_num, rfl, HG3.out⟩, by simp [intOf]; omega⟩
    · rw [show F 18 = _ from E2.out] at hc2
      obtain rfl : i = m := by omega
      clear hg
      go_wp2
      go_ret
      exact ⟨A, c, G, rfl, HG.out⟩

set_option maxRecDepth 100000 in
set_option maxHeartbeats 1000000 in
theorem markedPairs_any (A : Option Addr) (c B m : Nat) (G : Nat → Value) (M : Nat → Nat) (w : World) (ht : kPairs.Tab w B (.slice A m c) m G) (hr : ∀ j, j < m → w.ownsRow B kPairs.e kPairs.size (G j) (M j) (kPairs.marks j 0 (M j))) (hm : m ≤ 250) (hM : ∀ i, i < m → M i ≤ 1000000) :
    Calls Tryz.prog 101 #[.slice A m c] w fun e w' => e = .returned (.bool true) ∧ Below w.heap.size w w' := by
  have HT := Lib.hid ht
  have HR := Lib.hid hr
  have HM := Lib.hid hM
  clear ht hr hM
  go_enter Tryz.func101, Tryz.ntmps101
  go_wp2_with fail
  go_loopw [3] (fun iv wr => ∃ i : Nat, i ≤ m ∧ iv = .int .i64 i ∧ Below w.heap.size w wr) (fun iv _ => m - (intOf iv).toNat)
  case atStart => exact ⟨0, Nat.zero_le _, rfl, Below.refl _ _⟩
  case round =>
    obtain ⟨i, hi, rfl, hb⟩ := hrel
    by_cases hlt : i < m
    · obtain ⟨g, cap, f1, g1, hg, _⟩ := Kind.tab_at HT.out hlt
      injection f1 with f1 _ f2
      subst f1
      subst f2
      have hc1 := (hb.cell (p := ⟨g, i, none⟩) hg).trans g1
      have hV := own_kept (HR.out i hlt) fun k hk _ => hb.block k hk
      have hn := HM.out i hlt
      obtain ⟨Av, cv, ev⟩ := own_form hV
      rw [ev] at hc1 hV
      have HV := Lib.hid hV
      have hiI : (i : Int) < (m : Int) := by omega
      have hgz : g < wr.heap.size := Nat.lt_of_lt_of_le hg hb.size
      generalize hnn : M i = n at *
      clear g1 hV ev
      go_wp2_with fail
      go_region_law (first
        | (go_simp; go_at_call 156; refine (markPairs_any i 0 n _ (by omega) (by omega) (by omega)).mono ?_; rintro e w1 ⟨A5, c5, rfl, hmk, hb1⟩; have hc2 := (hb1.cell (p := ⟨g, i, none⟩) hgz).trans hc1)
        | (go_simp; go_at_call 39; refine (samePairs_any (markPairs i 0 n) (markPairs i 0 n) Av A5 n n cv c5 _ _ _ (by rw [← marks_pairs]; exact rd_of_own (own_kept HV.out fun k hk _ => hb1.block k hk)) (by rw [← marks_pairs]; exact rd_of_own hmk) (by omega) (by omega)).mono ?_; rintro e w2 ⟨rfl, q, rfl⟩; rw [markPairs_same]))
      all_goals
        go_wp2
        exact ⟨⟨i + 1, by omega, by go_num, (hb.trans ((Drew.below ⟨1, rfl⟩).trans ((hb1.mono (Nat.le_refl _)).trans (Drew.below ⟨q, rfl⟩)) |>.mono hb.size))⟩, by simp [intOf]; omega⟩
    · go_wp2
      go_ret
      exact ⟨rfl, hb⟩
end Go.Proofs.YtjlokkjbdgcooaaGreat
