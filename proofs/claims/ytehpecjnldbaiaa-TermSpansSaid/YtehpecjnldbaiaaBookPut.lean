/-
  The statements' book: putInts: each list that is kept has its marks.
-/
import Derived.Test.YtehpecjnldbaiaaBookStill
import Derived.StillTailTactics
namespace Go.Proofs.Ytehpecjnldbaiaa
open Go.RowKit

/-- The lists that are kept, without their copies. -/
def KeptV (w : World) (B b : Nat) (F : Nat → Value) (m : Nat) (V : Nat → Value) (L : Nat → List Int) : Prop := BookAt w b F ∧ B ≤ b ∧ Table w B (F 2) m V ∧ Lists w B m V L
theorem KeptInts.lists {w : World} {B b m : Nat} {F V U : Nat → Value} {L : Nat → List Int} (h : KeptInts w B b F m V U L) : KeptV w B b F m V L := ⟨h.1, h.2.1, h.2.2.1, h.2.2.2.2.2.1⟩
theorem KeptV.below {w w' : World} {B b m : Nat} {F V : Nat → Value} {L : Nat → List Int} (h : KeptV w B b F m V L) (hb : Below w.heap.size w w') : KeptV w' B b F m V L := by
  obtain ⟨h1, h2, h3, h4⟩ := h
  exact ⟨h1.kept (hb.block b h1.lt), h2, own_kept h3 fun k hk _ => hb.block k hk, h4.kept fun _ k _ hk _ => hb.block k hk⟩
theorem KeptV.congr {w : World} {B b m : Nat} {F V : Nat → Value} {L L' : Nat → List Int} (h : KeptV w B b F m V L) (e : ∀ i, i < m → L i = L' i) : KeptV w B b F m V L' :=
  ⟨h.1, h.2.1, h.2.2.1, ⟨fun i hi => by rw [← e i hi]; exact h.2.2.2.1 i hi, h.2.2.2.2⟩⟩

theorem own_set {w : World} {B g n c k : Nat} {e : TypeId} {l : List Int} (h : w.ownsRow B e 1 (.slice (some ⟨g, 0, none⟩) n c) n (ints .i64 l)) (x : Int) :
    (w.setCell ⟨g, k, none⟩ (.int .i64 x)).ownsRow B e 1 (.slice (some ⟨g, 0, none⟩) n c) n (ints .i64 (l.set k x)) := by
  have h0 := h.1
  rcases h.2 with ⟨h1, _⟩ | ⟨g', cap', cur, h1, hB, hh, h2, h3, h4, h5⟩
  · cases h1
  · injection h1 with h1 _ hc
    injection h1 with h1
    injection h1 with h1
    subst h1 hc
    refine ⟨by simpa [ints] using h0, .inr ⟨g, c, _, rfl, hB, set_here hh, h2, h3, by simpa using h4, ?_⟩⟩
    rw [Array.toList_setIfInBounds, List.take_set, h5]
    simp [ints, List.map_set]
theorem list_set {l : List Int} {m : List Int} {k : Nat} (hk : k < l.length) (hm : m.length = k) (x : Int) : (m ++ l.drop k).set k x = (m ++ [x]) ++ l.drop (k + 1) := by
  rw [List.set_append_right _ _ (by omega), hm, Nat.sub_self, List.drop_eq_getElem_cons hk, List.set_cons_zero, List.append_assoc]
  rfl

theorem KeptV.put {w : World} {B b m i g n c k : Nat} {F V : Nat → Value} {L : Nat → List Int} (h : KeptV w B b F m V L) (hi : i < m) (hv : V i = .slice (some ⟨g, 0, none⟩) n c) (hn : (L i).length = n) (x : Int) :
    KeptV (w.setCell ⟨g, k, none⟩ (.int .i64 x)) B b F m V (fun j => if j = i then (L i).set k x else L j) := by
  obtain ⟨h1, h2, h3, h4⟩ := h
  have hr := h4.1 i hi
  rw [hv, hn] at hr
  have hgb : g ≠ b := fun e => own_ne hr h1 (by decide) (by rw [← e]; rfl)
  refine ⟨h1.kept (Below.heap_setCell _ _ _ _ hgb.symm), h2, own_kept h3 fun q _ hq => Below.heap_setCell _ _ _ _ (fun e => own_own_ne h3 hr (by decide) q hq (by rw [e]; rfl)), ⟨fun j hj => ?_, h4.2⟩⟩
  by_cases e : j = i
  · subst e
    simp only [if_true, List.length_set]
    rw [hv, hn]
    exact own_set hr x
  · simp only [e, if_false]
    refine own_kept (h4.1 j hj) fun q _ hq => Below.heap_setCell _ _ _ _ (fun e2 => ?_)
    have := h4.2 i j hi hj (fun h => e h.symm) (by rw [hv]; simp [Value.ownBlock])
    rw [hv, hq] at this
    exact this (by rw [e2]; rfl)

/-- The lists, the first i of them marked. -/
def markTo (L : Nat → List Int) (i : Nat) (j : Nat) : List Int := if j < i then markL j 0 (L j).length else L j
/-- List i, its first k elements marked. -/
def markAt (L : Nat → List Int) (i k : Nat) (j : Nat) : List Int := if j = i then markL i 0 k ++ (L i).drop k else markTo L i j

theorem markAt_zero (L : Nat → List Int) (i j : Nat) : markTo L i j = markAt L i 0 j := by
  unfold markAt markTo
  by_cases e : j = i
  · subst e; simp [markL]
  · simp [e]
theorem markAt_end (L : Nat → List Int) (i j : Nat) : markAt L i (L i).length j = markTo L (i + 1) j := by
  unfold markAt markTo
  by_cases e : j = i
  · subst e; simp
  · simp only [e, if_false]
    by_cases h : j < i
    · rw [if_pos h, if_pos (by omega)]
    · rw [if_neg h, if_neg (by omega)]
theorem markAt_len (L : Nat → List Int) (i k : Nat) (h : k ≤ (L i).length) : (markAt L i k i).length = (L i).length := by
  simp [markAt, markL_len]; omega
theorem markAt_step (L : Nat → List Int) (i k : Nat) (h : k < (L i).length) (j : Nat) : (if j = i then (markAt L i k i).set k (-1000000 * (i : Int) - (k : Int) - 7) else markAt L i k j) = markAt L i (k + 1) j := by
  by_cases e : j = i
  · subst e
    simp only [if_true]
    unfold markAt
    simp only [if_true]
    rw [list_set h (markL_len _ _ _), markL_succ, Nat.zero_add]
  · simp [markAt, e]

set_option maxRecDepth 100000 in
set_option maxHeartbeats 1000000 in
theorem putInts_any (b B m : Nat) (F V : Nat → Value) (L : Nat → List Int) (w : World) (h : KeptV w B b F m V L) (hm : m ≤ 250) (hL : ∀ i, i < m → (L i).length ≤ 1000000) :
    Calls Try.prog 42 #[.pointer (some ⟨b, 0, none⟩)] w fun e w' => e = .returned (.tuple #[]) ∧ KeptV w' B b F m V (fun j => markL j 0 (L j).length) ∧ Below B w w' := by
  have HK := Lib.hid h
  obtain ⟨A2, c2, e2⟩ := own_form h.2.2.1
  have hBs : B ≤ w.heap.size := by have := h.1.lt; have := h.2.1; omega
  have E2 := Lib.hid e2; have HL := Lib.hid hL
  clear h e2 hL
  go_enter Try.func42, Try.ntmps42
  go_wp2_with fail
  go_loopw [2] (fun iv wr => ∃ i : Nat, i ≤ m ∧ iv = .int .i64 i ∧ KeptV wr B b F m V (markTo L i) ∧ Below B w wr) (fun iv _ => m - (intOf iv).toNat)
  case atStart => exact ⟨0, Nat.zero_le _, rfl, HK.out.congr fun i _ => by simp [markTo], Below.refl _ _⟩
  case round =>
    obtain ⟨i, hi, rfl, hk, hbel⟩ := hrel
    have hc2 := hk.1.cell (i := 2) (by omega)
    by_cases hlt : i < m
    · obtain ⟨G2, d2, f2, g2, hG2, _⟩ := table_at hk.2.2.1 hlt
      rw [f2] at hc2
      have hll := HL.out i hlt
      have hV := hk.2.2.2.1 i hlt
      have hnl : (markTo L i i).length = (L i).length := by simp [markTo]
      rw [hnl] at hV
      obtain ⟨Av, cv, ev⟩ := own_form hV
      rw [ev] at g2
      have hiI : (i : Int) < (m : Int) := by omega
      have HKK := Lib.hid hk
      have HEV := Lib.hid ev
      have HV := Lib.hid hV
      have hblr := hk.1.lt
      obtain ⟨wo, hwo⟩ : ∃ z, z = wr := ⟨_, rfl⟩
      subst hwo
      clear hk hV ev hnl
      go_wp2_with fail
      refine (markInts_any i 0 (L i).length _ (by omega) (by omega) (by omega)).mono ?_
      rintro e w1 ⟨Am, cm, rfl, hmm, hb1⟩
      have hz1 := hb1.size
      have HK1 : Hid (KeptV w1 B b F m V (markAt L i 0)) := (HKK.out.below hb1).congr fun j _ => markAt_zero L i j
      have HB1 : Hid (Below B w w1) := hbel.trans (hb1.mono (by have := hbel.size; omega))
      have HMM := Lib.hid hmm
      clear hmm hb1
      generalize hnn : (L i).length = n at *
      have HN := Lib.hid hnn
      clear hnn
      go_wp2_with fail
      go_loopw [4] (fun kv wr => ∃ k : Nat, k ≤ n ∧ kv = .int .i64 k ∧ KeptV wr B b F m V (markAt L i k) ∧ wr.ownsRow wo.heap.size 3 1 (.slice Am n cm) n (ints .i64 (markL i 0 n)) ∧ Below B w wr) (fun kv _ => n - (intOf kv).toNat)
      case atStart => exact ⟨0, Nat.zero_le _, rfl, HK1.out, HMM.out, HB1.out⟩
      case round =>
        obtain ⟨k, hk, rfl, hkv, hmr, hbr⟩ := hrel
        by_cases hkn : k < n
        · have hc3 := hkv.1.cell (i := 2) (by omega)
          obtain ⟨G3, d3, f3, g3, _⟩ := table_at hkv.2.2.1 hlt
          rw [f3] at hc3
          have hVr := hkv.2.2.2.1 i hlt
          rw [markAt_len L i k (by rw [HN.out]; omega), HN.out] at hVr
          obtain ⟨g, cv2, ev2, hBg, hglt⟩ := hVr.form (by omega)
          have hVr2 := hVr
          rw [ev2] at g3 hVr2
          obtain ⟨gm, cm2, em2, _, hgm⟩ := hmr.form (by omega)
          have hmr2 := hmr
          injection em2 with em3 _ em4
          subst em3
          subst em4
          have hmc := hmr.cells (g := gm) rfl k (.int .i64 (-1000000 * (i : Int) - (k : Int) - 7)) (by simp [ints, markL, hkn])
          rw [Addr.add_lit, Nat.zero_add] at hmc
          obtain ⟨y, hyc⟩ : ∃ y, wr.cell? ⟨g, k, none⟩ = some (.int .i64 y) := by
            have hlen : k < (markAt L i k i).length := by rw [markAt_len L i k (by rw [HN.out]; omega), HN.out]; exact hkn
            have := hVr2.cells (g := g) rfl k (.int .i64 ((markAt L i k i)[k])) (by simp [ints, hlen])
            rw [Addr.add_lit, Nat.zero_add] at this
            exact ⟨_, this⟩
          have hyf : wr.frozen? ⟨g, k, none⟩ = false := by
            rcases hVr2.2 with ⟨h1, _⟩ | ⟨g', cap', cur, h1, _, hh, _⟩
            · cases h1
            · injection h1 with h1
              injection h1 with h1
              injection h1 with h1
              subst h1
              exact warm_of hh k
          have hknI : (k : Int) < (n : Int) := by omega
          have HPUT := Lib.hid ((hkv.put (k := k) hlt ev2 (by rw [markAt_len L i k (by rw [HN.out]; omega), HN.out]) (-1000000 * (i : Int) - (k : Int) - 7)).congr fun j _ => markAt_step L i k (by rw [HN.out]; exact hkn) j)
          have hsep : g ≠ gm := by
            have h1 := own_ge hmr gm rfl
            have h2 := own_lt (by have := HV.out; rw [HEV.out] at this; exact this) (k := g)
            intro e
            have : (Value.slice Av n cv).ownBlock = some g := by
              rw [← HEV.out, ev2]; rfl
            have := h2 this
            omega
          have HMR : Hid ((wr.setCell ⟨g, k, none⟩ (.int .i64 (-1000000 * (i : Int) - (k : Int) - 7))).ownsRow wo.heap.size 3 1 (.slice (some ⟨gm, 0, none⟩) n cm) n (ints .i64 (markL i 0 n))) :=
            own_kept hmr fun q _ hq => Below.heap_setCell _ _ _ _ (fun e => hsep (by
              have : gm = q := by simpa [Value.ownBlock] using hq
              rw [this]; exact e.symm))
          generalize -1000000 * (i : Int) - (k : Int) - 7 = x at *
          clear hkv hmr hVr hVr2 hmr2 ev2 f3 f2
          go_wp2_with fail
          go_still_tail 13, (by kernel_rfl)
          go_wp2
          exact ⟨⟨k + 1, by omega, by go_num, HPUT.out.below (Drew.below ⟨1, rfl⟩), HMR.out, ((hbr.setCell (p := ⟨g, k, none⟩) hBg _).drew)⟩, by simp [intOf]; omega⟩
        · obtain rfl : k = n := by omega
          have HKV : Hid (KeptV wr B b F m V (markTo L (i + 1))) := hkv.congr fun j _ => by rw [← markAt_end, HN.out]
          clear hkv hmr
          go_wp2
          exact ⟨⟨i + 1, by omega, by go_num, HKV.out, hbr⟩, by simp [intOf]; omega⟩
    · rw [E2.out] at hc2
      have HKK := Lib.hid hk
      clear hk
      go_wp2
      go_end0
      refine ⟨rfl, HKK.out.congr fun j hj => ?_, hbel⟩
      simp [markTo, show j < i by omega]
end Go.Proofs.Ytehpecjnldbaiaa
