/-
  Several texts, one behind the other: what each holds stands ahead of it.
-/
import Derived.Test.YtmgncoialppmpaaGreatSumsMap
import Derived.Test.YtmgncoialppmpaaGreatMany6
import Derived.Test.YtmgncoialppmpaaGreatMany16

/-
  Contract of rules' addLines.
-/
namespace Go.Proofs.YtmgncoialppmpaaGreat
open Go.RowKit
open Go.ChangeMaps (setBlock)

/-- Beside a map that is written all cells stay. -/
theorem sums_cell {w w' : World} {b n n' : Nat} {D D' : DataW Unit} {f g : Int → Int → Int} (h : SumsAt w b n D f) (h' : SumsAt w' b n' D' g) (hb : But (fun k => k = b) w w') : ∀ p : Addr, p.block < w.heap.size → w'.cell? p = w.cell? p := by
  intro p hp
  by_cases e : p.block = b
  · obtain ⟨es, clock, h1⟩ := h.mapBlk
    obtain ⟨es', clock', h2⟩ := h'.mapBlk
    rw [← e] at h1 h2
    simp [World.cell?, h1, h2]
  · simp [World.cell?, hb.block p.block hp e]
theorem but_drew {S : Nat → Prop} (w : World) : But S w w.drew := ⟨rfl, rfl, rfl, Nat.le_refl _, fun _ _ _ => rfl⟩

set_option maxRecDepth 100000 in
set_option maxHeartbeats 2000000 in
theorem addLines_any (j : Jrn) (A : Option Addr) (n c B b nm : Nat) (D : DataW Unit) (f : Int → Int → Int) (w : World) (h : SumsAt w b nm D f) (hR : Rd w B 3 A n (lins j.lines)) (hB : B ≤ w.heap.size) (hj : checkE j = 0) (hf : ∀ a, -4000000000000000000 ≤ f a j.ent ∧ f a j.ent ≤ 4000000000000000000) (hnm : nm ≤ 10000) :
    Calls Tryz.prog 169 #[.map (some b), j.val A n c] w fun e w' => e = .returned (.tuple #[]) ∧ (∃ nm' D', nm' ≤ nm + 8 ∧ SumsAt w' b nm' D' (fun a e => f a e + if j.ent = e then lineS a j.lines else 0)) ∧ But (fun k => k = b) w w' := by
  obtain ⟨hfit, hn8, hent, hacc⟩ := checkE_fits hj
  have HL := Lib.hid hR.lins_len
  have hn : n ≤ 8 := by rw [hR.lins_len] at hn8; exact hn8
  obtain ⟨id, ent, per, ref, L, void⟩ := j
  unfold Jrn.val
  dsimp only at *
  obtain ⟨W1, hW1⟩ : ∃ W1, w.alloc (.cells #[.int .i64 id, .int .i64 ent, .int .i64 per, .string ref, .slice A n c, .bool void] 29) = W1 := ⟨_, rfl⟩
  have hb1 : Below w.heap.size w W1 := by rw [← hW1]; exact (Below.refl _ _).alloc (Nat.le_refl _) _
  have HE1 : Hid (W1.cell? ⟨w.heap.size, 1, none⟩ = some (.int .i64 ent)) := by rw [← hW1]; exact box_cell 1
  have hE4 : W1.cell? ⟨w.heap.size, 4, none⟩ = some (.slice A n c) := by rw [← hW1]; exact box_cell 4
  have hz1 : W1.heap.size = w.heap.size + 1 := by rw [← hW1]; simp
  have HS1 := Lib.hid (h.below hb1)
  have HR1 := Lib.hid (hR.far hb1 hB)
  have HB1 := Lib.hid hb1
  have HBF := Lib.hid hf
  have HFIT := Lib.hid hfit
  have HACC := Lib.hid hacc
  have HW1 := Lib.hid hW1
  have hblt := h.lt
  clear hW1 hb1 h hR hf hfit hacc hn8 hj
  go_enter Tryz.func169, Tryz.ntmps169
  go_wp2_with fail
  rw [HW1.out]
  go_wp2_with fail
  clear hE4
  go_loopw [9, 5] (fun iv _ wr => ∃ k : Nat, k ≤ n ∧ iv = .int .i64 k ∧ (∃ D', SumsAt wr b (nm + k) D' (fun a e => f a e + if ent = e then lineS a (L.take k) else 0)) ∧ But (fun q => q = b) W1 wr) (fun iv _ _ => n - (intOf iv).toNat)
  case atStart => exact ⟨0, Nat.zero_le _, rfl, ⟨D, HS1.out.congr fun a e _ _ => by simp [lineS]⟩, But.refl _ _⟩
  case round =>
    obtain ⟨k, hk, rfl, ⟨D', hS⟩, hbut⟩ := hrel
    have hzr := hbut.size
    by_cases hlt : k < n
    · have hkn : (k : Int) < (n : Int) := by omega
      obtain ⟨ad, x, rfl, hbk, hx, p1, p2, p3⟩ := (HR1.out.same fun p hp => sums_cell HS1.out hS hbut p (by omega)).lin hlt
      have p2' := cell_behind p2 (by omega)
      have p3' := cell_behind p3 (by omega)
      have hL := HL.out
      have hbd := HBF.out x.acct
      have hls := lineS_bound (a := x.acct) (fitsL_take HFIT.out k)
      have hlk : (L.take k).length ≤ 8 := by simp; omega
      have hx2 := fits1_iff.1 (List.all_eq_true.1 HFIT.out x (List.mem_of_getElem? hx))
      have hxa := HACC.out x (List.mem_of_getElem? hx)
      have HST := Lib.hid (fun a => lineS_step (a := a) hx)
      have HSr := Lib.hid hS
      have HBU := Lib.hid hbut
      have hent1 : wr.cell? ⟨w.heap.size, 1, none⟩ = some (.int .i64 ent) := (sums_cell HS1.out hS hbut ⟨w.heap.size, 1, none⟩ (by simp; omega)).trans HE1.out
      obtain ⟨F, hF⟩ : ∃ F, f x.acct ent + lineS x.acct (L.take k) = F := ⟨_, rfl⟩
      have hF1 : -4100000000000000000 ≤ F ∧ F ≤ 4100000000000000000 := by omega
      have HF := Lib.hid hF
      clear hx p2 p3 hbd hls hlk hF hS hbut hL
      obtain ⟨x1, x2, x3⟩ := x
      dsimp only at *
      go_wp2_with fail
      obtain ⟨W2, hW2⟩ : ∃ W2, wr.alloc (.cells #[.int .i64 x1, .int .i64 x2, .int .i64 x3] 64) = W2 := ⟨_, rfl⟩
      rw [hW2]
      have hbW : Below wr.heap.size wr W2 := by rw [← hW2]; exact (Below.refl _ _).alloc (Nat.le_refl _) _
      have hS2 : SumsAt W2.drew b (nm + k) D' _ := (HSr.out.below hbW).kept rfl
      obtain ⟨st, o1, hE, hL1, hSt⟩ := hS2.entry (by unfold maxLen; omega) (a := x1) (e := ent) ⟨by omega, by omega⟩ ⟨by omega, by omega⟩
      have hL0 := (hS2.look (a := x1) (e := ent) ⟨by omega, by omega⟩ ⟨by omega, by omega⟩).1
      simp only [if_true] at hE hL1 hL0
      rw [HF.out] at hE hL1 hL0
      obtain ⟨W3, hW3⟩ : ∃ W3, setBlock W2.drew b o1 = W3 := ⟨_, rfl⟩
      rw [hW3] at hE hL1 hSt
      have hbt3 : But (fun q => q = b) W2.drew W3 := by rw [← hW3]; exact setBlock_but _ _
      have hbn1 : wr.heap.size ≠ b := by have := HSr.out.lt; omega
      have hbn2 : w.heap.size ≠ b := by omega
      have hzW : W2.heap.size = wr.heap.size + 1 := by rw [← hW2]; simp
      have c0 : W2.cell? ⟨wr.heap.size, 0, none⟩ = some (.int .i64 x1) := by rw [← hW2]; exact box_cell 0
      have c1 : W2.cell? ⟨wr.heap.size, 1, none⟩ = some (.int .i64 x2) := by rw [← hW2]; exact box_cell 1
      have c2 : W2.cell? ⟨w.heap.size, 1, none⟩ = some (.int .i64 ent) := (hbW.cell (by simp; omega)).trans hent1
      have hcl : ∀ g i u, g ≠ b → W2.cell? ⟨g, i, none⟩ = some u → W3.cell? ⟨g, i, none⟩ = some u := fun g i u hg hu => by
        have hlt : g < W2.heap.size := block_of_cell hu
        rw [← hu]
        simp [World.cell?, hbt3.block g hlt hg]
        rfl
      have d0 := hcl _ _ _ hbn1 c0
      have d1 := hcl _ _ _ hbn1 c1
      have d2 := hcl _ _ _ hbn2 c2
      obtain ⟨o2, hS4, hSum⟩ := hSt W3 (F + x2) ⟨by omega, by omega⟩ rfl
      unfold plVal at hE hL0 hL1
      have HSUM := Lib.hid hSum
      have HBT3 := Lib.hid hbt3; have HBW := Lib.hid hbW
      obtain ⟨W4, hW4⟩ : ∃ W4, setBlock W3 b o2 = W4 := ⟨_, rfl⟩
      rw [hW4] at hS4
      have HW4 := Lib.hid hW4
      clear hcl hSt hSum hS2 hbt3 hbW hW2 hW3 hW4 p1 p2' p3' hbk
      go_region
      have HBU2 : Hid (But (fun q => q = b) W1 W4) := HBU.out.trans ((But.of_below HBW.out).trans ((but_drew W2).trans (HBT3.out.trans (by rw [← HW4.out]; exact setBlock_but _ _))))
      have HS5 : Hid (SumsAt W4 b (nm + (k + 1)) (D'.put (plKey x1 ent) (.lit (.int .i64 (F + x2)))) (fun a e => f a e + if ent = e then lineS a (L.take (k + 1)) else 0)) := by
        have := HSUM.out
        rw [HW4.out] at this
        refine (this.congr fun a e _ _ => ?_)
        show (if a = x1 ∧ e = ent then F + x2 else f a e + if ent = e then lineS a (L.take k) else 0) = f a e + if ent = e then lineS a (L.take (k + 1)) else 0
        rw [HST.out a]
        by_cases h1 : a = x1
        · by_cases h2 : e = ent
          · subst h1 h2
            have := HF.out
            simp
            omega
          · rw [if_neg (fun h => h2 h.2), if_neg (fun h => h2 h.symm), if_neg (fun h => h2 h.symm)]
        · rw [if_neg (fun h => h1 h.1), if_neg (fun h : x1 = a => h1 h.symm), Int.add_zero]
      clear c0 c1 c2 d0 d1 d2 hE hL0 hL1 hS4
      go_wp2_with fail
      exact ⟨⟨k + 1, by omega, by go_num, ⟨_, HS5.out⟩, HBU2.out⟩, by simp [intOf]; omega⟩
    · obtain rfl : k = n := by omega
      have he : L.take k = L := List.take_of_length_le (by have := HL.out; omega)
      rw [he] at hS
      have HSr := Lib.hid hS
      have HBU := Lib.hid hbut
      clear hS hbut he
      go_wp2_with fail
      go_end0
      exact ⟨rfl, ⟨_, _, by omega, HSr.out⟩, (But.of_below HB1.out).more HBU.out fun _ _ h => h⟩
end Go.Proofs.YtmgncoialppmpaaGreat

/-
  Contracts of rules' sumsOf, (Rules).Sum.
-/
namespace Go.Proofs.YtmgncoialppmpaaGreat
open Go.RowKit

theorem JlRd.same {w w' : World} {B n : Nat} {A : Option Addr} {l : List JR} (h : JlRd w B A n l) (hk : ∀ p : Addr, p.block < B → w'.cell? p = w.cell? p) : JlRd w' B A n l :=
  ⟨h.rd.same hk, fun a ha => (h.lines a ha).same hk, h.nil, h.size⟩

set_option maxRecDepth 100000 in
set_option maxHeartbeats 2000000 in
theorem sumsOf_any (B c : Nat) (v : Value) (l : List JR) (w : World) (h : TomeAt w B c v l) :
    Calls Tryz.prog 88 #[.pointer (some ⟨c, 0, none⟩)] w fun e w' => ∃ mb nm D, e = .returned (.map (some mb)) ∧ w.heap.size ≤ mb ∧ nm ≤ 10000 ∧ SumsAt w' mb nm D (fun a e => sumM a e (l.map JR.j)) ∧ Below w.heap.size w w' := by
  have hmm := @run_makeMap Tryz.prog
  obtain ⟨W1, hW1⟩ : ∃ W1, w.alloc (.map #[] 0) = W1 := ⟨_, rfl⟩
  have hb1 : Below w.heap.size w W1 := by rw [← hW1]; exact (Below.refl _ _).alloc (Nat.le_refl _) _
  have hz1 : W1.heap.size = w.heap.size + 1 := by rw [← hW1]; simp
  have hS1 : SumsAt W1 w.heap.size 0 (.map []) (fun _ _ => 0) := by rw [← hW1]; exact sums_made w
  have ka := Lib.hid (all_any B c v l W1 (h.below hb1))
  have hlen := h.len
  have hok := h.ok
  have HB1 := Lib.hid hb1; have HS1 := Lib.hid hS1; have HW1 := Lib.hid hW1
  clear h hb1 hS1 hW1
  go_enter Tryz.func88, Tryz.ntmps88
  go_wp2_with fail
  rw [HW1.out]
  refine ka.out.mono ?_
  rintro e w2 ⟨A, cp, l', rfl, hl', hown, hb2⟩
  have hz2 := hb2.size
  have hln : l'.length = l.length := by have := congrArg List.length hl'; simpa using this
  have HOK : Hid (∀ a ∈ l', checkE a.j = 0) := fun a ha => by
    have hm : a.j ∈ l.map JR.j := hl' ▸ List.mem_map.2 ⟨a, ha, rfl⟩
    obtain ⟨b, hb, e⟩ := List.mem_map.1 hm
    rw [← e]
    exact hok b hb
  have hJ : JlRd w2 w2.heap.size A l.length l' := hln ▸ hown.rd fun a ha => by
    have := checkE_len (HOK.out a ha)
    unfold maxLen
    omega
  have HS2 := Lib.hid (HS1.out.below hb2)
  have HJ := Lib.hid hJ
  have HB2 : Hid (Below w.heap.size w w2) := HB1.out.trans (hb2.mono HB1.out.size)
  have HL' := Lib.hid hl'
  clear hown hb2 hJ hok hl' ka
  generalize l.length = n at *
  go_wp2_with fail
  go_loopw [10, 5] (fun iv _ wr => ∃ k : Nat, k ≤ n ∧ iv = .int .i64 k ∧ (∃ nm D, nm ≤ 8 * k ∧ SumsAt wr w.heap.size nm D (fun a e => sumM a e ((l'.map JR.j).take k))) ∧ But (fun q => q = w.heap.size) w2 wr) (fun iv _ _ => n - (intOf iv).toNat)
  case atStart => exact ⟨0, Nat.zero_le _, rfl, ⟨0, _, Nat.le_refl _, HS2.out.congr fun a e _ _ => by simp [sumM]⟩, But.refl _ _⟩
  case round =>
    obtain ⟨k, hk, rfl, ⟨nm, D, hnm, hS⟩, hbut⟩ := hrel
    have hzr := hbut.size
    by_cases hlt : k < n
    · have hkn : (k : Int) < (n : Int) := by omega
      have hJ := HJ.out.same fun p hp => sums_cell HS2.out hS hbut p hp
      obtain ⟨ad, b, rfl, hb1, hx, p1, p2, p3, p4, p5, p6⟩ := hJ.rd.jr hlt
      have hmem := List.mem_of_getElem? hx
      have hgx : (l'.map JR.j)[k]? = some b.j := by rw [List.getElem?_map, hx]; rfl
      have hbj := HOK.out b hmem
      have HST := Lib.hid (fun a e => sumM_step (a := a) (e := e) hgx)
      have HSr := Lib.hid hS
      have HBU := Lib.hid hbut
      have hblt : ad.block < wr.heap.size := by omega
      have KL : Hid (∀ o, Calls Tryz.prog 169 #[.map (some w.heap.size), .agg #[.int .i64 b.j.id, .int .i64 b.j.ent, .int .i64 b.j.per, .string b.j.ref, .slice b.A b.j.lines.length b.c, .bool b.j.void]] (wr.alloc o) fun e w' => e = .returned (.tuple #[]) ∧ (∃ nm' D', nm' ≤ nm + 8 ∧ SumsAt w' w.heap.size nm' D' (fun a e => sumM a e ((l'.map JR.j).take k) + if b.j.ent = e then lineS a b.j.lines else 0)) ∧ But (fun k => k = w.heap.size) (wr.alloc o) w') := fun o =>
        addLines_any b.j b.A _ b.c w2.heap.size w.heap.size nm D _ _ (hS.below ((Below.refl _ _).alloc (Nat.le_refl _) o)) ((hJ.lines b hmem).far ((Below.refl _ _).alloc (Nat.le_refl _) o) (by omega)) (by simp; omega) hbj (fun a => by
          have := sumM_bound (a := a) (e := b.j.ent) (M := (l'.map JR.j).take k) (fun x hx => by
            obtain ⟨y, hy, rfl⟩ := List.mem_map.1 (List.mem_of_mem_take hx)
            exact HOK.out y hy)
          have h2 : ((l'.map JR.j).take k).length ≤ 200 := by simp; omega
          omega) (by omega)
      have HBA : Hid (∀ o, But (fun q => q = w.heap.size) wr (wr.alloc o)) := fun o => But.of_below ((Below.refl _ _).alloc (Nat.le_refl _) o)
      have HSA : Hid (∀ o, SumsAt (wr.alloc o) w.heap.size nm D (fun a e => sumM a e ((l'.map JR.j).take k))) := fun o => hS.below ((Below.refl _ _).alloc (Nat.le_refl _) o)
      clear hx hgx hmem hJ hbj hS hbut
      cases hv : b.j.void
      · rw [hv] at p6 KL
        go_wp2_with fail
        refine (KL.out _).mono ?_
        rintro e w3 ⟨rfl, ⟨nm', D', hnm', hS'⟩, hbt⟩
        have HS3 := Lib.hid hS'
        have HBT := Lib.hid hbt
        clear hS' hbt p1 p2 p3 p4 p5 p6
        go_wp2_with fail
        refine ⟨⟨k + 1, by omega, by go_num, ⟨nm', D', by omega, HS3.out.congr fun a e _ _ => ?_⟩, HBU.out.trans ((HBA.out _).trans HBT.out)⟩, by simp [intOf]; omega⟩
        rw [HST.out]
        simp [sumJ, hv]
      · rw [hv] at p6
        go_wp2_with fail
        refine ⟨⟨k + 1, by omega, by go_num, ⟨nm, D, by omega, (HSA.out _).congr fun a e _ _ => ?_⟩, HBU.out.trans (HBA.out _)⟩, by simp [intOf]; omega⟩
        rw [HST.out]
        simp [sumJ, hv]
    · obtain rfl : k = n := by omega
      have he : (l'.map JR.j).take k = l.map JR.j := by rw [List.take_of_length_le (by rw [List.length_map]; omega)]; exact HL'.out
      rw [he] at hS
      have HSr := Lib.hid hS
      have HBU := Lib.hid hbut
      clear hS hbut he
      go_wp2_with fail
      go_ret
      exact ⟨_, nm, D, rfl, Nat.le_refl _, by omega, HSr.out, HB2.out.trans (HBU.out.below (fun q _ hq => by rw [hq]; exact Nat.le_refl _) HB2.out.size)⟩

set_option maxRecDepth 100000 in
set_option maxHeartbeats 400000 in
theorem sumsOf_nil (w : World) :
    Calls Tryz.prog 88 #[.pointer none] w fun e w' => e = .returned (.map (some w.heap.size)) ∧ SumsAt w' w.heap.size 0 (.map []) (fun _ _ => 0) ∧ Below w.heap.size w w' := by
  have hmm := @run_makeMap Tryz.prog
  obtain ⟨W1, hW1⟩ : ∃ W1, w.alloc (.map #[] 0) = W1 := ⟨_, rfl⟩
  have hb1 : Below w.heap.size w W1 := by rw [← hW1]; exact (Below.refl _ _).alloc (Nat.le_refl _) _
  have hS1 : SumsAt W1 w.heap.size 0 (.map []) (fun _ _ => 0) := by rw [← hW1]; exact sums_made w
  have HB1 := Lib.hid hb1; have HS1 := Lib.hid hS1; have HW1 := Lib.hid hW1
  clear hb1 hS1 hW1
  go_enter Tryz.func88, Tryz.ntmps88
  go_wp2_with fail
  rw [HW1.out]
  refine (all_nil W1).mono ?_
  rintro e w2 ⟨rfl, rfl⟩
  go_wp2_with fail
  go_loopw [10, 5] (fun iv _ wr => iv = .int .i64 0 ∧ wr = W1) (fun _ _ _ => 0)
  case atStart => exact ⟨rfl, rfl⟩
  case round =>
    obtain ⟨rfl, rfl⟩ := hrel
    go_wp2_with fail
    go_ret
    exact ⟨rfl, HS1.out, HB1.out⟩

set_option maxRecDepth 100000 in
set_option maxHeartbeats 400000 in
theorem sum_any (cp gp : Value) (B c : Nat) (v : Value) (l : List JR) (a e : Int) (w : World) (h : TomeAt w B c v l) (ha : in64 a) (he : in64 e) :
    Calls Tryz.prog 22 #[.agg #[cp, gp, .pointer (some ⟨c, 0, none⟩)], .int .i64 a, .int .i64 e] w fun r w' => r = .returned (.int .i64 (sumM a e (l.map JR.j))) ∧ Below w.heap.size w w' := by
  obtain ⟨W1, hW1⟩ : ∃ W1, w.alloc (.cells #[cp, gp, .pointer (some ⟨c, 0, none⟩)] 35) = W1 := ⟨_, rfl⟩
  have hb1 : Below w.heap.size w W1 := by rw [← hW1]; exact (Below.refl _ _).alloc (Nat.le_refl _) _
  have ks := Lib.hid (sumsOf_any B c v l W1 (h.below hb1))
  have hp : W1.cell? ⟨w.heap.size, 2, none⟩ = some (.pointer (some ⟨c, 0, none⟩)) := by rw [← hW1]; exact box_cell 2
  have HB1 := Lib.hid hb1; have HW1 := Lib.hid hW1
  clear h hb1 hW1
  go_enter Tryz.func22, Tryz.ntmps22
  go_wp2_with fail
  rw [HW1.out]
  go_wp2_with fail
  refine ks.out.mono ?_
  rintro r w2 ⟨mb, nm, D, rfl, hge, hnm, hS, hb2⟩
  have hlk := (hS.look ha he).1
  unfold plVal at hlk
  have HB2 : Hid (Below w.heap.size w w2) := HB1.out.trans (hb2.mono HB1.out.size)
  clear hS hb2
  go_wp2_with fail
  go_ret
  exact ⟨rfl, HB2.out⟩
set_option maxRecDepth 100000 in
set_option maxHeartbeats 400000 in
theorem sum_nil (cp gp : Value) (a e : Int) (w : World) (ha : in64 a) (he : in64 e) :
    Calls Tryz.prog 22 #[.agg #[cp, gp, .pointer none], .int .i64 a, .int .i64 e] w fun r w' => r = .returned (.int .i64 0) ∧ Below w.heap.size w w' := by
  obtain ⟨W1, hW1⟩ : ∃ W1, w.alloc (.cells #[cp, gp, .pointer none] 35) = W1 := ⟨_, rfl⟩
  have hb1 : Below w.heap.size w W1 := by rw [← hW1]; exact (Below.refl _ _).alloc (Nat.le_refl _) _
  have ks := Lib.hid (sumsOf_nil W1)
  have hp : W1.cell? ⟨w.heap.size, 2, none⟩ = some (.pointer none) := by rw [← hW1]; exact box_cell 2
  have HB1 := Lib.hid hb1; have HW1 := Lib.hid hW1
  clear hb1 hW1
  go_enter Tryz.func22, Tryz.ntmps22
  go_wp2_with fail
  rw [HW1.out]
  go_wp2_with fail
  refine ks.out.mono ?_
  rintro r w2 ⟨rfl, hS, hb2⟩
  have hlk := (hS.look ha he).1
  unfold plVal at hlk
  have HB2 : Hid (Below w.heap.size w w2) := HB1.out.trans (hb2.mono HB1.out.size)
  clear hS hb2
  go_wp2_with fail
  go_ret
  exact ⟨rfl, HB2.out⟩
end Go.Proofs.YtmgncoialppmpaaGreat
