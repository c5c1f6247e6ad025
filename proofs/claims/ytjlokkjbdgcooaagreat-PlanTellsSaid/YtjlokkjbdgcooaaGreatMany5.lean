/-
  Several texts, one behind the other: what each holds stands ahead of it.
-/
import Derived.Test.YtjlokkjbdgcooaaGreatMany1
import Derived.Test.YtjlokkjbdgcooaaGreatMany2
import Derived.Test.YtjlokkjbdgcooaaGreatMany4

/-
  Contract of money.Fits.
-/
namespace Go.Proofs.YtjlokkjbdgcooaaGreat
open Go.RowKit

def fits1 (x : Int) : Bool := decide (-1000000000000000 ≤ x ∧ x ≤ 1000000000000000)
def fitsAll (l : List Int) : Bool := l.all fits1

theorem fitsAll_step {l : List Int} {k : Nat} (hk : k < l.length) (h : fitsAll (l.take k) = true) (h1 : fits1 (l[k]?.getD 0) = true) : fitsAll (l.take (k + 1)) = true := by
  unfold fitsAll at h ⊢
  rw [List.take_succ_eq_append_getElem hk, List.all_append, h]
  simp [hk] at h1
  simp [h1]
theorem fitsAll_no {l : List Int} {k : Nat} (hk : k < l.length) (h1 : fits1 (l[k]?.getD 0) = false) : fitsAll l = false := by
  rw [fitsAll, List.all_eq_false]
  exact ⟨l[k], List.getElem_mem hk, by simpa [hk] using h1⟩

set_option maxHeartbeats 400000 in
theorem fits_any (l : List Int) (A : Option Addr) (n c B : Nat) (w : World) (h : Rd w B 1 A n (ints .i64 l)) (hn : n ≤ maxLen) :
    Calls Tryz.prog 174 #[.slice A n c] w fun e w' => e = .returned (.bool (fitsAll l)) ∧ w = w' := by
  unfold maxLen at hn
  have hl := Lib.hid h.ints_len
  go_enter Tryz.func174, Tryz.ntmps174
  go_wp2
  go_loop [7, 4] (fun i _ => ∃ k : Nat, k ≤ n ∧ i = .int .i64 k ∧ Hid (fitsAll (l.take k) = true)) (fun i _ => n - (intOf i).toNat)
  case atStart => exact ⟨0, Nat.zero_le _, rfl, rfl⟩
  case round =>
    obtain ⟨k, hk, rfl, hf⟩ := hrel
    by_cases hlt : k < n
    · obtain ⟨ad, rfl, hb, hc⟩ := h.int hlt
      by_cases h1 : l[k]?.getD 0 < -1000000000000000
      · go_wp2
        go_ret
        exact ⟨ret_bool (fitsAll_no (k := k) (by have := hl.out; omega) (by unfold fits1; simp; omega)).symm, rfl⟩
      by_cases h2 : 1000000000000000 < l[k]?.getD 0
      · go_wp2
        go_ret
        exact ⟨ret_bool (fitsAll_no (k := k) (by have := hl.out; omega) (by unfold fits1; simp; omega)).symm, rfl⟩
      · go_wp2
        exact ⟨⟨k + 1, by omega, by go_num, fitsAll_step (by have := hl.out; omega) hf.out (by unfold fits1; simp; omega)⟩, by simp [intOf]; omega⟩
    · go_wp2
      go_ret
      refine ⟨ret_bool ?_, rfl⟩
      have := hf.out
      rw [List.take_of_length_le (by have := hl.out; omega)] at this
      exact this.symm
end Go.Proofs.YtjlokkjbdgcooaaGreat

/-
  Contract of money.Scale.
-/
namespace Go.Proofs.YtjlokkjbdgcooaaGreat.Mo
open Go.RowKit

theorem below_drewN {B : Nat} {a w : World} (h : Below B a w) (n : Nat) : Below B a (w.drewN n) := ⟨h.os, h.tape, h.output, h.size, h.block⟩

theorem div64_any (h l y : Int) (hh0 : 0 ≤ h) (hh : h < y) (hl0 : 0 ≤ l) (hl : l < 18446744073709551616) (hy : y < 4294967296) (w : World) :
    Calls Tryz.prog 240 #[.int .u64 h, .int .u64 l, .int .u64 y] w fun e w' => e = .returned (.tuple #[.int .u64 ((h * 18446744073709551616 + l) / y), .int .u64 ((h * 18446744073709551616 + l) % y)]) ∧ ∃ n, w' = w.drewN n := by
  by_cases h0 : h = 0
  · subst h0
    refine (div64_zero l y hl0 hl (by omega) hy w).mono fun e w' ⟨he, hw⟩ => ⟨?_, hw⟩
    rw [he]; simp
  · exact (div64_pos h l y (by omega) hh hl0 hl hy w).mono fun e w' ⟨he, hw⟩ => ⟨he, 0, hw.symm⟩

/-- A product of two numbers that fit, taken apart in two words and divided. -/
theorem div_words (m y : Int) : (m / 18446744073709551616 * 18446744073709551616 + m % 18446744073709551616) / y = m / y ∧ (m / 18446744073709551616 * 18446744073709551616 + m % 18446744073709551616) % y = m % y := by
  have : m / 18446744073709551616 * 18446744073709551616 + m % 18446744073709551616 = m := by omega
  rw [this]; exact ⟨rfl, rfl⟩

/-- money.Fits of one amount, in the slice that the call made for it. -/
theorem fits_one (a : Int) (w : World) (T : TypeId) (c : Nat) : Calls Tryz.prog 174 #[.slice (some ⟨w.heap.size, 0, none⟩) 1 c] (w.alloc (.cells #[.int .i64 a] T)) fun e w' => e = .returned (.bool (fits1 a)) ∧ w.alloc (.cells #[.int .i64 a] T) = w' := by
  refine (fits_any [a] (some ⟨w.heap.size, 0, none⟩) 1 c (w.heap.size + 1) _ ⟨rfl, fun _ => ⟨_, rfl, by simp, ?_⟩⟩ (by decide)).mono fun e w' ⟨he, hw⟩ => ⟨by rw [he]; simp [fitsAll], hw⟩
  intro j u hu
  match j, hu with
  | 0, hu => simp [ints] at hu; subst hu; simp [Addr.add, go_sem]
  | j + 1, hu => simp [ints] at hu

def scaleQ (a num den : Int) : Int := absI a * num / den + if rUp (absI a * num / den) (absI a * num % den) den then 1 else 0
def scaleOk (a num den : Int) : Bool := fits1 a && decide (0 ≤ num) && decide (num ≤ 1000000000) && decide (1 ≤ den) && decide (den ≤ 1000000000)


theorem fits1_of {a : Int} (h : fits1 a = true) : -1000000000000000 ≤ a ∧ a ≤ 1000000000000000 := by simpa [fits1] using h
theorem absI_of {a : Int} (h : fits1 a = true) : 0 ≤ absI a ∧ absI a ≤ 1000000000000000 := by
  have := fits1_of h; unfold absI; split <;> omega

def scaleVal (a num den : Int) : Int := if scaleQ a num den ≤ 1000000000000000 then signed (scaleQ a num den) a else 0
def scaleErr (a num den : Int) : Int := if scaleQ a num den ≤ 1000000000000000 then 0 else 2

end Go.Proofs.YtjlokkjbdgcooaaGreat.Mo

/-
  Contracts of money.totalWeight and money.cutShares.
-/
namespace Go.Proofs.YtjlokkjbdgcooaaGreat.Mo
open Go.RowKit

def wt1 (x : Int) : Bool := decide (0 ≤ x ∧ x ≤ 1000000)
/-- May one split by these weights, their sum aside? -/
def wtsOk (l : List Int) : Bool := decide (l.length ≤ 20) && l.all wt1
def sumTo (l : List Int) (k : Nat) : Int := (l.take k).sum

theorem sumTo_zero (l : List Int) : sumTo l 0 = 0 := by simp [sumTo]
theorem sumTo_succ {l : List Int} {k : Nat} (h : k < l.length) : sumTo l (k + 1) = sumTo l k + l[k]?.getD 0 := by
  unfold sumTo
  rw [List.take_succ_eq_append_getElem h, List.sum_append]
  simp [h]
theorem sumTo_all {l : List Int} {k : Nat} (h : l.length ≤ k) : sumTo l k = l.sum := by
  unfold sumTo; rw [List.take_of_length_le h]
theorem wt1_at {l : List Int} (h : l.all wt1 = true) (k : Nat) : 0 ≤ l[k]?.getD 0 ∧ l[k]?.getD 0 ≤ 1000000 := by
  by_cases hk : k < l.length
  · have := List.all_eq_true.1 h l[k] (List.getElem_mem hk)
    simp [hk]
    simpa [wt1] using this
  · simp [hk]
theorem sumTo_bd {l : List Int} (h : l.all wt1 = true) : ∀ k, k ≤ l.length → 0 ≤ sumTo l k ∧ sumTo l k ≤ 1000000 * (k : Int)
  | 0, _ => by rw [sumTo_zero]; omega
  | k + 1, hk => by
    have := sumTo_bd h k (by omega)
    have h1 := wt1_at h k
    rw [sumTo_succ (by omega)]; omega
theorem sumTo_mono {l : List Int} (h : l.all wt1 = true) (i : Nat) : ∀ k, i < k → k ≤ l.length → l[i]?.getD 0 ≤ sumTo l k
  | 0, h0, _ => by omega
  | k + 1, hi, hk => by
    have h1 := wt1_at h k
    rw [sumTo_succ (by omega)]
    by_cases e : i = k
    · subst e; have := sumTo_bd h i (by omega); omega
    · have := sumTo_mono h i k (by omega) (by omega); omega

set_option maxHeartbeats 400000 in
theorem total_long (A : Option Addr) (n c : Nat) (w : World) (hn : n ≤ maxLen) (hl : 20 < n) :
    Calls Tryz.prog 210 #[.slice A n c] w fun e w' => e = .returned (.tuple #[.int .u64 0, .bool false]) ∧ w = w' := by
  unfold maxLen at hn
  go_enter Tryz.func210, Tryz.ntmps210
  go_wp2
  go_ret2
  exact ⟨rfl, rfl⟩

def AllTo (l : List Int) (k : Nat) : Prop := (l.take k).all wt1 = true
theorem allTo_succ {l : List Int} {k : Nat} (hk : k < l.length) (h : AllTo l k) (h1 : wt1 (l[k]?.getD 0) = true) : AllTo l (k + 1) := by
  unfold AllTo at h ⊢
  rw [List.take_succ_eq_append_getElem hk, List.all_append, h]
  simp [hk] at h1
  simp [h1]
theorem sumTo_allTo {l : List Int} {k : Nat} (hk : k ≤ l.length) (h : AllTo l k) : 0 ≤ sumTo l k ∧ sumTo l k ≤ 1000000 * (k : Int) := by
  have := sumTo_bd (l := l.take k) h k (by simp; omega)
  simpa [sumTo, List.take_take] using this

def totOk (l : List Int) : Bool := l.all wt1
def tot (l : List Int) : Int := if l.all wt1 then l.sum else 0
def totPos (l : List Int) : Bool := l.all wt1 && decide (0 < l.sum)
theorem tot_no {l : List Int} {k : Nat} (hk : k < l.length) (h : wt1 (l[k]?.getD 0) = false) : l.all wt1 = false := by
  rw [List.all_eq_false]
  exact ⟨l[k], List.getElem_mem hk, by simpa [hk] using h⟩

set_option maxHeartbeats 1000000 in
theorem total_anyMs (l : List Int) (A : Option Addr) (n c B : Nat) (w : World) (h : Rd w B 1 A n (ints .i64 l)) (hn : n ≤ 20) :
    Calls Tryz.prog 210 #[.slice A n c] w fun e w' => e = .returned (.tuple #[.int .u64 (tot l), .bool (totPos l)]) ∧ w = w' := by
  have hl := Lib.hid h.ints_len
  go_enter Tryz.func210, Tryz.ntmps210
  go_wp2
  go_loop [12, 4] (fun i t => ∃ k : Nat, k ≤ n ∧ i = .int .i64 k ∧ t = .int .i64 (sumTo l k) ∧ Hid (AllTo l k)) (fun i _ => n - (intOf i).toNat)
  case atStart => exact ⟨0, Nat.zero_le _, rfl, by rw [sumTo_zero], by simp [Hid, AllTo]⟩
  case round =>
    obtain ⟨k, hk, rfl, rfl, hf⟩ := hrel
    have hkl : k ≤ l.length := by have := hl.out; omega
    have hbd := sumTo_allTo hkl hf.out
    by_cases hlt : k < n
    · obtain ⟨ad, rfl, hb, hc⟩ := h.int hlt
      have hkl' : k < l.length := by have := hl.out; omega
      have HS := Lib.hid (sumTo_succ hkl')
      have HK := Lib.hid hkl'
      have HT := Lib.hid (fun h : wt1 (l[k]?.getD 0) = false => tot_no hkl' h)
      have HU := Lib.hid (fun h : wt1 (l[k]?.getD 0) = true => allTo_succ hkl' hf.out h)
      clear hkl' hkl
      generalize l[k]?.getD 0 = x at *
      by_cases h1 : x < 0
      · have hno := Lib.hid (HT.out (by simp [wt1]; omega))
        go_wp2
        go_ret2
        exact ⟨by simp [tot, totPos, hno.out], rfl⟩
      by_cases h2 : 1000000 < x
      · have hno := Lib.hid (HT.out (by simp [wt1]; omega))
        go_wp2
        go_ret2
        exact ⟨by simp [tot, totPos, hno.out], rfl⟩
      · go_wp2
        exact ⟨⟨k + 1, by omega, by go_num, by rw [HS.out], HU.out (by simp [wt1]; omega)⟩, by simp [intOf]; omega⟩
    · have hall : l.all wt1 = true := by
        have := hf.out
        unfold AllTo at this
        rwa [List.take_of_length_le (by have := hl.out; omega)] at this
      have hs : sumTo l k = l.sum := sumTo_all (by have := hl.out; omega)
      have HA := Lib.hid hall
      rw [hs] at hbd ⊢
      clear hs hall
      go_wp2
      go_ret2
      exact ⟨by simp [tot, totPos, HA.out], rfl⟩
end Go.Proofs.YtjlokkjbdgcooaaGreat.Mo

/-
  Contract of money.cutShares.
-/
namespace Go.Proofs.YtjlokkjbdgcooaaGreat.Mo
open Go.RowKit

def shareOf (W : Int) (l : List Int) (k : Nat) : Int := W * l[k]?.getD 0 / l.sum
def restOf (W : Int) (l : List Int) (k : Nat) : Int × Int := ((k : Int), W * l[k]?.getD 0 % l.sum)

theorem infoU64 : (Tryz.prog.info? 239).map (fun i => (i.zero, i.size, i.bytes)) = some (some (.int .u64 0), 1, 8) := by kernel_rfl
def CutPost (W : Int) (l : List Int) (n : Nat) (w : World) (e : Ending) (w' : World) : Prop :=
  ∃ s f A' c', e = .returned (.tuple #[.slice (some ⟨s, 0, none⟩) n n, .slice A' n c']) ∧ w.heap.size ≤ s ∧ NRow 239 .u64 w' s n (shareOf W l) ∧
    w'.ownsRow (s + 1) 293 2 (.slice A' n c') n (flat f n) ∧ Hp.Heap restLt n f ∧ Hp.Perm n (restOf W l) f ∧ Below w.heap.size w w'

theorem HeapAt.kept {w w' : World} {B b n : Nat} {f : Nat → Int × Int} (h : HeapAt w B b n f) (hk : ∀ j, B ≤ j → w'.heap[j]? = w.heap[j]?) : HeapAt w' B b n f := by
  obtain ⟨A, c, hb, hown, hB⟩ := h
  exact ⟨A, c, (hk b hB).trans hb, own_kept hown fun j _ hj => hk j (own_ge hown j hj), hB⟩

/-- The loop's relation: k weights are done; the shares lie in block s, the heap's variable in block s + 1. -/
def CutRel (W : Int) (l : List Int) (n : Nat) (w : World) (k : Nat) (wr : World) : Prop :=
  NRow 239 .u64 wr w.heap.size n (fun j => if j < k then shareOf W l j else 0) ∧
    ∃ f, HeapAt wr (w.heap.size + 1) (w.heap.size + 1) k f ∧ Hp.Heap restLt k f ∧ Hp.Perm k (restOf W l) f ∧ Below w.heap.size w wr

theorem cut_start (W : Int) (l : List Int) (n : Nat) (w : World) : CutRel W l n w 0 ((w.alloc (.cells (madeCells #[.int .u64 0] n) 239)).alloc (.cells #[.slice none 0 0] 289)) := by
  refine ⟨((NRow.new w _ _ n).kept (Below.heap_alloc _ _ _ (by simp))).congr fun j _ => by simp, restOf W l, ⟨none, 0, ?_, ?_, Nat.le_refl _⟩, fun k _ h => by omega, Hp.Perm.refl _ _, ((Below.refl _ _).alloc (Nat.le_refl _) _).alloc (by simp) _⟩
  · have := heap_new (w.alloc (.cells (madeCells #[.int .u64 0] n) 239)) (.cells #[.slice none 0 0] 289)
    simpa using this
  · exact World.ownsRow_nil _ _ _ _

theorem cut_step {W : Int} {l : List Int} {n k : Nat} {w wr w2 : World} {f f' : Nat → Int × Int} (hk : k < n) (h : CutRel W l n w k wr) (_hsz : w.heap.size + 1 < wr.heap.size)
    (hh : HeapAt w2 (w.heap.size + 1) (w.heap.size + 1) (k + 1) f') (hp : Hp.Heap restLt (k + 1) f')
    (hf : Hp.Perm k (restOf W l) f) (hq : Hp.Perm (k + 1) (put f k (restOf W l k)) f') (hb : Below (w.heap.size + 1) (wr.setCell ⟨w.heap.size, k, none⟩ (.int .u64 (shareOf W l k))) w2) : CutRel W l n w (k + 1) w2 := by
  obtain ⟨h1, f0, h2, h3, h4, h5⟩ := h
  refine ⟨?_, f', hh, hp, ?_, ?_⟩
  · have := (h1.set k (shareOf W l k)).below hb (by omega)
    refine this.congr fun j hj => ?_
    by_cases e : j = k
    · subst e; simp
    · simp only [e, if_false]
      by_cases h6 : j < k
      · rw [if_pos h6, if_pos (by omega)]
      · rw [if_neg h6, if_neg (by omega)]
  · have e : put f k (restOf W l k) = f := by
      funext j
      unfold put
      split
      · rename_i e; subst e
        obtain ⟨_, _, _, _, h⟩ := hf
        exact (h j (Nat.le_refl _)).symm
      · rfl
    rw [e] at hq
    exact (hf.more (by omega)).trans hq
  · exact (h5.setCell (p := ⟨w.heap.size, k, none⟩) (Nat.le_refl _) _).trans (hb.mono (by omega))

set_option maxRecDepth 100000 in
set_option maxHeartbeats 1000000 in
theorem cut_any (W : Int) (l : List Int) (A : Option Addr) (n c B : Nat) (w : World) (h : Rd w B 1 A n (ints .i64 l)) (hB : B ≤ w.heap.size) (hW0 : 0 ≤ W) (hW1 : W ≤ 1000000000000000) (hall : l.all wt1 = true) (hn : n ≤ 20) (hs : 0 < l.sum) :
    Calls Tryz.prog 211 #[.int .u64 W, .slice A n c, .int .u64 l.sum] w (CutPost W l n w) := by
  have hl := Lib.hid h.ints_len
  have HA := Lib.hid hall
  have HS := Lib.hid (fun k => sumTo_mono hall k)
  have hs2 : l.sum ≤ 20000000 := by
    have h1 := sumTo_bd hall l.length (Nat.le_refl _)
    rw [sumTo_all (Nat.le_refl _)] at h1
    have := hl.out
    omega
  have hmk := fun W => make_row (P := Tryz.prog) (q := .i64) (k := .u64) (n := n) infoU64 Tryz.underlying287 (by omega) W
  have HT := Lib.hid (show sumTo l l.length = l.sum from sumTo_all (Nat.le_refl _))
  clear hall
  generalize hT : l.sum = T at *
  have HTT := Lib.hid hT
  clear hT
  go_enter Tryz.func211, Tryz.ntmps211
  go_wp2_with fail
  go_loopw [21] (fun i wr => ∃ k : Nat, k ≤ n ∧ i = .int .i64 k ∧ CutRel W l n w k wr ∧ w.heap.size + 1 < wr.heap.size) (fun i _ => n - (intOf i).toNat)
  case atStart => exact ⟨0, Nat.zero_le _, rfl, cut_start W l n w, by simp⟩
  case round =>
    obtain ⟨k, hk, rfl, hrel1, hsz⟩ := hrel
    by_cases hlt : k < n
    · obtain ⟨hR1, f, hH, hh, hp, hbel⟩ := hrel1
      have HR : Hid (CutRel W l n w k wr) := ⟨hR1, f, hH, hh, hp, hbel⟩
      obtain ⟨ad, rfl, hb, hc⟩ := (h.far hbel hB).int hlt
      have hx := wt1_at HA.out k
      have hxT : l[k]?.getD 0 ≤ T := by
        have := HS.out k l.length (by have := hl.out; omega) (Nat.le_refl _)
        have := HT.out; omega
      have HX : Hid (shareOf W l k = W * l[k]?.getD 0 / T ∧ restOf W l k = ((k : Int), W * l[k]?.getD 0 % T)) := by
        have := HTT.out
        exact ⟨by rw [shareOf, this], by rw [restOf, this]⟩
      generalize l[k]?.getD 0 = x at *
      have hm0 : 0 ≤ W * x := Int.mul_nonneg hW0 hx.1
      have hm1 : W * x ≤ 1000000000000000 * x := Int.mul_le_mul_of_nonneg_right hW1 hx.1
      have hcell := hR1.cell hlt
      have hwarm := hR1.warm k
      have hk63 : (k : Int) < (n : Int) := by omega
      have HcellH := Lib.hid hcell
      clear hcell
      obtain ⟨y, hcell⟩ : ∃ y, wr.cell? ⟨w.heap.size, k, none⟩ = some (.int .u64 y) := ⟨_, HcellH.out⟩
      go_wp2_with fail
      refine (mul64_any W x hW0 (by omega) hx.1 (by omega) _).mono ?_
      rintro e w' ⟨rfl, rfl⟩
      generalize W * x = m at *
      go_wp2_with fail
      refine (div64_any _ _ T (by omega) (by omega) (by omega) (by omega) (by omega) _).mono ?_
      rintro e w' ⟨rfl, q, rfl⟩
      rw [(div_words m T).1, (div_words m T).2]
      go_wp2_with fail
      have hk2 : HeapAt ((wr.drewN q).setCell ⟨w.heap.size, k, none⟩ (.int .u64 (m / T))) (w.heap.size + 1) (w.heap.size + 1) k f :=
        hH.kept fun j hj => Below.heap_setCell (wr.drewN q) ⟨w.heap.size, k, none⟩ (.int .u64 (m / T)) j (show j ≠ w.heap.size by omega)
      refine (heapPush_any (w.heap.size + 1) (w.heap.size + 1) k f k (m % T) _ hk2 hh (by omega)).mono ?_
      rintro e w2 ⟨rfl, f', hh', hp', hq', hb'⟩
      have hz2 : w.heap.size + 1 < w2.heap.size := by
        have := hb'.size
        simp [World.setCell] at this
        omega
      go_wp2_with fail
      obtain ⟨hX1, hX2⟩ := HX.out
      refine ⟨⟨k + 1, by omega, by go_num, cut_step hlt HR.out hsz hh' hp' hp (by rw [hX2]; exact hq') ?_, hz2⟩, by simp [intOf]; omega⟩
      rw [hX1]
      exact ⟨hb'.os, hb'.tape, hb'.output, hb'.size, hb'.block⟩
    · obtain rfl : k = n := by omega
      obtain ⟨h1, f, ⟨A', c', hb, hown, _⟩, hh, hp, hbel⟩ := hrel1
      have hc := cell_of hb 0
      simp at hc
      go_wp2_with fail
      go_quiet (fail)
      go_wp2
      go_ret2
      exact ⟨w.heap.size, f, A', c', rfl, Nat.le_refl _, h1.congr fun j hj => by simp [hj], hown, hh, hp, below_drewN hbel _⟩
end Go.Proofs.YtjlokkjbdgcooaaGreat.Mo
