/-
  Contract of money.cutShares.
-/
import Derived.Test.YthjpknipnmagkaaMany3
namespace Go.Proofs.Ythjpknipnmagkaa.Mo
open Go.RowKit

def shareOf (W : Int) (l : List Int) (k : Nat) : Int := W * l[k]?.getD 0 / l.sum
def restOf (W : Int) (l : List Int) (k : Nat) : Int × Int := ((k : Int), W * l[k]?.getD 0 % l.sum)

theorem infoU64 : (Try.prog.info? 151).map (fun i => (i.zero, i.size, i.bytes)) = some (some (.int .u64 0), 1, 8) := by kernel_rfl
def CutPost (W : Int) (l : List Int) (n : Nat) (w : World) (e : Ending) (w' : World) : Prop :=
  ∃ s f A' c', e = .returned (.tuple #[.slice (some ⟨s, 0, none⟩) n n, .slice A' n c']) ∧ w.heap.size ≤ s ∧ NRow 151 .u64 w' s n (shareOf W l) ∧
    w'.ownsRow (s + 1) 182 2 (.slice A' n c') n (flat f n) ∧ Hp.Heap restLt n f ∧ Hp.Perm n (restOf W l) f ∧ Below w.heap.size w w'

theorem HeapAt.kept {w w' : World} {B b n : Nat} {f : Nat → Int × Int} (h : HeapAt w B b n f) (hk : ∀ j, B ≤ j → w'.heap[j]? = w.heap[j]?) : HeapAt w' B b n f := by
  obtain ⟨A, c, hb, hown, hB⟩ := h
  exact ⟨A, c, (hk b hB).trans hb, own_kept hown fun j _ hj => hk j (own_ge hown j hj), hB⟩

/-- The loop's relation: k weights are done; the shares lie in block s, the heap's variable in block s + 1. -/
def CutRel (W : Int) (l : List Int) (n : Nat) (w : World) (k : Nat) (wr : World) : Prop :=
  NRow 151 .u64 wr w.heap.size n (fun j => if j < k then shareOf W l j else 0) ∧
    ∃ f, HeapAt wr (w.heap.size + 1) (w.heap.size + 1) k f ∧ Hp.Heap restLt k f ∧ Hp.Perm k (restOf W l) f ∧ Below w.heap.size w wr

theorem cut_start (W : Int) (l : List Int) (n : Nat) (w : World) : CutRel W l n w 0 ((w.alloc (.cells (madeCells #[.int .u64 0] n) 151)).alloc (.cells #[.slice none 0 0] 178)) := by
  refine ⟨((NRow.new w _ _ n).kept (Below.heap_alloc _ _ _ (by simp))).congr fun j _ => by simp, restOf W l, ⟨none, 0, ?_, ?_, Nat.le_refl _⟩, fun k _ h => by omega, Hp.Perm.refl _ _, ((Below.refl _ _).alloc (Nat.le_refl _) _).alloc (by simp) _⟩
  · have := heap_new (w.alloc (.cells (madeCells #[.int .u64 0] n) 151)) (.cells #[.slice none 0 0] 178)
    simpa using this
  · exact World.ownsRow_nil _ _ _ _

theorem cut_step {W : Int} {l : List Int} {n k : Nat} {w wr w2 : World} {f f' : Nat → Int × Int} (hk : k < n) (h : CutRel W l n w k wr) (_hsz : w.heap.size + 1 < wr.heap.size)
    (hh : HeapAt w2 (w.heap.size + 1) (w.heap.size + 1) (k + 1) f') (hp : Hp.Heap restLt (k + 1) f')
    (hf : Hp.Perm k (restOf W l) f) (hq : Hp.Perm (k + 1) (put f k (restOf W l k)) f') (hb : Below (w.heap.size + 1) (wr.setCell ⟨w.heap.size, k, none⟩ (.int .u64 (shareOf W l k))) w2) : CutRel W l n w (k + 1) w2 := by
  obtain ⟨h1, f0, h2, h3, h4, h5⟩ := h
  refine ⟨?_, f', hh, hp, ?_, ?_⟩
  · have := (h1.set k (shareOf W l k)).below hb (by omega)
    refine this.congr fun j hj => ?_
    by_cases e : j = k
    · subst e; simp
    · simp only [e, if_false]
      by_cases h6 : j < k
      · rw [if_pos h6, if_pos (by omega)]
      · rw [if_neg h6, if_neg (by omega)]
  · have e : put f k (restOf W l k) = f := by
      funext j
      unfold put
      split
      · rename_i e; subst e
        obtain ⟨_, _, _, _, h⟩ := hf
        exact (h j (Nat.le_refl _)).symm
      · rfl
    rw [e] at hq
    exact (hf.more (by omega)).trans hq
  · exact (h5.setCell (p := ⟨w.heap.size, k, none⟩) (Nat.le_refl _) _).trans (hb.mono (by omega))

set_option maxRecDepth 100000 in
set_option maxHeartbeats 1000000 in
theorem cut_any (W : Int) (l : List Int) (A : Option Addr) (n c B : Nat) (w : World) (h : Rd w B 1 A n (ints .i64 l)) (hB : B ≤ w.heap.size) (hW0 : 0 ≤ W) (hW1 : W ≤ 1000000000000000) (hall : l.all wt1 = true) (hn : n ≤ 20) (hs : 0 < l.sum) :
    Calls Try.prog 113 #[.int .u64 W, .slice A n c, .int .u64 l.sum] w (CutPost W l n w) := by
  have hl := Lib.hid h.ints_len
  have HA := Lib.hid hall
  have HS := Lib.hid (fun k => sumTo_mono hall k)
  have hs2 : l.sum ≤ 20000000 := by
    have h1 := sumTo_bd hall l.length (Nat.le_refl _)
    rw [sumTo_all (Nat.le_refl _)] at h1
    have := hl.out
    omega
  have hmk := fun W => make_row (P := Try.prog) (q := .i64) (k := .u64) (n := n) infoU64 Try.underlying176 (by omega) W
  have HT := Lib.hid (show sumTo l l.length = l.sum from sumTo_all (Nat.le_refl _))
  clear hall
  generalize hT : l.sum = T at *
  have HTT := Lib.hid hT
  clear hT
  go_enter Try.func113, Try.ntmps113
  go_wp2_with fail
  go_loopw [21] (fun i wr => ∃ k : Nat, k ≤ n ∧ i = .int .i64 k ∧ CutRel W l n w k wr ∧ w.heap.size + 1 < wr.heap.size) (fun i _ => n - (intOf i).toNat)
  case atStart => exact ⟨0, Nat.zero_le _, rfl, cut_start W l n w, by simp⟩
  case round =>
    obtain ⟨k, hk, rfl, hrel1, hsz⟩ := hrel
    by_cases hlt : k < n
    · obtain ⟨hR1, f, hH, hh, hp, hbel⟩ := hrel1
      have HR : Hid (CutRel W l n w k wr) := ⟨hR1, f, hH, hh, hp, hbel⟩
      obtain ⟨ad, rfl, hb, hc⟩ := (h.far hbel hB).int hlt
      have hx := wt1_at HA.out k
      have hxT : l[k]?.getD 0 ≤ T := by
        have := HS.out k l.length (by have := hl.out; omega) (Nat.le_refl _)
        have := HT.out; omega
      have HX : Hid (shareOf W l k = W * l[k]?.getD 0 / T ∧ restOf W l k = ((k : Int), W * l[k]?.getD 0 % T)) := by
        have := HTT.out
        exact ⟨by rw [shareOf, this], by rw [restOf, this]⟩
      generalize l[k]?.getD 0 = x at *
      have hm0 : 0 ≤ W * x := Int.mul_nonneg hW0 hx.1
      have hm1 : W * x ≤ 1000000000000000 * x := Int.mul_le_mul_of_nonneg_right hW1 hx.1
      have hcell := hR1.cell hlt
      have hwarm := hR1.warm k
      have hk63 : (k : Int) < (n : Int) := by omega
      have HcellH := Lib.hid hcell
      clear hcell
      obtain ⟨y, hcell⟩ : ∃ y, wr.cell? ⟨w.heap.size, k, none⟩ = some (.int .u64 y) := ⟨_, HcellH.out⟩
      go_wp2_with fail
      refine (mul64_any W x hW0 (by omega) hx.1 (by omega) _).mono ?_
      rintro e w' ⟨rfl, rfl⟩
      generalize W * x = m at *
      go_wp2_with fail
      refine (div64_any _ _ T (by omega) (by omega) (by omega) (by omega) (by omega) _).mono ?_
      rintro e w' ⟨rfl, q, rfl⟩
      rw [(div_words m T).1, (div_words m T).2]
      go_wp2_with fail
      have hk2 : HeapAt ((wr.drewN q).setCell ⟨w.heap.size, k, none⟩ (.int .u64 (m / T))) (w.heap.size + 1) (w.heap.size + 1) k f :=
        hH.kept fun j hj => Below.heap_setCell (wr.drewN q) ⟨w.heap.size, k, none⟩ (.int .u64 (m / T)) j (show j ≠ w.heap.size by omega)
      refine (heapPush_any (w.heap.size + 1) (w.heap.size + 1) k f k (m % T) _ hk2 hh (by omega)).mono ?_
      rintro e w2 ⟨rfl, f', hh', hp', hq', hb'⟩
      have hz2 : w.heap.size + 1 < w2.heap.size := by
        have := hb'.size
        simp [World.setCell] at this
        omega
      go_wp2_with fail
      obtain ⟨hX1, hX2⟩ := HX.out
      refine ⟨⟨k + 1, by omega, by go_num, cut_step hlt HR.out hsz hh' hp' hp (by rw [hX2]; exact hq') ?_, hz2⟩, by simp [intOf]; omega⟩
      rw [hX1]
      exact ⟨hb'.os, hb'.tape, hb'.output, hb'.size, hb'.block⟩
    · obtain rfl : k = n := by omega
      obtain ⟨h1, f, ⟨A', c', hb, hown, _⟩, hh, hp, hbel⟩ := hrel1
      have hc := cell_of hb 0
      simp at hc
      go_wp2_with fail
      go_quiet (fail)
      go_wp2
      go_ret2
      exact ⟨w.heap.size, f, A', c', rfl, Nat.le_refl _, h1.congr fun j hj => by simp [hj], hown, hh, hp, below_drewN hbel _⟩
end Go.Proofs.Ythjpknipnmagkaa.Mo

