/-
  Several texts, one behind the other: what each holds stands ahead of it.
-/
import Derived.Test.YtjlokkjbdgcooaaGreatMany6
import Derived.Test.YtjlokkjbdgcooaaGreatMany20
import Derived.StillTailTactics

/-
  Plain mathematics of fair parts: they come to the amount, a greater weight has no less, one of 0 has nothing.
-/
namespace Go.Proofs.YtjlokkjbdgcooaaGreat.Mo

theorem sumN_le_each {f : Nat → Int} {n : Nat} (h : ∀ k, k < n → 0 ≤ f k) (i : Nat) (hi : i < n) : f i ≤ sumN f n := by
  have : sumN (fun k => if k = i then f i else 0) n ≤ sumN f n := sumN_le fun k hk => by
    by_cases e : k = i
    · subst e; simp
    · simp [e]; exact h k hk
  have h2 : sumN (fun k => if k = i then f i else 0) n = f i := by
    have e : sumN (fun k => if k = i then f i else 0) n = sumN (fun k => f i * if k = i then 1 else 0) n := sumN_congr fun k _ => by
      by_cases e : k = i <;> simp [e]
    rw [e, sumN_mul, sumN_one hi, Int.mul_one]
  omega

section
variable {W : Int} {l : List Int} {S : Nat → Bool}
theorem part_sum (hall : l.all wt1 = true) (hs : 0 < l.sum) (hW : 0 ≤ W) (hT : Taken (restOf W l) l.length (leftOf W l l.length).toNat S) : sumN (partOf W l S) l.length = W := by
  have h1 := taken_count hT
  have h2 := (left_bd hall hs hW).1
  have h3 : sumN (partOf W l S) l.length = sumN (shareOf W l) l.length + sumN (fun k => if S k then 1 else 0) l.length := by rw [← sumN_add]; rfl
  rw [h3, h1]
  unfold leftOf at *
  omega
theorem part_le (hall : l.all wt1 = true) (hs : 0 < l.sum) (hW : 0 ≤ W) (hT : Taken (restOf W l) l.length (leftOf W l l.length).toNat S) (k : Nat) (hk : k < l.length) : partOf W l S k ≤ W := by
  have h1 := part_sum hall hs hW hT
  have := sumN_le_each (f := partOf W l S) (n := l.length) (fun k _ => (part_bd hall hs hW S k).1) k hk
  omega
theorem part_zero (hall : l.all wt1 = true) (hs : 0 < l.sum) (hW : 0 ≤ W) (hT : Taken (restOf W l) l.length (leftOf W l l.length).toNat S) (k : Nat) (hk : k < l.length) (h0 : l[k]?.getD 0 = 0) : partOf W l S k = 0 := by
  have hsh : shareOf W l k = 0 := by unfold shareOf; rw [h0]; simp
  have hr : (restOf W l k).2 = 0 := by unfold restOf; rw [h0]; simp
  unfold partOf
  rw [hsh]
  cases hS : S k
  · simp
  · exfalso
    have hcnt := taken_count hT
    have hlb := left_bd hall hs hW
    have hlr := left_rests (W := W) (l := l)
    have h1 : sumN (fun j => (restOf W l j).2) l.length ≤ sumN (fun j => (l.sum - 1) * (if S j then 1 else 0) + (-(l.sum - 1)) * if j = k then 1 else 0) l.length := by
      refine sumN_le fun j hj => ?_
      have hb := rest_bd (W := W) hs j
      by_cases e : j = k
      · subst e; simp [hS, hr]; omega
      · cases hSj : S j
        · have := taken_ahead (fun i j h => restOf_inj W l h) hT k j hk hj hS hSj
          simp [restLt, hr] at this
          simp [e]
          omega
        · simp [e]; omega
    rw [sumN_add, sumN_mul, sumN_mul, sumN_one hk, hcnt, Int.toNat_of_nonneg hlb.1] at h1
    have hone : 1 ≤ leftOf W l l.length := by
      have := sumN_le_each (f := fun j => if S j then 1 else 0) (n := l.length) (fun j _ => by split <;> omega) k hk
      simp only [hS, if_true] at this
      omega
    rw [← hlr, Int.sub_mul] at h1
    omega
theorem part_mono (hall : l.all wt1 = true) (hs : 0 < l.sum) (hW : 0 ≤ W) (hT : Taken (restOf W l) l.length (leftOf W l l.length).toNat S) (i k : Nat) (hi : i < l.length) (hk : k < l.length) (h : l[k]?.getD 0 < l[i]?.getD 0) : partOf W l S k ≤ partOf W l S i := by
  have h1 := share_rest (W := W) (l := l) i
  have h2 := share_rest (W := W) (l := l) k
  have b1 := rest_bd (W := W) hs i
  have b2 := rest_bd (W := W) hs k
  have hm : W * l[k]?.getD 0 ≤ W * l[i]?.getD 0 := Int.mul_le_mul_of_nonneg_left (by omega) hW
  have hsh : shareOf W l k ≤ shareOf W l i := Int.ediv_le_ediv hs hm
  unfold partOf
  by_cases he : shareOf W l k = shareOf W l i
  · rw [he] at h2 ⊢
    cases hSk : S k
    · simp; split <;> omega
    · cases hSi : S i
      · exfalso
        have := taken_ahead (fun i j h => restOf_inj W l h) hT k i hk hi hSk hSi
        simp [restLt] at this
        have hr : (restOf W l k).2 ≤ (restOf W l i).2 := by omega
        have he2 : (restOf W l k).2 = (restOf W l i).2 := by omega
        have hW0 : W = 0 := by
          have hmm : W * l[k]?.getD 0 = W * l[i]?.getD 0 := by omega
          rcases Int.mul_eq_zero.1 (show W * (l[i]?.getD 0 - l[k]?.getD 0) = 0 by rw [Int.mul_sub]; omega) with h | h
          · exact h
          · omega
        have hps := part_sum hall hs hW hT
        have := sumN_le_each (f := partOf W l S) (n := l.length) (fun k _ => (part_bd hall hs hW S k).1) k hk
        rw [hps, hW0] at this
        have hs0 := share_nonneg hall hs hW k
        unfold partOf at this
        rw [hW0] at hs0
        simp [hSk] at this
        omega
      · simp
  · split <;> split <;> omega
theorem low_share (hs : 0 < l.sum) (x : Int) : W / l.sum * x + W % l.sum * x / l.sum = W * x / l.sum := by
  have e := Int.mul_ediv_add_emod W l.sum
  have : W * x = W % l.sum * x + (W / l.sum * x) * l.sum := by
    have h2 : W * x = (l.sum * (W / l.sum) + W % l.sum) * x := by rw [e]
    rw [h2, Int.add_mul, Int.mul_comm l.sum, Int.mul_right_comm]
    omega
  rw [this, Int.add_mul_ediv_right _ _ (by omega)]
  omega
end
theorem range_sum (f : Nat → Int) : ∀ n, ((List.range n).map f).sum = sumN f n
  | 0 => rfl
  | n + 1 => by rw [List.range_succ, List.map_append, List.sum_append, range_sum f n]; simp [sumN]
theorem sumN_signed (f : Nat → Int) (a : Int) (n : Nat) : sumN (fun k => signed (f k) a) n = signed (sumN f n) a := by
  unfold signed
  by_cases h : a < 0
  · simp only [h, if_true]
    have e : sumN (fun k => -f k) n = sumN (fun k => -1 * f k) n := sumN_congr fun k _ => by omega
    rw [e, sumN_mul]; omega
  · simp only [h, if_false]
theorem signed_abs (a : Int) : signed (absI a) a = a := by unfold signed absI; split <;> omega
theorem absI_signed {p a : Int} (h : 0 ≤ p) : max (signed p a) (-signed p a) = p := by unfold signed; split <;> omega
end Go.Proofs.YtjlokkjbdgcooaaGreat.Mo

/-
  The walk of the statement MoneyFair.
-/
-- HOLE: obtain ⟨hr, hm, _⟩ := rd_of_isRow w1
-- exact moneyFair_walk a0 _ a1 len1 cap1 w hr hm (bounds_i64 w0).1 (bounds_i64 w0).2
namespace Go.Proofs.YtjlokkjbdgcooaaGreat
open Mo
open Go.RowKit

/-- What the statement's last test asks of one part. -/
theorem low_facts {W x T sh : Int} (hW0 : 0 ≤ W) (hW : W ≤ 1000000000000000) (hx0 : 0 ≤ x) (hx : x ≤ 1000000) (hT : 0 < T) (hxT : x ≤ T) (hT2 : T ≤ 20000000) (hsh : W / T * x + W % T * x / T = sh) (hs1 : sh ≤ W) (hs0 : 0 ≤ sh) :
    ∃ q r m1 m2 d : Int, W.tdiv T = q ∧ IntKind.i64.wrap q = q ∧ W.tmod T = r ∧ IntKind.i64.wrap (q * x) = m1 ∧ IntKind.i64.wrap (r * x) = m2 ∧ m2.tdiv T = d ∧ IntKind.i64.wrap d = d ∧ IntKind.i64.wrap (m1 + d) = sh := by
  have q0 : 0 ≤ W / T := Int.ediv_nonneg hW0 (by omega)
  have q1 : W / T ≤ W := Int.ediv_le_self _ hW0
  have r0 : 0 ≤ W % T := Int.emod_nonneg _ (by omega)
  have r1 : W % T < T := Int.emod_lt_of_pos _ hT
  have m10 : 0 ≤ W / T * x := Int.mul_nonneg q0 hx0
  have m20 : 0 ≤ W % T * x := Int.mul_nonneg r0 hx0
  have m21 : W % T * x ≤ 20000000 * x := Int.mul_le_mul_of_nonneg_right (by omega) hx0
  have d0 : 0 ≤ W % T * x / T := Int.ediv_nonneg m20 (by omega)
  have d1 : W % T * x / T ≤ W % T * x := Int.ediv_le_self _ m20
  refine ⟨W / T, W % T, W / T * x, W % T * x, W % T * x / T, Int.tdiv_eq_ediv_of_nonneg hW0, ?_, Int.tmod_eq_emod_of_nonneg hW0, ?_, ?_, Int.tdiv_eq_ediv_of_nonneg m20, ?_, ?_⟩
  all_goals rw [IntKind.wrap_i64]; omega

end Go.Proofs.YtjlokkjbdgcooaaGreat

/-
  Contract of the document's own Split.
-/
namespace Go.Proofs.YtjlokkjbdgcooaaGreat.Mo
open Go.RowKit

set_option maxRecDepth 100000 in
set_option maxHeartbeats 1000000 in
theorem refSplit_bad (a : Int) (l : List Int) (A : Option Addr) (n c B : Nat) (w : World) (h : Rd w B 1 A n (ints .i64 l)) (hn : n ≤ maxLen) (hno : splitOk a l = false) :
    Calls Tryz.prog 52 #[.int .i64 a, .slice A n c] w fun e w' => e = .returned (.tuple #[.slice none 0 0, .int .i64 1]) ∧ w = w' := by
  unfold maxLen at hn
  have hl := Lib.hid h.ints_len
  cases hf : fits1 a
  · have HF := Lib.hid hf
    clear hf hno
    go_enter Tryz.func52, Tryz.ntmps52
    go_wp2_with fail
    refine (refFits_any a w).mono ?_
    rintro e w' ⟨rfl, rfl⟩
    rw [HF.out]
    go_wp2
    go_ret2
    exact ⟨rfl, rfl⟩
  have HF := Lib.hid hf
  have hno' : n ≤ 20 → totPos l = false := by
    intro h20
    cases e : totPos l
    · rfl
    · rw [totPos, Bool.and_eq_true] at e
      rw [splitOk, hf, e.1, e.2] at hno
      have := hl.out
      simp at hno
      omega
  clear hf hno
  by_cases h1 : n < 1
  · clear hno'
    go_enter Tryz.func52, Tryz.ntmps52
    go_wp2_with fail
    refine (refFits_any a w).mono ?_
    rintro e w' ⟨rfl, rfl⟩
    rw [HF.out]
    go_wp2
    go_ret2
    exact ⟨rfl, rfl⟩
  by_cases h20 : 20 < n
  · clear hno'
    go_enter Tryz.func52, Tryz.ntmps52
    go_wp2_with fail
    refine (refFits_any a w).mono ?_
    rintro e w' ⟨rfl, rfl⟩
    rw [HF.out]
    go_wp2
    go_ret2
    exact ⟨rfl, rfl⟩
  have HN := Lib.hid (hno' (by omega))
  clear hno'
  go_enter Tryz.func52, Tryz.ntmps52
  go_wp2_with fail
  refine (refFits_any a w).mono ?_
  rintro e w' ⟨rfl, rfl⟩
  rw [HF.out]
  go_wp2_with fail
  go_loop [7, 6] (fun i t => ∃ k : Nat, k ≤ n ∧ i = .int .i64 k ∧ t = .int .i64 (sumTo l k) ∧ Hid (AllTo l k)) (fun i _ => n - (intOf i).toNat)
  case atStart => exact ⟨0, Nat.zero_le _, rfl, by rw [sumTo_zero], by simp [Hid, AllTo]⟩
  case round =>
    obtain ⟨k, hk, rfl, rfl, hf⟩ := hrel
    have hbd := sumTo_allTo (l := l) (k := k) (by have := hl.out; omega) hf.out
    by_cases hlt : k < n
    · obtain ⟨ad, rfl, hb, hc⟩ := h.int hlt
      have HS := Lib.hid (sumTo_succ (l := l) (k := k) (by have := hl.out; omega))
      have HU := Lib.hid (fun h : wt1 (l[k]?.getD 0) = true => allTo_succ (l := l) (k := k) (by have := hl.out; omega) hf.out h)
      generalize l[k]?.getD 0 = x at *
      have hkI : (k : Int) < (n : Int) := by omega
      by_cases h1 : x < 0
      · go_wp2
        go_ret2
        exact ⟨rfl, rfl⟩
      by_cases h2 : 1000000 < x
      · go_wp2
        go_ret2
        exact ⟨rfl, rfl⟩
      · go_wp2
        exact ⟨⟨k + 1, by omega, by go_num, by rw [HS.out], HU.out (by simp [wt1]; omega)⟩, by simp [intOf]; omega⟩
    · have hall : l.all wt1 = true := by
        have := hf.out
        unfold AllTo at this
        rwa [List.take_of_length_le (by have := hl.out; omega)] at this
      have hs : sumTo l k = l.sum := sumTo_all (by have := hl.out; omega)
      have hz : (l.sum == 0) = true := by
        have := HN.out
        rw [totPos, hall] at this
        simp at this
        rw [hs] at hbd
        rw [beq_iff_eq]; omega
      rw [hs] at hbd ⊢
      clear hs hall hf
      generalize l.sum = T at *
      go_wp2
      go_ret2
      exact ⟨rfl, rfl⟩

theorem restOf_mod (W x T : Int) : W % T * x % T = W * x % T := by
  rw [Int.mul_emod, Int.emod_emod, ← Int.mul_emod]

/-- What is cut off, -1 where one was given already. -/
def cutOf (W : Int) (l : List Int) (S : Nat → Bool) (k : Nat) : Int := if S k then -1 else (restOf W l k).2

/-- b is the greatest of the first j, the earliest of equal ones. -/
def BestTo (f : Nat → Int) (j b : Nat) : Prop := b < j ∧ ∀ q, q < j → f q ≤ f b ∧ (q < b → f q < f b)
theorem bestTo_one (f : Nat → Int) : BestTo f 1 0 := by
  refine ⟨by omega, fun q hq => ?_⟩
  obtain rfl : q = 0 := by omega
  exact ⟨Int.le_refl _, fun h => by omega⟩
theorem bestTo_keep {f : Nat → Int} {j b : Nat} (h : BestTo f j b) (hf : ¬ f b < f j) : BestTo f (j + 1) b :=
  ⟨by have := h.1; omega, fun q hq => by
    by_cases e : q = j
    · subst e; exact ⟨by omega, fun h2 => by have := h.1; omega⟩
    · exact h.2 q (by omega)⟩
theorem bestTo_take {f : Nat → Int} {j b : Nat} (h : BestTo f j b) (hf : f b < f j) : BestTo f (j + 1) j :=
  ⟨by omega, fun q hq => by
    by_cases e : q = j
    · subst e; exact ⟨Int.le_refl _, fun h2 => by omega⟩
    · have := (h.2 q (by omega)).1; exact ⟨by omega, fun _ => by omega⟩⟩
theorem bestTo_isBest {W : Int} {l : List Int} {n b i : Nat} {S : Nat → Bool} (hs : 0 < l.sum) (hT : Taken (restOf W l) n i S) (hi : i < n) (h : BestTo (cutOf W l S) n b) : IsBest (restOf W l) n S b := by
  have hex : ∃ k, k < n ∧ S k = false := by
    by_cases hall : ∃ k, k < n ∧ S k = false
    · exact hall
    · have hc := taken_count hT
      rw [sumN_congr (g := fun _ => 1) fun k hk => by
        cases e : S k
        · exact absurd ⟨k, hk, e⟩ hall
        · rfl, sumN_const] at hc
      omega
  obtain ⟨k, hk, hSk⟩ := hex
  have hb := h.2 k hk
  have hSb : S b = false := by
    cases e : S b
    · rfl
    · have h1 : cutOf W l S b = -1 := by simp [cutOf, e]
      have h2 : cutOf W l S k = (restOf W l k).2 := by simp [cutOf, hSk]
      have := (rest_bd (W := W) hs k).1
      omega
  refine ⟨h.1, hSb, fun j hj hSj => ?_⟩
  have h1 := h.2 j hj
  have e1 : cutOf W l S b = (restOf W l b).2 := by simp [cutOf, hSb]
  have e2 : cutOf W l S j = (restOf W l j).2 := by simp [cutOf, hSj]
  rw [e1, e2] at h1
  have f1 : (restOf W l j).1 = (j : Int) := rfl
  have f2 : (restOf W l b).1 = (b : Int) := rfl
  simp [restLt, f1, f2]
  omega

/-- Two rows of ints side by side. -/
def TwoRows (w : World) (o c n : Nat) (f g : Nat → Int) : Prop := NRow 3 .i64 w o n f ∧ NRow 3 .i64 w c n g ∧ o ≠ c
theorem TwoRows.left {w : World} {o c n : Nat} {f g : Nat → Int} (h : TwoRows w o c n f g) (i : Nat) (x : Int) : TwoRows (w.setCell ⟨o, i, none⟩ (.int .i64 x)) o c n (fun j => if j = i then x else f j) g :=
  ⟨h.1.set i x, h.2.1.kept (Below.heap_setCell _ _ _ _ (fun e => h.2.2 e.symm)), h.2.2⟩
theorem TwoRows.right {w : World} {o c n : Nat} {f g : Nat → Int} (h : TwoRows w o c n f g) (i : Nat) (x : Int) : TwoRows (w.setCell ⟨c, i, none⟩ (.int .i64 x)) o c n f (fun j => if j = i then x else g j) :=
  ⟨h.1.kept (Below.heap_setCell _ _ _ _ h.2.2), h.2.1.set i x, h.2.2⟩
theorem TwoRows.congr {w : World} {o c n : Nat} {f g f' g' : Nat → Int} (h : TwoRows w o c n f g) (e1 : ∀ j, j < n → f j = f' j) (e2 : ∀ j, j < n → g j = g' j) : TwoRows w o c n f' g' := ⟨h.1.congr e1, h.2.1.congr e2, h.2.2⟩
theorem TwoRows.drewN {w : World} {o c n : Nat} {f g : Nat → Int} (h : TwoRows w o c n f g) (k : Nat) : TwoRows (w.drewN k) o c n f g := h

/-- Behind k rounds of the loop that lays the shares. -/
def ShareRel (W : Int) (l : List Int) (n o c : Nat) (w0 : World) (k : Nat) (wr : World) : Prop :=
  TwoRows wr o c n (fun j => if j < k then shareOf W l j else 0) (fun j => if j < k then (restOf W l j).2 else 0) ∧ Below w0.heap.size w0 wr ∧ w0.heap.size ≤ o ∧ w0.heap.size ≤ c
/-- Behind i rounds of the loop that hands out what is left. -/
def HandRel (W : Int) (l : List Int) (n o c : Nat) (w0 : World) (i : Nat) (wr : World) : Prop :=
  ∃ S, Taken (restOf W l) n i S ∧ TwoRows wr o c n (partOf W l S) (cutOf W l S) ∧ Below w0.heap.size w0 wr ∧ w0.heap.size ≤ o ∧ w0.heap.size ≤ c

theorem upd_lt {f : Nat → Int} {n k : Nat} : ∀ j, j < n → (if j = k then f k else if j < k then f j else 0) = if j < k + 1 then f j else 0 := by
  intro j _
  by_cases e : j = k
  · subst e; simp
  · rw [if_neg e]
    by_cases h6 : j < k
    · rw [if_pos h6, if_pos (by omega)]
    · rw [if_neg h6, if_neg (by omega)]
theorem share_step {W : Int} {l : List Int} {n o c k t : Nat} {w0 wr : World} (h : ShareRel W l n o c w0 k wr) :
    ShareRel W l n o c w0 (k + 1) ((((wr.drewN t).setCell ⟨o, k, none⟩ (.int .i64 (shareOf W l k))).setCell ⟨c, k, none⟩ (.int .i64 (restOf W l k).2))) := by
  obtain ⟨h1, h2, h3, h4⟩ := h
  refine ⟨(((h1.drewN t).left k _).right k _).congr upd_lt upd_lt, ((below_drewN h2 t).setCell h3 _).setCell h4 _, h3, h4⟩
theorem ShareRel.drew {W : Int} {l : List Int} {n o c k : Nat} {w0 wr : World} (h : ShareRel W l n o c w0 k wr) : ShareRel W l n o c w0 k wr.drew := ⟨h.1, h.2.1.drew, h.2.2⟩
theorem HandRel.drewN {W : Int} {l : List Int} {n o c k : Nat} {w0 wr : World} (h : HandRel W l n o c w0 k wr) (t : Nat) : HandRel W l n o c w0 k (wr.drewN t) := by
  obtain ⟨S, h1, h2, h3, h4⟩ := h
  exact ⟨S, h1, h2, below_drewN h3 t, h4⟩
theorem hand_start {W : Int} {l : List Int} {n o c : Nat} {w0 wr : World} (h : ShareRel W l n o c w0 n wr) : HandRel W l n o c w0 0 wr := by
  obtain ⟨h1, h2, h3, h4⟩ := h
  refine ⟨fun _ => false, rfl, h1.congr (fun j hj => ?_) (fun j hj => ?_), h2, h3, h4⟩
  · simp [hj, partOf]
  · simp [hj, cutOf]
theorem hand_step {W : Int} {l : List Int} {n o c i b t : Nat} {w0 wr : World} {S : Nat → Bool} (hT : Taken (restOf W l) n i S) (hbest : IsBest (restOf W l) n S b) (h1 : TwoRows wr o c n (partOf W l S) (cutOf W l S))
    (h2 : Below w0.heap.size w0 wr) (h3 : w0.heap.size ≤ o) (h4 : w0.heap.size ≤ c) :
    HandRel W l n o c w0 (i + 1) ((((wr.drewN t).setCell ⟨o, b, none⟩ (.int .i64 (partOf W l S b + 1))).setCell ⟨c, b, none⟩ (.int .i64 (-1)))) := by
  refine ⟨fun k => S k || decide (k = b), ⟨S, b, hT, hbest, rfl⟩, (((h1.drewN t).left b _).right b _).congr (fun j _ => ?_) (fun j _ => ?_), ((below_drewN h2 t).setCell h3 _).setCell h4 _, h3, h4⟩
  · by_cases e : j = b
    · subst e; simp [partOf, hbest.2.1]
    · simp [partOf, e]
  · by_cases e : j = b
    · subst e; simp [cutOf]
    · simp [cutOf, e]
end Go.Proofs.YtjlokkjbdgcooaaGreat.Mo
