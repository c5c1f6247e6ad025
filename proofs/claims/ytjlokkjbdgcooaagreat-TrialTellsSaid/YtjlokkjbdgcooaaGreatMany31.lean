/-
  Several texts, one behind the other: what each holds stands ahead of it.
-/
import Derived.Test.YtjlokkjbdgcooaaGreatMany30
import Derived.Test.YtjlokkjbdgcooaaGreatMany29
import Derived.Test.YtjlokkjbdgcooaaGreatMany25
import Derived.Test.YtjlokkjbdgcooaaGreatMany24
import Derived.Test.YtjlokkjbdgcooaaGreatMany26

/-
  Balances of journals come to 0. No code.
-/
namespace Go.Proofs.YtjlokkjbdgcooaaGreat
open Mo
open Go.RowKit

theorem total_split (a : Int) : ∀ l : List Bal, (amts l).sum = sumB a l + (amts (l.filter fun x => x.acct != a)).sum
  | [] => by simp [amts, sumB]
  | x :: r => by
    have ih := total_split a r
    unfold amts at ih ⊢
    rw [List.filter_cons]
    by_cases h : x.acct = a
    · rw [if_neg (by simp [h])]
      simp only [List.map_cons, List.sum_cons, sumB, if_pos h, ih]
      omega
    · rw [if_pos (by simpa using h)]
      simp only [List.map_cons, List.sum_cons, sumB, if_neg h, ih]
      omega
theorem sumB_split (a b : Int) : ∀ l : List Bal, sumB b (l.filter fun x => x.acct != a) = if b = a then 0 else sumB b l
  | [] => by simp [sumB]
  | x :: r => by
    have ih := sumB_split a b r
    rw [List.filter_cons]
    by_cases h : x.acct = a
    · rw [if_neg (by simp [h]), ih]
      by_cases hb : b = a
      · rw [if_pos hb, if_pos hb]
      · rw [if_neg hb, if_neg hb]
        simp only [sumB]
        rw [if_neg (by omega)]
        omega
    · rw [if_pos (by simpa using h)]
      simp only [sumB, ih]
      by_cases hb : b = a
      · rw [if_pos hb, if_pos hb, if_neg (by omega)]
        rfl
      · rw [if_neg hb, if_neg hb]
theorem filter_lt {a : Int} {l : List Bal} (h : ∃ x ∈ l, x.acct = a) : (l.filter fun x => x.acct != a).length < l.length := by
  obtain ⟨y, hy, e⟩ := h
  exact List.length_filter_lt_length_iff_exists.2 ⟨y, hy, by simp [e]⟩
theorem total_eq : ∀ (n : Nat) (l R : List Bal), l.length + R.length ≤ n → (∀ a, sumB a l = sumB a R) → (amts l).sum = (amts R).sum
  | 0, l, R, hn, _ => by
    have h1 : l = [] := List.eq_nil_of_length_eq_zero (by omega)
    have h2 : R = [] := List.eq_nil_of_length_eq_zero (by omega)
    rw [h1, h2]
  | n + 1, l, R, hn, h => by
    by_cases hx : ∃ x, x ∈ l ∨ x ∈ R
    · obtain ⟨x, hx⟩ := hx
      rw [total_split x.acct l, total_split x.acct R, h]
      have ih := total_eq n (l.filter fun y => y.acct != x.acct) (R.filter fun y => y.acct != x.acct) (by
        have h1 := List.length_filter_le (fun y : Bal => y.acct != x.acct) l
        have h2 := List.length_filter_le (fun y : Bal => y.acct != x.acct) R
        rcases hx with hx | hx
        · have := filter_lt (l := l) (a := x.acct) ⟨x, hx, rfl⟩
          omega
        · have := filter_lt (l := R) (a := x.acct) ⟨x, hx, rfl⟩
          omega) (fun a => by rw [sumB_split, sumB_split, h])
      rw [ih]
    · have h1 : l = [] := List.eq_nil_iff_forall_not_mem.2 fun x hm => hx ⟨x, .inl hm⟩
      have h2 : R = [] := List.eq_nil_iff_forall_not_mem.2 fun x hm => hx ⟨x, .inr hm⟩
      rw [h1, h2]
theorem PlusOf.total {l R : List Bal} (h : PlusOf l R) : (amts R).sum = (amts l).sum := (total_eq _ l R (Nat.le_refl _) fun a => (h.sum a).symm).symm
/-- What comes together fits, where it may be. -/
theorem PlusOf.fits {l R : List Bal} (h : PlusOf l R) (hp : plusB l = true) : fitsAll (amts R) = true := by
  rw [fitsAll_iff]
  intro y hy
  obtain ⟨x, hx, rfl⟩ := List.mem_map.1 hy
  obtain ⟨z, hz, e⟩ := h.from_ x hx
  have h1 := (plusB_iff.1 hp z hz).2
  rw [e, ((h.mem x).1 hx).1] at h1
  exact h1
theorem foldl_amt : ∀ (l : List Lin) (a : Int), l.foldl (fun n x => n + x.amt) a = a + (l.map Lin.amt).sum
  | [], a => by simp
  | x :: r, a => by
    rw [List.foldl_cons, foldl_amt r, List.map_cons, List.sum_cons]
    omega
theorem amts_balsOf (l : List Lin) : amts (balsOf l) = l.map Lin.amt := by
  unfold amts balsOf
  rw [List.map_map]
  rfl
/-- The lines of journals that may be come to 0. -/
theorem gath_total (o : OfT) : ∀ {M : List Jrn}, (∀ j ∈ M, checkE j = 0) → (amts (balsOf (gathL (pkL o) M))).sum = 0
  | [], _ => rfl
  | j :: r, h => by
    have ih := gath_total o fun i hi => h i (List.mem_cons_of_mem _ hi)
    have h0 := (checkE_ok (h j (List.mem_cons_self ..))).2.2.2
    unfold sumA at h0
    rw [foldl_amt] at h0
    rw [amts_balsOf] at ih ⊢
    unfold gathL at ih ⊢
    rw [List.flatMap_cons, List.map_append, List.sum_append, ih]
    unfold pkL
    split
    · omega
    · rfl
/-- Sum of what Balances gave. -/
theorem sum_zero {o : OfT} {M : List Jrn} {R : List Bal} (h : ∀ j ∈ M, checkE j = 0) (hR : PlusOf (balsOf (gathL (pkL o) M)) R) (hp : plusB (balsOf (gathL (pkL o) M)) = true) : Mo.addV (amts R) = 0 ∧ Mo.addE (amts R) = 0 := by
  have h1 := hR.total
  rw [gath_total o h] at h1
  have h2 := hR.fits hp
  unfold Mo.addV Mo.addE
  rw [h1, h2]
  exact ⟨rfl, rfl⟩
end Go.Proofs.YtjlokkjbdgcooaaGreat

/-
  Some periods and those behind them: their sums together. No code.
-/
namespace Go.Proofs.YtjlokkjbdgcooaaGreat
open Go.RowKit
open Mo

theorem sumB_balsOf_append (a : Int) (l m : List Lin) : sumB a (balsOf (l ++ m)) = sumB a (balsOf l) + sumB a (balsOf m) := by
  unfold balsOf
  rw [List.map_append, sumB_append]
theorem sum_parts (ent frm mid til : Int) (h1 : frm ≤ mid) (h2 : mid < til) (a : Int) : ∀ M : List Jrn,
    sumB a (balsOf (gathL (pkL ⟨ent, frm, mid⟩) M)) + sumB a (balsOf (gathL (pkL ⟨ent, mid + 1, til⟩) M)) = sumB a (balsOf (gathL (pkL ⟨ent, frm, til⟩) M))
  | [] => rfl
  | j :: r => by
    have ih := sum_parts ent frm mid til h1 h2 a r
    unfold gathL at ih ⊢
    rw [List.flatMap_cons, List.flatMap_cons, List.flatMap_cons, sumB_balsOf_append, sumB_balsOf_append, sumB_balsOf_append, ← ih]
    have hj : sumB a (balsOf (pkL ⟨ent, frm, mid⟩ j)) + sumB a (balsOf (pkL ⟨ent, mid + 1, til⟩ j)) = sumB a (balsOf (pkL ⟨ent, frm, til⟩ j)) := by
      unfold pkL covO
      dsimp only
      by_cases e0 : (!j.void && decide (j.ent = ent)) = true
      · rw [e0]
        simp only [Bool.true_and, Bool.and_eq_true, decide_eq_true_eq]
        by_cases e1 : frm ≤ j.per
        · by_cases e2 : j.per ≤ mid
          · rw [if_pos ⟨e1, e2⟩, if_neg (by omega), if_pos ⟨e1, by omega⟩]
            simp [balsOf, sumB]
          · by_cases e3 : j.per ≤ til
            · rw [if_neg (by omega), if_pos ⟨by omega, e3⟩, if_pos ⟨e1, e3⟩]
              simp [balsOf, sumB]
            · rw [if_neg (by omega), if_neg (by omega), if_neg (by omega)]
              simp [balsOf, sumB]
        · rw [if_neg (by omega), if_neg (by omega), if_neg (by omega)]
          simp [balsOf, sumB]
      · rw [Bool.not_eq_true] at e0
        rw [e0]
        simp [balsOf, sumB]
    omega
theorem sub_parts {ent frm mid til : Int} {M : List Jrn} (h1 : frm ≤ mid) (h2 : mid < til) : (∀ x ∈ gathL (pkL ⟨ent, frm, mid⟩) M, x ∈ gathL (pkL ⟨ent, frm, til⟩) M) ∧ (∀ x ∈ gathL (pkL ⟨ent, mid + 1, til⟩) M, x ∈ gathL (pkL ⟨ent, frm, til⟩) M) := by
  constructor
  · intro x hx
    obtain ⟨j, hj, hxj⟩ := List.mem_flatMap.1 hx
    refine List.mem_flatMap.2 ⟨j, hj, ?_⟩
    unfold pkL at hxj ⊢
    split at hxj
    · rename_i hc
      unfold covO at hc ⊢
      simp only [Bool.and_eq_true, decide_eq_true_eq] at hc
      rw [if_pos (by simp only [Bool.and_eq_true, decide_eq_true_eq]; exact ⟨⟨⟨hc.1.1.1, hc.1.1.2⟩, hc.1.2⟩, by omega⟩)]
      exact hxj
    · cases hxj
  · intro x hx
    obtain ⟨j, hj, hxj⟩ := List.mem_flatMap.1 hx
    refine List.mem_flatMap.2 ⟨j, hj, ?_⟩
    unfold pkL at hxj ⊢
    split at hxj
    · rename_i hc
      unfold covO at hc ⊢
      simp only [Bool.and_eq_true, decide_eq_true_eq] at hc
      rw [if_pos (by simp only [Bool.and_eq_true, decide_eq_true_eq]; exact ⟨⟨⟨hc.1.1.1, hc.1.1.2⟩, by omega⟩, hc.2⟩)]
      exact hxj
    · cases hxj
theorem balE_zero {o : OfT} {M : List Jrn} (h : balE o M = 0) : mayO o = true ∧ plusB (balsOf (gathL (pkL o) M)) = true := by
  unfold balE at h
  split at h
  · rename_i h1
    split at h
    · rename_i h2
      exact ⟨h1, h2⟩
    · cases h
  · cases h
theorem balsOf_mem {l : List Lin} {y : Bal} (h : y ∈ balsOf l) : ∃ x ∈ l, balOf x = y := List.mem_map.1 h
/-- Both together fit, where the whole does. -/
theorem plusB_parts {ent frm mid til : Int} {M : List Jrn} {X Y : List Bal} (h1 : frm ≤ mid) (h2 : mid < til) (e1 : balE ⟨ent, frm, mid⟩ M = 0) (e2 : balE ⟨ent, mid + 1, til⟩ M = 0) (e3 : balE ⟨ent, frm, til⟩ M = 0)
    (hX : PlusOf (balsOf (gathL (pkL ⟨ent, frm, mid⟩) M)) X) (hY : PlusOf (balsOf (gathL (pkL ⟨ent, mid + 1, til⟩) M)) Y) : plusB (X ++ Y) = true ∧ ∀ a, sumB a (X ++ Y) = sumB a (balsOf (gathL (pkL ⟨ent, frm, til⟩) M)) := by
  have hs : ∀ a, sumB a (X ++ Y) = sumB a (balsOf (gathL (pkL ⟨ent, frm, til⟩) M)) := fun a => by rw [sumB_append, hX.sum, hY.sum, sum_parts ent frm mid til h1 h2]
  have p1 := plusB_iff.1 (balE_zero e1).2
  have p2 := plusB_iff.1 (balE_zero e2).2
  have p3 := plusB_iff.1 (balE_zero e3).2
  obtain ⟨s1, s2⟩ := sub_parts (ent := ent) (M := M) h1 h2
  refine ⟨plusB_iff.2 fun x hx => ?_, hs⟩
  rw [hs]
  rcases List.mem_append.1 hx with hx | hx
  · obtain ⟨y, hy, e⟩ := hX.from_ x hx
    have hm := (hX.mem x).1 hx
    obtain ⟨z, hz, rfl⟩ := balsOf_mem hy
    refine ⟨by rw [← hm.1, ← e]; exact (p1 _ hy).2, ?_⟩
    rw [← e]
    exact (p3 (balOf z) (List.mem_map_of_mem (s1 z hz))).2
  · obtain ⟨y, hy, e⟩ := hY.from_ x hx
    have hm := (hY.mem x).1 hx
    obtain ⟨z, hz, rfl⟩ := balsOf_mem hy
    refine ⟨by rw [← hm.1, ← e]; exact (p2 _ hy).2, ?_⟩
    rw [← e]
    exact (p3 (balOf z) (List.mem_map_of_mem (s2 z hz))).2
end Go.Proofs.YtjlokkjbdgcooaaGreat

/-
  Contract of chart.New.
-/
namespace Go.Proofs.YtjlokkjbdgcooaaGreat
open Go.RowKit

/-- Accounts added one behind the other, till one has an error. -/
def newR (l : List Acc) : List Acc → List Acc × Int
  | [] => (l, 0)
  | a :: r => if addE l a = 0 then newR (insA l a) r else (l, addE l a)
def newE (xs0 : List Acc) : Int := (newR [] xs0).2
def newL (xs0 : List Acc) : List Acc := (newR [] xs0).1
theorem newR_append : ∀ (xs l ys : List Acc), newR l (xs ++ ys) = if (newR l xs).2 = 0 then newR (newR l xs).1 ys else newR l xs
  | [], l, ys => by simp [newR]
  | a :: xs, l, ys => by
    rw [List.cons_append, newR, newR]
    by_cases h : addE l a = 0
    · rw [if_pos h, if_pos h, newR_append xs]
    · rw [if_neg h, if_neg h, if_neg h]
theorem newR_good : ∀ (xs l : List Acc), GoodA l → GoodA (newR l xs).1
  | [], l, h => h
  | a :: xs, l, h => by
    rw [newR]
    by_cases h0 : addE l a = 0
    · rw [if_pos h0]
      obtain ⟨h1, h2⟩ := addE_ok h0
      exact newR_good xs _ (h.ins h1 h2)
    · rw [if_neg h0]; exact h
theorem newL_good (xs0 : List Acc) : GoodA (newL xs0) := newR_good xs0 [] GoodA.nil
theorem new_step {xs0 : List Acc} {j : Nat} {a : Acc} (ha : xs0[j]? = some a) (h0' : newE (xs0.take j) = 0) :
    (addE (newL (xs0.take j)) a = 0 → newE (xs0.take (j + 1)) = 0 ∧ newL (xs0.take (j + 1)) = addL (newL (xs0.take j)) a) ∧ (addE (newL (xs0.take j)) a ≠ 0 → newE xs0 = addE (newL (xs0.take j)) a) := by
  obtain ⟨hl, rfl⟩ := List.getElem?_eq_some_iff.1 ha
  have h0 : (newR [] (xs0.take j)).2 = 0 := h0'
  have h1 : newR [] (xs0.take (j + 1)) = newR (newL (xs0.take j)) [xs0[j]] := by
    rw [List.take_succ_eq_append_getElem hl, newR_append, if_pos h0]; rfl
  constructor
  · intro h
    unfold newE
    rw [show newL (xs0.take (j + 1)) = (newR [] (xs0.take (j + 1))).1 from rfl, h1]
    simp [newR, h, addL]
  · intro h
    have h2 : newR [] xs0 = newR (newL (xs0.take j)) (xs0[j] :: xs0.drop (j + 1)) := by
      conv => lhs; rw [← List.take_append_drop j xs0, newR_append, if_pos h0, List.drop_eq_getElem_cons hl]
      rfl
    unfold newE
    rw [h2, newR, if_neg h]

/-- What New answers. -/
def NewPost (w : World) (xs0 : List Acc) (e : Ending) (w' : World) : Prop :=
  Below w.heap.size w w' ∧ ((newE xs0 ≠ 0 ∧ e = .returned (.tuple #[.pointer none, .int .i64 (newE xs0)])) ∨
    (newE xs0 = 0 ∧ e = .returned (.tuple #[.pointer (some ⟨w.heap.size, 0, none⟩), .int .i64 0]) ∧ ∃ v, ChartAt w' w.heap.size w.heap.size v (newL xs0)))

/-- What stands at the loop's head. -/
def NewRel (w : World) (xs0 : List Acc) (j : Nat) (wr : World) : Prop :=
  newE (xs0.take j) = 0 ∧ Below w.heap.size w wr ∧ ∃ v, ChartAt wr w.heap.size w.heap.size v (newL (xs0.take j))

set_option maxRecDepth 100000 in
set_option maxHeartbeats 1000000 in
theorem new_any (xs0 : List Acc) (A : Option Addr) (n c B : Nat) (w : World) (h : Rd w B 3 A n (accs xs0)) (hB : B ≤ w.heap.size) (hn : n ≤ 1000000) :
    Calls Tryz.prog 167 #[.slice A n c] w (NewPost w xs0) := by
  have HL := Lib.hid h.accs_len
  have HR := Lib.hid h
  have HC0 : Hid (ChartAt (w.alloc (.cells #[.slice none 0 0] 275)) w.heap.size w.heap.size (.slice none 0 0) []) := ⟨heap_new _ _, Nat.le_refl _, World.ownsRow_nil _ _ _ _, GoodA.nil⟩
  clear h
  go_enter Tryz.func167, Tryz.ntmps167
  go_wp2_with fail
  go_loopw [11] (fun iv wr => ∃ j : Nat, j ≤ n ∧ iv = .int .i64 j ∧ NewRel w xs0 j wr) (fun iv _ => n - (intOf iv).toNat)
  case atStart => exact ⟨0, Nat.zero_le _, rfl, rfl, (Below.refl _ _).alloc (Nat.le_refl _) _, _, HC0.out⟩
  case round =>
    obtain ⟨j, hj, rfl, h0, hbel, v, hch⟩ := hrel
    have hzr := hbel.size
    have hclt := hch.lt
    have HCH := Lib.hid hch
    have H0 := Lib.hid h0
    have HBEL := Lib.hid hbel
    have HRr := Lib.hid (HR.out.below (hbel.mono hB))
    clear hch h0 hbel HC0
    by_cases hlt : j < n
    · obtain ⟨ad, a, rfl, hb1, hx, p1, p2, p3⟩ := HRr.out.acc hlt
      have p2' := cell_behind p2 (by omega)
      have p3' := cell_behind p3 (by omega)
      have HST := Lib.hid (new_step hx H0.out)
      have hjn : (j : Int) < (n : Int) := by omega
      obtain ⟨x1, x2, x3⟩ := a
      have kp := fun (w2 : World) (hb : Below wr.heap.size wr w2) => put_any w.heap.size w.heap.size v _ ⟨x1, x2, x3⟩ w2 (HCH.out.below hb)
      have KP := Lib.hid kp
      clear kp p2 p3 hx
      generalize hE : addE (newL (xs0.take j)) ⟨x1, x2, x3⟩ = E at *
      clear hE
      go_wp2_with fail
      refine (KP.out _ (by first | exact ((Below.refl _ _).alloc (Nat.le_refl _) _) | exact ((((Below.refl _ _).alloc (Nat.le_refl _) _).setCell (by simp) _).setCell (by simp) _).setCell (by simp) _)).mono ?_
      rintro e w2 ⟨rfl, v2, hch2, hbut, _⟩
      have HB2 : Hid (Below w.heap.size w w2) := (HBEL.out.trans (Below.mono (B := wr.heap.size) (by first | exact ((Below.refl _ _).alloc (Nat.le_refl _) _) | exact ((((Below.refl _ _).alloc (Nat.le_refl _) _).setCell (by simp) _).setCell (by simp) _).setCell (by simp) _) hzr)).trans (hbut.below (fun k _ hk => HCH.out.ge k hk) (by simp; omega))
      have HCH2 := Lib.hid hch2
      clear hch2 hbut
      by_cases h0 : E = 0
      · subst h0
        have HST2 := Lib.hid (HST.out.1 (by first | rfl | trivial))
        go_wp2
        exact ⟨⟨j + 1, by omega, by go_num, HST2.out.1, HB2.out, v2, by rw [HST2.out.2]; exact HCH2.out⟩, by simp [intOf]; omega⟩
      · have HST2 := Lib.hid (HST.out.2 h0)
        have h0' : (E == 0) = false := by simp [h0]
        have h0'' : (E != 0) = true := by simp [h0]
        go_wp2
        go_ret2
        exact ⟨HB2.out, .inl ⟨by rw [HST2.out]; exact h0, by rw [HST2.out]; rfl⟩⟩
    · obtain rfl : j = n := by omega
      have HE : Hid (newE xs0 = 0 ∧ newL xs0 = newL (xs0.take j)) := by
        have h1 : xs0.take j = xs0 := List.take_of_length_le (by have := HL.out; omega)
        have := H0.out
        rw [h1] at this ⊢
        exact ⟨this, rfl⟩
      go_wp2
      go_ret2
      exact ⟨HBEL.out, .inr ⟨HE.out.1, rfl, v, by rw [HE.out.2]; exact HCH.out⟩⟩
end Go.Proofs.YtjlokkjbdgcooaaGreat

/-
  Contract of the reference's Row.
-/
namespace Go.Proofs.YtjlokkjbdgcooaaGreat
open Go.RowKit

set_option maxRecDepth 100000 in
theorem refRow_any (x k : Int) (w : World) : Calls Tryz.prog 164 #[.int .i64 x, .int .i64 k] w fun e w' => e = .returned (.bool (okRow x k)) ∧ w = w' := by
  by_cases h1 : 1 ≤ x
  · by_cases h2 : x ≤ 9999
    · by_cases h3 : 1 ≤ k
      · by_cases h4 : k ≤ 5
        · have HO : Hid (okRow x k = true) := by simp [okRow, Hid, h1, h2, h3, h4]
          go_enter Tryz.func164, Tryz.ntmps164
          go_wp2
          go_ret
          exact ⟨ret_bool (by rw [HO.out]; try simp [h4]), rfl⟩
        · have HO : Hid (okRow x k = false) := by simp [okRow, Hid]; omega
          go_enter Tryz.func164, Tryz.ntmps164
          go_wp2
          go_ret
          exact ⟨ret_bool (by rw [HO.out]; try simp [h4]), rfl⟩
      · have HO : Hid (okRow x k = false) := by simp [okRow, Hid]; omega
        go_enter Tryz.func164, Tryz.ntmps164
        go_wp2
        go_ret
        exact ⟨ret_bool HO.out.symm, rfl⟩
    · have HO : Hid (okRow x k = false) := by simp [okRow, Hid]; omega
      go_enter Tryz.func164, Tryz.ntmps164
      go_wp2
      go_ret
      exact ⟨ret_bool HO.out.symm, rfl⟩
  · have HO : Hid (okRow x k = false) := by simp [okRow, Hid]; omega
    go_enter Tryz.func164, Tryz.ntmps164
    go_wp2
    go_ret
    exact ⟨ret_bool HO.out.symm, rfl⟩
end Go.Proofs.YtjlokkjbdgcooaaGreat

/-
  Contracts of the reference's Account, Live, AddAccount.
-/
namespace Go.Proofs.YtjlokkjbdgcooaaGreat
open Go.RowKit

theorem find_stepCh {l : List Acc} {j : Nat} {a : Acc} {x : Int} (ha : l[j]? = some a) (h0 : findA (l.take j) x = none) :
    (a.code = x → findA l x = some a) ∧ (a.code ≠ x → findA (l.take (j + 1)) x = none) := by
  obtain ⟨hl, rfl⟩ := List.getElem?_eq_some_iff.1 ha
  constructor
  · intro h
    unfold findA at *
    conv => lhs; rw [← List.take_append_drop j l, List.find?_append, h0, List.drop_eq_getElem_cons hl, List.find?_cons]
    simp [h]
  · intro h
    unfold findA at *
    rw [List.take_succ_eq_append_getElem hl, List.find?_append, h0]
    simp [h]

set_option maxRecDepth 100000 in
set_option maxHeartbeats 1000000 in
theorem refAccount_any (l : List Acc) (x : Int) (A : Option Addr) (n c B : Nat) (w : World) (h : Rd w B 3 A n (accs l)) (hB : B ≤ w.heap.size) (hn : n ≤ 1000000) :
    Calls Tryz.prog 177 #[.slice A n c, .int .i64 x] w fun e w' => e = .returned (getV l x) ∧ Below w.heap.size w w' := by
  have HL := Lib.hid h.accs_len
  have HR := Lib.hid (h.below (Below.mono (B := w.heap.size) ((Below.refl _ w).alloc (Nat.le_refl _) (.cells #[.int .i64 0, .int .i64 0, .bool false] 165)) hB))
  clear h
  go_enter Tryz.func177, Tryz.ntmps177
  go_wp2_with fail
  go_loopw [6] (fun iv wr => ∃ j : Nat, j ≤ n ∧ iv = .int .i64 j ∧ Hid (findA (l.take j) x = none) ∧ wr = w.alloc (.cells #[.int .i64 0, .int .i64 0, .bool false] 165)) (fun iv _ => n - (intOf iv).toNat)
  case atStart => exact ⟨0, Nat.zero_le _, rfl, rfl, rfl⟩
  case round =>
    obtain ⟨j, hj, rfl, h0, rfl⟩ := hrel
    by_cases hlt : j < n
    · obtain ⟨ad, a, rfl, hb1, hx, p1, p2, p3⟩ := HR.out.acc hlt
      have p2' := cell_behind p2 (by omega)
      have p3' := cell_behind p3 (by omega)
      have HST := Lib.hid (find_stepCh hx h0.out)
      have hjn : (j : Int) < (n : Int) := by omega
      clear hx p2 p3
      obtain ⟨x1, x2, x3⟩ := a
      by_cases he : x1 = x
      · subst he
        have HF := Lib.hid (HST.out.1 rfl)
        go_wp2
        refine bodyPost_ret (v := .tuple #[.agg #[.int .i64 x1, .int .i64 x2, .bool x3], .bool true]) (by simp [results, Tryz.results177, go_sem]) rfl ⟨?_, ?_⟩
        · unfold getV; rw [HF.out]; rfl
        · first | exact (Below.refl _ _).alloc (Nat.le_refl _) _ | exact ((((Below.refl _ _).alloc (Nat.le_refl _) _).setCell (by simp) _).setCell (by simp) _).setCell (by simp) _
      · have HF := Lib.hid (HST.out.2 he)
        have he' : (x1 == x) = false := by simp [he]
        go_wp2
        exact ⟨⟨j + 1, by omega, by go_num, HF.out, by first | rfl | trivial⟩, by simp [intOf]; omega⟩
    · obtain rfl : j = n := by omega
      have HF : Hid (findA l x = none) := by
        have := h0.out
        rwa [List.take_of_length_le (by have := HL.out; omega)] at this
      go_wp2
      refine bodyPost_ret (v := .tuple #[.agg #[.int .i64 0, .int .i64 0, .bool false], .bool false]) (by simp [results, Tryz.results177, go_sem]) rfl ⟨?_, ?_⟩
      · unfold getV; rw [HF.out]; rfl
      · first | exact (Below.refl _ _).alloc (Nat.le_refl _) _ | exact ((((Below.refl _ _).alloc (Nat.le_refl _) _).setCell (by simp) _).setCell (by simp) _).setCell (by simp) _

end Go.Proofs.YtjlokkjbdgcooaaGreat
