/-
  Several texts, one behind the other: what each holds stands ahead of it.
-/
import Derived.Test.YtjlokkjbdgcooaaGreatMany3
import Derived.Test.YtjlokkjbdgcooaaGreatMany28
import Derived.Test.YtjlokkjbdgcooaaGreatMany21
import Derived.Test.YtjlokkjbdgcooaaGreatMany27

/-
  What a journal that may be keeps. No code.
-/
namespace Go.Proofs.YtjlokkjbdgcooaaGreat
open Go.RowKit

theorem checkE_ok {j : Jrn} (h : checkE j = 0) : frontOk j = true ∧ linesOk j = true ∧ fitsL j.lines = true ∧ sumA j.lines = 0 := by
  unfold checkE at h
  split at h
  · rename_i h1
    rw [Bool.and_eq_true] at h1
    split at h
    · rename_i h2
      split at h
      · exact ⟨h1.1, h1.2, h2, by assumption⟩
      · cases h
    · cases h
  · cases h
end Go.Proofs.YtjlokkjbdgcooaaGreat

/-
  What the reference of chapter 10 puts together is what comes together. No code.
-/
namespace Go.Proofs.YtjlokkjbdgcooaaGreat
open Mo
open Go.RowKit

def putF (acc : List Bal) (l : List Bal) : List Bal := l.foldl (fun acc b => putM acc b.acct b.amt) acc
def putsM (l : List Bal) : List Bal := putF [] l
theorem putsM_step {l : List Bal} {k : Nat} {b : Bal} (h : l[k]? = some b) : putsM (l.take (k + 1)) = putM (putsM (l.take k)) b.acct b.amt := by
  obtain ⟨hk, rfl⟩ := List.getElem?_eq_some_iff.1 h
  unfold putsM putF
  rw [List.take_succ_eq_append_getElem hk, List.foldl_append]
  rfl
theorem putF_sum (c : Int) : ∀ (l acc : List Bal), sumB c (putF acc l) = sumB c acc + sumB c l
  | [], acc => by simp [putF, sumB]
  | b :: r, acc => by
    have ih := putF_sum c r (putM acc b.acct b.amt)
    unfold putF at ih ⊢
    rw [List.foldl_cons, ih, putM_sum]
    simp only [sumB]
    omega
theorem putF_rise : ∀ (l acc : List Bal), (acc.Pairwise fun p q => p.acct < q.acct) → (putF acc l).Pairwise fun p q => p.acct < q.acct
  | [], _, h => h
  | b :: r, acc, h => putF_rise r (putM acc b.acct b.amt) (putM_rise _ _ h)
theorem putF_len : ∀ (l acc : List Bal), (putF acc l).length ≤ acc.length + l.length
  | [], acc => Nat.le_refl _
  | b :: r, acc => by
    have h1 := putF_len r (putM acc b.acct b.amt)
    have h2 := putM_len acc b.acct b.amt
    unfold putF at h1 ⊢
    rw [List.foldl_cons, List.length_cons]
    omega
theorem putM_has : ∀ (l : List Bal) (a x : Int), ∃ y ∈ putM l a x, y.acct = a
  | [], a, x => ⟨⟨a, x⟩, by simp [putM], rfl⟩
  | b :: r, a, x => by
    obtain ⟨y, hy, e⟩ := putM_has r a x
    unfold putM
    split
    · rename_i h1
      exact ⟨_, List.mem_cons_self .., h1⟩
    · split
      · exact ⟨_, List.mem_cons_self .., rfl⟩
      · exact ⟨y, List.mem_cons_of_mem _ hy, e⟩
theorem putM_keeps : ∀ {l : List Bal} {a x : Int} {z : Bal}, z ∈ l → ∃ y ∈ putM l a x, y.acct = z.acct
  | b :: r, a, x, z, h => by
    unfold putM
    rcases List.mem_cons.1 h with rfl | h
    · split
      · exact ⟨_, List.mem_cons_self .., rfl⟩
      · split
        · exact ⟨_, List.mem_cons_of_mem _ (List.mem_cons_self ..), rfl⟩
        · exact ⟨_, List.mem_cons_self .., rfl⟩
    · split
      · exact ⟨z, List.mem_cons_of_mem _ h, rfl⟩
      · split
        · exact ⟨z, List.mem_cons_of_mem _ (List.mem_cons_of_mem _ h), rfl⟩
        · obtain ⟨y, hy, e⟩ := putM_keeps (a := a) (x := x) h
          exact ⟨y, List.mem_cons_of_mem _ hy, e⟩
theorem putF_has : ∀ (l acc : List Bal) (c : Int), ((∃ z ∈ acc, z.acct = c) ∨ ∃ z ∈ l, z.acct = c) → ∃ y ∈ putF acc l, y.acct = c
  | [], acc, c, h => by
    rcases h with h | ⟨z, hz, _⟩
    · exact h
    · cases hz
  | b :: r, acc, c, h => by
    refine putF_has r (putM acc b.acct b.amt) c ?_
    rcases h with ⟨z, hz, rfl⟩ | ⟨z, hz, rfl⟩
    · exact .inl (putM_keeps hz)
    · rcases List.mem_cons.1 hz with rfl | hz
      · exact .inl (putM_has _ _ _)
      · exact .inr ⟨z, hz, rfl⟩
theorem putsM_sum (c : Int) (l : List Bal) : sumB c (putsM l) = sumB c l := by unfold putsM; rw [putF_sum]; simp [sumB]
theorem putsM_rise (l : List Bal) : (putsM l).Pairwise fun p q => p.acct < q.acct := putF_rise l [] List.Pairwise.nil
theorem putsM_len (l : List Bal) : (putsM l).length ≤ l.length := by
  have := putF_len l []
  show (putF [] l).length ≤ _
  simpa using this
theorem putsM_amt {l : List Bal} {b : Bal} (h : b ∈ putsM l) : b.amt = sumB b.acct l := by rw [← putsM_sum, sumB_rise (putsM_rise l) b h]
theorem sumB_bound (c : Int) : ∀ {l : List Bal}, (∀ x ∈ l, fits1 x.amt = true) → -1000000000000000 * (l.length : Int) ≤ sumB c l ∧ sumB c l ≤ 1000000000000000 * (l.length : Int)
  | [], _ => by simp [sumB]
  | x :: r, h => by
    have ih := sumB_bound c fun y hy => h y (List.mem_cons_of_mem _ hy)
    have h1 := h x (List.mem_cons_self ..)
    unfold fits1 at h1
    simp only [decide_eq_true_eq] at h1
    simp only [sumB, List.length_cons]
    split <;> omega
theorem putsM_bound {l : List Bal} (h : ∀ x ∈ l, fits1 x.amt = true) (hl : l.length ≤ 1000) : ∀ b ∈ putsM l, -4000000000000000000 ≤ b.amt ∧ b.amt ≤ 4000000000000000000 := fun b hb => by
  have := sumB_bound b.acct h
  rw [putsM_amt hb]
  omega
theorem putsM_fits {l : List Bal} (h : ∀ x ∈ l, fits1 x.amt = true) : ((putsM l).all fun x => fits1 x.amt) = plusB l := by
  rw [Bool.eq_iff_iff, plusB_iff, List.all_eq_true]
  constructor
  · intro hp x hx
    refine ⟨h x hx, ?_⟩
    obtain ⟨y, hy, e⟩ := putF_has l [] x.acct (.inr ⟨x, hx, rfl⟩)
    have h1 := hp y hy
    rw [putsM_amt hy, e] at h1
    exact h1
  · intro hp b hb
    rw [putsM_amt hb]
    by_cases hx : ∃ x ∈ l, x.acct = b.acct
    · obtain ⟨x, hx, e⟩ := hx
      rw [← e]
      exact (hp x hx).2
    · rw [sumB_out fun x hm e => hx ⟨x, hm, e⟩]
      rfl
theorem sumB_nz (c : Int) : ∀ l : List Bal, sumB c (l.filter fun x => x.amt != 0) = sumB c l
  | [] => rfl
  | x :: r => by
    have ih := sumB_nz c r
    rw [List.filter_cons]
    by_cases h : x.amt = 0
    · rw [if_neg (by simp [h]), ih]
      simp only [sumB, h]
      split <;> omega
    · rw [if_pos (by simpa using h)]
      simp only [sumB, ih]
theorem putsM_plus (l : List Bal) : PlusOf l ((putsM l).filter fun x => x.amt != 0) :=
  ⟨(putsM_rise l).sublist List.filter_sublist, fun x hx => by simpa using (List.mem_filter.1 hx).2, fun a => by rw [sumB_nz, putsM_sum]⟩
/-- The lines of journals that may be fit. -/
theorem gath_fitsB {o : OfT} {M : List Jrn} (h : ∀ j ∈ M, checkE j = 0) : ∀ x ∈ balsOf (gathL (pkL o) M), fits1 x.amt = true := fun x hx => by
  obtain ⟨y, hy, rfl⟩ := List.mem_map.1 hx
  obtain ⟨j, hj, hyj⟩ := List.mem_flatMap.1 hy
  have hf := (checkE_ok (h j hj)).2.2.1
  unfold fitsL at hf
  rw [List.all_eq_true] at hf
  unfold pkL at hyj
  split at hyj
  · exact hf y hyj
  · cases hyj
end Go.Proofs.YtjlokkjbdgcooaaGreat

/-
  Balances of journals come to 0. No code.
-/
namespace Go.Proofs.YtjlokkjbdgcooaaGreat
open Mo
open Go.RowKit

theorem total_split (a : Int) : ∀ l : List Bal, (amts l).sum = sumB a l + (amts (l.filter fun x => x.acct != a)).sum
  | [] => by simp [amts, sumB]
  | x :: r => by
    have ih := total_split a r
    unfold amts at ih ⊢
    rw [List.filter_cons]
    by_cases h : x.acct = a
    · rw [if_neg (by simp [h])]
      simp only [List.map_cons, List.sum_cons, sumB, if_pos h, ih]
      omega
    · rw [if_pos (by simpa using h)]
      simp only [List.map_cons, List.sum_cons, sumB, if_neg h, ih]
      omega
theorem sumB_split (a b : Int) : ∀ l : List Bal, sumB b (l.filter fun x => x.acct != a) = if b = a then 0 else sumB b l
  | [] => by simp [sumB]
  | x :: r => by
    have ih := sumB_split a b r
    rw [List.filter_cons]
    by_cases h : x.acct = a
    · rw [if_neg (by simp [h]), ih]
      by_cases hb : b = a
      · rw [if_pos hb, if_pos hb]
      · rw [if_neg hb, if_neg hb]
        simp only [sumB]
        rw [if_neg (by omega)]
        omega
    · rw [if_pos (by simpa using h)]
      simp only [sumB, ih]
      by_cases hb : b = a
      · rw [if_pos hb, if_pos hb, if_neg (by omega)]
        rfl
      · rw [if_neg hb, if_neg hb]
theorem filter_lt {a : Int} {l : List Bal} (h : ∃ x ∈ l, x.acct = a) : (l.filter fun x => x.acct != a).length < l.length := by
  obtain ⟨y, hy, e⟩ := h
  exact List.length_filter_lt_length_iff_exists.2 ⟨y, hy, by simp [e]⟩
theorem total_eq : ∀ (n : Nat) (l R : List Bal), l.length + R.length ≤ n → (∀ a, sumB a l = sumB a R) → (amts l).sum = (amts R).sum
  | 0, l, R, hn, _ => by
    have h1 : l = [] := List.eq_nil_of_length_eq_zero (by omega)
    have h2 : R = [] := List.eq_nil_of_length_eq_zero (by omega)
    rw [h1, h2]
  | n + 1, l, R, hn, h => by
    by_cases hx : ∃ x, x ∈ l ∨ x ∈ R
    · obtain ⟨x, hx⟩ := hx
      rw [total_split x.acct l, total_split x.acct R, h]
      have ih := total_eq n (l.filter fun y => y.acct != x.acct) (R.filter fun y => y.acct != x.acct) (by
        have h1 := List.length_filter_le (fun y : Bal => y.acct != x.acct) l
        have h2 := List.length_filter_le (fun y : Bal => y.acct != x.acct) R
        rcases hx with hx | hx
        · have := filter_lt (l := l) (a := x.acct) ⟨x, hx, rfl⟩
          omega
        · have := filter_lt (l := R) (a := x.acct) ⟨x, hx, rfl⟩
          omega) (fun a => by rw [sumB_split, sumB_split, h])
      rw [ih]
    · have h1 : l = [] := List.eq_nil_iff_forall_not_mem.2 fun x hm => hx ⟨x, .inl hm⟩
      have h2 : R = [] := List.eq_nil_iff_forall_not_mem.2 fun x hm => hx ⟨x, .inr hm⟩
      rw [h1, h2]
theorem PlusOf.total {l R : List Bal} (h : PlusOf l R) : (amts R).sum = (amts l).sum := (total_eq _ l R (Nat.le_refl _) fun a => (h.sum a).symm).symm
/-- What comes together fits, where it may be. -/
theorem PlusOf.fits {l R : List Bal} (h : PlusOf l R) (hp : plusB l = true) : fitsAll (amts R) = true := by
  rw [fitsAll_iff]
  intro y hy
  obtain ⟨x, hx, rfl⟩ := List.mem_map.1 hy
  obtain ⟨z, hz, e⟩ := h.from_ x hx
  have h1 := (plusB_iff.1 hp z hz).2
  rw [e, ((h.mem x).1 hx).1] at h1
  exact h1
theorem foldl_amt : ∀ (l : List Lin) (a : Int), l.foldl (fun n x => n + x.amt) a = a + (l.map Lin.amt).sum
  | [], a => by simp
  | x :: r, a => by
    rw [List.foldl_cons, foldl_amt r, List.map_cons, List.sum_cons]
    omega
theorem amts_balsOf (l : List Lin) : amts (balsOf l) = l.map Lin.amt := by
  unfold amts balsOf
  rw [List.map_map]
  rfl
/-- The lines of journals that may be come to 0. -/
theorem gath_total (o : OfT) : ∀ {M : List Jrn}, (∀ j ∈ M, checkE j = 0) → (amts (balsOf (gathL (pkL o) M))).sum = 0
  | [], _ => rfl
  | j :: r, h => by
    have ih := gath_total o fun i hi => h i (List.mem_cons_of_mem _ hi)
    have h0 := (checkE_ok (h j (List.mem_cons_self ..))).2.2.2
    unfold sumA at h0
    rw [foldl_amt] at h0
    rw [amts_balsOf] at ih ⊢
    unfold gathL at ih ⊢
    rw [List.flatMap_cons, List.map_append, List.sum_append, ih]
    unfold pkL
    split
    · omega
    · rfl
/-- Sum of what Balances gave. -/
theorem sum_zero {o : OfT} {M : List Jrn} {R : List Bal} (h : ∀ j ∈ M, checkE j = 0) (hR : PlusOf (balsOf (gathL (pkL o) M)) R) (hp : plusB (balsOf (gathL (pkL o) M)) = true) : Mo.addV (amts R) = 0 ∧ Mo.addE (amts R) = 0 := by
  have h1 := hR.total
  rw [gath_total o h] at h1
  have h2 := hR.fits hp
  unfold Mo.addV Mo.addE
  rw [h1, h2]
  exact ⟨rfl, rfl⟩
end Go.Proofs.YtjlokkjbdgcooaaGreat

/-
  What an income statement says. No code.
-/
namespace Go.Proofs.YtjlokkjbdgcooaaGreat
open Go.RowKit
open Mo

def negB (l : List Bal) : List Bal := l.map fun x => ⟨x.acct, -x.amt⟩
theorem negB_len (l : List Bal) : (negB l).length = l.length := by simp [negB]
theorem amts_negB : ∀ l : List Bal, (amts (negB l)).sum = -(amts l).sum
  | [] => rfl
  | x :: r => by
    have ih := amts_negB r
    unfold amts negB at ih ⊢
    simp only [List.map_cons, List.sum_cons]
    omega
theorem fits1_minus (a : Int) : fits1 (-a) = fits1 a := by
  unfold fits1
  rw [decide_eq_decide]
  omega
theorem fitsAll_negB (l : List Bal) : fitsAll (amts (negB l)) = fitsAll (amts l) := by
  rw [Bool.eq_iff_iff, fitsAll_iff, fitsAll_iff]
  unfold amts negB
  simp only [List.mem_map]
  constructor
  · rintro h x ⟨y, hy, rfl⟩
    have := h (-y.amt) ⟨⟨y.acct, -y.amt⟩, ⟨y, hy, rfl⟩, rfl⟩
    rwa [fits1_minus] at this
  · rintro h x ⟨z, ⟨y, hy, rfl⟩, rfl⟩
    show fits1 (-y.amt) = true
    rw [fits1_minus]
    exact h _ ⟨y, hy, rfl⟩
/-- What Balances tells. -/
noncomputable def balR (o : OfT) (M : List Jrn) : List Bal := Classical.epsilon (BalIs (balsOf (gathL (pkL o) M)) (balE o M))
theorem balIs_R {o : OfT} {M : List Jrn} {R : List Bal} (h : BalIs (balsOf (gathL (pkL o) M)) (balE o M) R) : R = balR o M :=
  h.unique (Classical.epsilon_spec (p := BalIs (balsOf (gathL (pkL o) M)) (balE o M)) ⟨R, h⟩) fun _ => rfl
/-- The sum of the accounts of a kind. -/
def incA (C : List Acc) (k : Int) (R : List Bal) : Int := (amts (pickB (kindL C [k]) R)).sum
def earnB (C : List Acc) (R : List Bal) : Int := -(incA C 4 R)
def spentB (C : List Acc) (R : List Bal) : Int := incA C 5 R
def netB (C : List Acc) (R : List Bal) : Int := earnB C R - spentB C R
def incFits (C : List Acc) (R : List Bal) : Bool := fits1 (earnB C R) && (fits1 (spentB C R) && fits1 (netB C R))
def inL (C : List Acc) (R : List Bal) : List Bal := negB (pickB (kindL C [4]) R)
def outL (C : List Acc) (R : List Bal) : List Bal := pickB (kindL C [5]) R
theorem pickB_len (ks : List Int) (l : List Bal) : (pickB ks l).length ≤ l.length := List.length_filter_le _ _
theorem pickB_fits {ks : List Int} {l : List Bal} (h : fitsAll (amts l) = true) : fitsAll (amts (pickB ks l)) = true := by
  rw [fitsAll_iff] at h ⊢
  intro x hx
  obtain ⟨y, hy, rfl⟩ := List.mem_map.1 hx
  exact h _ (List.mem_map.2 ⟨y, (List.mem_filter.1 hy).1, rfl⟩)
theorem sumB_filterP (p : Int → Bool) (a : Int) : ∀ l : List Bal, sumB a (l.filter fun x => p x.acct) = if p a = true then sumB a l else 0
  | [] => by simp [sumB]
  | x :: r => by
    have ih := sumB_filterP p a r
    rw [List.filter_cons]
    by_cases hx : p x.acct = true
    · rw [if_pos hx, sumB, ih]
      by_cases ha : p a = true
      · rw [if_pos ha, if_pos ha, sumB]
      · rw [if_neg ha, if_neg ha, if_neg (fun e => ha (by rw [← e]; exact hx))]; rfl
    · rw [if_neg hx, ih]
      by_cases ha : p a = true
      · rw [if_pos ha, if_pos ha, sumB, if_neg (fun e => hx (by rw [e]; exact ha))]; omega
      · rw [if_neg ha, if_neg ha]
theorem filter_total (p : Int → Bool) {l R : List Bal} (h : ∀ a, sumB a l = sumB a R) : (amts (l.filter fun x => p x.acct)).sum = (amts (R.filter fun x => p x.acct)).sum :=
  total_eq _ _ _ (Nat.le_refl _) fun a => by rw [sumB_filterP, sumB_filterP, h]
theorem incA_same {C : List Acc} {k : Int} {l R : List Bal} (h : ∀ a, sumB a l = sumB a R) : incA C k l = incA C k R := filter_total (fun a => (kindL C [k]).contains a) h
theorem incA_append (C : List Acc) (k : Int) (l m : List Bal) : incA C k (l ++ m) = incA C k l + incA C k m := by
  unfold incA pickB amts
  rw [List.filter_append, List.map_append, List.sum_append]
theorem incA_parts (C : List Acc) (k ent frm mid til : Int) (h1 : frm ≤ mid) (h2 : mid < til) (M : List Jrn) :
    incA C k (balsOf (gathL (pkL ⟨ent, frm, til⟩) M)) = incA C k (balsOf (gathL (pkL ⟨ent, frm, mid⟩) M)) + incA C k (balsOf (gathL (pkL ⟨ent, mid + 1, til⟩) M)) := by
  rw [← incA_append]
  exact incA_same fun a => by rw [sumB_append]; exact (sum_parts ent frm mid til h1 h2 a M).symm
/-- The net of what stands in some periods. -/
def netL (C : List Acc) (o : OfT) (M : List Jrn) : Int := netB C (balsOf (gathL (pkL o) M))
theorem netL_parts (C : List Acc) (ent frm mid til : Int) (h1 : frm ≤ mid) (h2 : mid < til) (M : List Jrn) : netL C ⟨ent, frm, til⟩ M = netL C ⟨ent, frm, mid⟩ M + netL C ⟨ent, mid + 1, til⟩ M := by
  unfold netL netB earnB spentB
  rw [incA_parts C 4 ent frm mid til h1 h2, incA_parts C 5 ent frm mid til h1 h2]
  omega
theorem netB_R {C : List Acc} {o : OfT} {M : List Jrn} {R : List Bal} (h : BalIs (balsOf (gathL (pkL o) M)) (balE o M) R) (h0 : balE o M = 0) : netB C R = netL C o M := by
  have hp := h.1 h0
  unfold netL netB earnB spentB
  rw [incA_same (k := 4) hp.sum, incA_same (k := 5) hp.sum]
/-- A month's net. -/
noncomputable def monN (C : List Acc) (M : List Jrn) (ent p : Int) : Int := netB C (balR ⟨ent, p, p⟩ M)
noncomputable def monOk (C : List Acc) (M : List Jrn) (ent p : Int) : Bool := decide (balE ⟨ent, p, p⟩ M = 0) && incFits C (balR ⟨ent, p, p⟩ M)
noncomputable def mons (C : List Acc) (M : List Jrn) (ent frm : Int) (k : Nat) : List Int := (List.range k).map fun i : Nat => monN C M ent (frm + (i : Int))
theorem mons_len (C : List Acc) (M : List Jrn) (ent frm : Int) (k : Nat) : (mons C M ent frm k).length = k := by simp [mons]
theorem mons_succ (C : List Acc) (M : List Jrn) (ent frm : Int) (k : Nat) : mons C M ent frm (k + 1) = mons C M ent frm k ++ [monN C M ent (frm + (k : Int))] := by
  unfold mons
  rw [List.range_succ, List.map_append]
  rfl
theorem mons_sum (C : List Acc) (M : List Jrn) (ent frm : Int) : ∀ k : Nat, (∀ i : Nat, i < k + 1 → monN C M ent (frm + (i : Int)) = netL C ⟨ent, frm + (i : Int), frm + (i : Int)⟩ M) → (mons C M ent frm (k + 1)).sum = netL C ⟨ent, frm, frm + (k : Int)⟩ M
  | 0, h => by
    have h0 := h 0 (by omega)
    rw [mons_succ]
    simp only [mons, List.range_zero, List.map_nil, List.nil_append, List.sum_cons, List.sum_nil]
    rw [h0]
    simp
  | k + 1, h => by
    have ih := mons_sum C M ent frm k fun i hi => h i (by omega)
    rw [mons_succ, List.sum_append, ih, netL_parts C ent frm (frm + (k : Int)) (frm + ((k + 1 : Nat) : Int)) (by omega) (by omega)]
    have := h (k + 1) (by omega)
    simp only [List.sum_cons, List.sum_nil]
    rw [this]
    rw [show frm + ((k + 1 : Nat) : Int) = frm + (k : Int) + 1 by omega]
    omega
end Go.Proofs.YtjlokkjbdgcooaaGreat
