/-
  Several texts, one behind the other: what each holds stands ahead of it.
-/
import Derived.Test.YtjlokkjbdgcooaaGreatMany23
import Derived.Test.YtjlokkjbdgcooaaGreatMany3

/-
  Charts as lists of accounts: what is found, where one would stand, what is added, retired. No code.
-/
namespace Go.Proofs.YtjlokkjbdgcooaaGreat
open Go.RowKit

def okRow (code kind : Int) : Bool := decide (1 ≤ code ∧ code ≤ 9999 ∧ 1 ≤ kind ∧ kind ≤ 5)
def posn (l : List Acc) (x : Int) : Nat := (l.takeWhile fun a => decide (a.code < x)).length
def findA (l : List Acc) (x : Int) : Option Acc := l.find? fun a => a.code == x
def insA (l : List Acc) (a : Acc) : List Acc := l.take (posn l a.code) ++ a :: l.drop (posn l a.code)
/-- Codes rise, and all is as it may be. -/
def GoodA (l : List Acc) : Prop := l.Pairwise (fun a b => a.code < b.code) ∧ ∀ a ∈ l, okRow a.code a.kind = true
def addE (l : List Acc) (a : Acc) : Int := if okRow a.code a.kind = true then (if (findA l a.code).isSome = true then 7 else 0) else 1
def addL (l : List Acc) (a : Acc) : List Acc := if addE l a = 0 then insA l a else l
def retE (l : List Acc) (x : Int) : Int := match findA l x with
  | none => 9
  | some a => if a.ret = true then 5 else 0
def retL (l : List Acc) (x : Int) : List Acc := l.map fun a => { a with ret := a.ret || a.code == x }
def liveE1 (l : List Acc) (x : Int) : Int := match findA l x with
  | none => 4
  | some a => if a.ret = true then 5 else 0
def liveECh (l : List Acc) : List Int → Int
  | [] => 0
  | x :: r => if liveE1 l x = 0 then liveECh l r else liveE1 l x
def kindL (l : List Acc) (ks : List Int) : List Int := (l.filter fun a => ks.contains a.kind).map (·.code)

theorem posn_le (l : List Acc) (x : Int) : posn l x ≤ l.length := by unfold posn; exact (List.takeWhile_prefix _).length_le
theorem posn_cons (a : Acc) (l : List Acc) (x : Int) : posn (a :: l) x = if a.code < x then posn l x + 1 else 0 := by
  unfold posn
  by_cases h : a.code < x <;> simp [List.takeWhile_cons, h]
theorem posn_lt : ∀ (l : List Acc) (x : Int) (k : Nat) (a : Acc), k < posn l x → l[k]? = some a → a.code < x
  | [], x, k, a, _, h2 => by simp at h2
  | b :: l, x, k, a, h1, h2 => by
    rw [posn_cons] at h1
    split at h1
    · cases k with
      | zero => simp at h2; subst h2; assumption
      | succ k => exact posn_lt l x k a (by omega) (by simpa using h2)
    · omega
theorem posn_at : ∀ (l : List Acc) (x : Int) (a : Acc), l[posn l x]? = some a → x ≤ a.code
  | [], x, a, h => by simp at h
  | b :: l, x, a, h => by
    rw [posn_cons] at h
    split at h
    · exact posn_at l x a (by simpa using h)
    · simp at h; subst h; omega
theorem posn_eq {l : List Acc} {x : Int} {i : Nat} (hi : i ≤ l.length) (h1 : ∀ k a, k < i → l[k]? = some a → a.code < x) (h2 : ∀ a, l[i]? = some a → x ≤ a.code) : posn l x = i := by
  rcases Nat.lt_trichotomy (posn l x) i with h | h | h
  · have hl : posn l x < l.length := by omega
    have := posn_at l x _ (List.getElem?_eq_getElem hl)
    have := h1 _ _ h (List.getElem?_eq_getElem hl)
    omega
  · exact h
  · have := posn_le l x
    have hl : i < l.length := by omega
    have := posn_lt l x i _ h (List.getElem?_eq_getElem hl)
    have := h2 _ (List.getElem?_eq_getElem hl)
    omega
theorem rise_ltCh {l : List Acc} (h : l.Pairwise fun a b => a.code < b.code) {i j : Nat} {a b : Acc} (hij : i < j) (hi : l[i]? = some a) (hj : l[j]? = some b) : a.code < b.code := by
  obtain ⟨h1, rfl⟩ := List.getElem?_eq_some_iff.1 hi
  obtain ⟨h2, rfl⟩ := List.getElem?_eq_some_iff.1 hj
  exact List.pairwise_iff_getElem.1 h i j h1 h2 hij
theorem rise_leCh {l : List Acc} (h : l.Pairwise fun a b => a.code < b.code) {i j : Nat} {a b : Acc} (hij : i ≤ j) (hi : l[i]? = some a) (hj : l[j]? = some b) : a.code ≤ b.code := by
  rcases Nat.lt_or_ge i j with h1 | h1
  · have := rise_ltCh h h1 hi hj; omega
  · obtain rfl : i = j := by omega
    rw [hi] at hj
    injection hj with hj
    rw [hj]; exact Int.le_refl _
/-- In a list that rises what is found stands at its place. -/
theorem find_atCh : ∀ {l : List Acc}, l.Pairwise (fun a b => a.code < b.code) → ∀ x, findA l x = (l[posn l x]?).bind fun a => if a.code = x then some a else none
  | [], _, x => rfl
  | b :: l, h, x => by
    rw [posn_cons]
    rw [List.pairwise_cons] at h
    unfold findA
    rw [List.find?_cons]
    rcases Int.lt_trichotomy b.code x with hb | hb | hb
    · have h1 : (b.code == x) = false := by simp; omega
      rw [h1, if_pos hb]
      exact find_atCh h.2 x
    · have h1 : (b.code == x) = true := by simp; omega
      rw [h1, if_neg (by omega)]
      simp [hb]
    · have h1 : (b.code == x) = false := by simp; omega
      rw [h1, if_neg (by omega)]
      have : l.find? (fun a => a.code == x) = none := by
        rw [List.find?_eq_none]
        intro a ha
        have := h.1 a ha
        simp; omega
      rw [this]
      simp; omega
theorem find_some_atCh {l : List Acc} (h : l.Pairwise fun a b => a.code < b.code) {x : Int} {a : Acc} (hf : findA l x = some a) : l[posn l x]? = some a ∧ a.code = x := by
  rw [find_atCh h] at hf
  cases hq : l[posn l x]? with
  | none => simp [hq] at hf
  | some b =>
    rw [hq] at hf
    by_cases hb : b.code = x
    · simp [hb] at hf; subst hf; exact ⟨rfl, hb⟩
    · simp [hb] at hf
theorem find_none_atCh {l : List Acc} (h : l.Pairwise fun a b => a.code < b.code) {x : Int} (hf : findA l x = none) {a : Acc} (ha : l[posn l x]? = some a) : x < a.code := by
  have h1 := posn_at l x a ha
  rw [find_atCh h, ha] at hf
  by_cases hb : a.code = x
  · simp [hb] at hf
  · omega
theorem find_none_memCh {l : List Acc} {x : Int} (hf : findA l x = none) : ∀ a ∈ l, a.code ≠ x := by
  intro a ha
  have := List.find?_eq_none.1 hf a ha
  simpa using this
theorem rise_lenCh : ∀ (l : List Acc) (lo : Int), l.Pairwise (fun a b => a.code < b.code) → (∀ a ∈ l, lo ≤ a.code ∧ a.code ≤ 9999) → lo ≤ 10000 → (l.length : Int) ≤ 10000 - lo
  | [], lo, _, _, h => by simp; omega
  | b :: l, lo, h, hr, _ => by
    rw [List.pairwise_cons] at h
    have hb := hr b (by simp)
    have := rise_lenCh l (b.code + 1) h.2 (fun a ha => ⟨by have := h.1 a ha; omega, (hr a (by simp [ha])).2⟩) (by omega)
    simp; omega
theorem okRow_t {c k : Int} (h : okRow c k = true) : 1 ≤ c ∧ c ≤ 9999 ∧ 1 ≤ k ∧ k ≤ 5 := by simpa [okRow] using h
theorem GoodA.len {l : List Acc} (h : GoodA l) : l.length ≤ 9999 := by
  have := rise_lenCh l 1 h.1 (fun a ha => by have := okRow_t (h.2 a ha); omega) (by omega)
  omega
theorem GoodA.nil : GoodA [] := ⟨List.Pairwise.nil, by simp⟩
theorem insA_len (l : List Acc) (a : Acc) : (insA l a).length = l.length + 1 := by
  have := posn_le l a.code
  simp [insA]; omega
theorem GoodA.ins {l : List Acc} {a : Acc} (h : GoodA l) (ho : okRow a.code a.kind = true) (hf : findA l a.code = none) : GoodA (insA l a) := by
  refine ⟨?_, fun b hb => ?_⟩
  · unfold insA
    rw [List.pairwise_append]
    refine ⟨h.1.sublist (List.take_sublist _ _), ?_, ?_⟩
    · rw [List.pairwise_cons]
      refine ⟨fun b hb => ?_, h.1.sublist (List.drop_sublist _ _)⟩
      obtain ⟨j, hj⟩ := List.mem_iff_getElem?.1 hb
      rw [List.getElem?_drop] at hj
      have hl := (List.getElem?_eq_some_iff.1 hj).1
      have hp : posn l a.code < l.length := by omega
      have h1 := find_none_atCh h.1 hf (List.getElem?_eq_getElem hp)
      have h2 := rise_leCh h.1 (Nat.le_add_right _ j) (List.getElem?_eq_getElem hp) hj
      omega
    · intro b hb c hc
      obtain ⟨j, hj⟩ := List.mem_iff_getElem?.1 hb
      rw [List.getElem?_take] at hj
      split at hj
      · have h1 := posn_lt l a.code j b ‹_› hj
        rcases List.mem_cons.1 hc with rfl | hc
        · exact h1
        · obtain ⟨q, hq⟩ := List.mem_iff_getElem?.1 hc
          rw [List.getElem?_drop] at hq
          exact rise_ltCh h.1 (by omega) hj hq
      · cases hj
  · unfold insA at hb
    rcases List.mem_append.1 hb with hb | hb
    · exact h.2 b (List.mem_of_mem_take hb)
    · rcases List.mem_cons.1 hb with rfl | hb
      · exact ho
      · exact h.2 b (List.mem_of_mem_drop hb)
theorem addE_ok {l : List Acc} {a : Acc} (h : addE l a = 0) : okRow a.code a.kind = true ∧ findA l a.code = none := by
  unfold addE at h
  split at h
  · rename_i h1
    refine ⟨h1, ?_⟩
    cases hf : findA l a.code with
    | none => rfl
    | some b => simp [hf] at h
  · omega
theorem GoodA.add {l : List Acc} (h : GoodA l) (a : Acc) : GoodA (addL l a) := by
  unfold addL
  split
  · rename_i h0
    obtain ⟨h1, h2⟩ := addE_ok h0
    exact h.ins h1 h2
  · exact h
theorem GoodA.ret {l : List Acc} (h : GoodA l) (x : Int) : GoodA (retL l x) := by
  refine ⟨?_, fun b hb => ?_⟩
  · unfold retL
    rw [List.pairwise_map]
    exact h.1
  · obtain ⟨a, ha, rfl⟩ := List.mem_map.1 hb
    exact h.2 a ha
theorem retL_len (l : List Acc) (x : Int) : (retL l x).length = l.length := by simp [retL]
theorem retL_none {l : List Acc} {x : Int} (h : findA l x = none) : retL l x = l := by
  unfold retL
  conv => rhs; rw [← List.map_id l]
  apply List.map_congr_left
  intro a ha
  have := find_none_memCh h a ha
  have h2 : (a.code == x) = false := by simp [this]
  simp [h2]
theorem retL_set {l : List Acc} (h : l.Pairwise fun a b => a.code < b.code) {x : Int} {a : Acc} (hf : findA l x = some a) : retL l x = l.set (posn l x) { a with ret := true } := by
  obtain ⟨h1, h2⟩ := find_some_atCh h hf
  apply List.ext_getElem?
  intro i
  unfold retL
  rw [List.getElem?_map, List.getElem?_set]
  by_cases e : posn l x = i
  · subst e
    rw [if_pos rfl, h1]
    have hl := (List.getElem?_eq_some_iff.1 h1).1
    simp [hl, h2]
  · rw [if_neg e]
    cases hq : l[i]? with
    | none => rfl
    | some b =>
      have : b.code ≠ x := by
        rcases Nat.lt_or_gt_of_ne e with h3 | h3
        · have := rise_ltCh h h3 h1 hq; omega
        · have := rise_ltCh h h3 hq h1; omega
      have h5 : (b.code == x) = false := by simp [this]
      simp [h5]
theorem retL_old {l : List Acc} (h : l.Pairwise fun a b => a.code < b.code) {x : Int} {a : Acc} (hf : findA l x = some a) (hr : a.ret = true) : retL l x = l := by
  rw [retL_set h hf]
  obtain ⟨h1, _⟩ := find_some_atCh h hf
  apply List.ext_getElem?
  intro i
  rw [List.getElem?_set]
  by_cases e : posn l x = i
  · subst e
    have hl := (List.getElem?_eq_some_iff.1 h1).1
    rw [if_pos rfl, if_pos hl, h1, ← hr]
  · rw [if_neg e]
end Go.Proofs.YtjlokkjbdgcooaaGreat

/-
  Contracts of cmp.Compare, slices.BinarySearchFunc over accounts by code, (*Chart).place.
-/
namespace Go.Proofs.YtjlokkjbdgcooaaGreat
open Go.RowKit

def cmpICh (a b : Int) : Int := if a < b then -1 else if b < a then 1 else 0

set_option maxRecDepth 100000 in
theorem isNaN_anyCh (a : Int) (w : World) : Calls Tryz.prog 199 #[.int .i64 a] w fun e w' => e = .returned (.bool false) ∧ w = w' := by
  have h : (a != a) = false := by simp
  go_enter Tryz.func199, Tryz.ntmps199
  go_wp2
  go_ret
  exact ⟨rfl, rfl⟩

set_option maxRecDepth 100000 in
theorem compare_anyCh (a b : Int) (w : World) : Calls Tryz.prog 162 #[.int .i64 a, .int .i64 b] w fun e w' => e = .returned (.int .i64 (cmpICh a b)) ∧ w = w' := by
  have hx : (a < b ∧ cmpICh a b = -1) ∨ (¬ a < b ∧ b < a ∧ cmpICh a b = 1) ∨ (¬ a < b ∧ ¬ b < a ∧ cmpICh a b = 0) := by
    unfold cmpICh
    by_cases h1 : a < b
    · exact .inl ⟨h1, by simp [h1]⟩
    · by_cases h2 : b < a
      · exact .inr (.inl ⟨h1, h2, by simp [h1, h2]⟩)
      · exact .inr (.inr ⟨h1, h2, by simp [h1, h2]⟩)
  rcases hx with ⟨h1, h3⟩ | ⟨h1, h2, h3⟩ | ⟨h1, h2, h3⟩
  all_goals
    rw [h3]
    clear h3
    go_enter Tryz.func162, Tryz.ntmps162
    go_wp2_with (go_at_call 199; refine (isNaN_anyCh _ _).mono ?_; rintro e w' ⟨rfl, rfl⟩)
    go_ret
    exact ⟨rfl, rfl⟩

set_option maxRecDepth 100000 in
theorem placeCmp_anyCh (a : Acc) (x : Int) (w : World) : Calls Tryz.prog 250 #[.agg #[.int .i64 a.code, .int .i64 a.kind, .bool a.ret], .int .i64 x] w fun e w' => e = .returned (.int .i64 (cmpICh a.code x)) ∧ Below w.heap.size w w' := by
  obtain ⟨c, k, r⟩ := a
  go_enter Tryz.func250, Tryz.ntmps250
  go_wp2_with (go_at_call 162; refine (compare_anyCh _ _ _).mono ?_; rintro e w' ⟨rfl, rfl⟩)
  go_ret
  exact ⟨rfl, (Below.refl _ _).alloc (Nat.le_refl _) _⟩

theorem cmpI_ltCh {a b : Int} : decide (cmpICh a b < 0) = decide (a < b) := by
  rw [Bool.eq_iff_iff]
  simp only [decide_eq_true_eq]
  unfold cmpICh
  split
  · constructor <;> intro <;> omega
  · split <;> constructor <;> intro <;> omega
theorem cmpI_eqCh {a b : Int} : (cmpICh a b == 0) = (a == b) := by
  rw [Bool.eq_iff_iff]
  simp only [beq_iff_eq]
  unfold cmpICh
  split
  · constructor <;> intro <;> omega
  · split <;> constructor <;> intro <;> omega

/-- At the head of the search: what lies before i is less, what lies from j on is not. -/
def SeekRelCh (w : World) (l : List Acc) (x : Int) (i j : Nat) (wr : World) : Prop :=
  i ≤ j ∧ j ≤ l.length ∧ (∀ (k : Nat) (a : Acc), k < i → l[k]? = some a → a.code < x) ∧ (∀ (k : Nat) (a : Acc), j ≤ k → l[k]? = some a → x ≤ a.code) ∧ Below w.heap.size w wr

set_option maxRecDepth 100000 in
set_option maxHeartbeats 1000000 in
theorem search_anyCh (l : List Acc) (x : Int) (A : Option Addr) (n c B : Nat) (w : World) (h : Rd w B 3 A n (accs l)) (hB : B ≤ w.heap.size) (hn : n ≤ 1000000) (hs : l.Pairwise fun a b => a.code < b.code) :
    Calls Tryz.prog 249 #[.slice A n c, .int .i64 x, .func (.func 250) #[] #[]] w fun e w' => e = .returned (.tuple #[.int .i64 (posn l x : Nat), .bool (findA l x).isSome]) ∧ Below w.heap.size w w' := by
  have HL := Lib.hid h.accs_len
  have HR := Lib.hid h
  have HS := Lib.hid hs
  clear h hs
  go_enter Tryz.func249, Tryz.ntmps249
  go_wp2_with fail
  go_loopw [9, 10] (fun iv jv wr => ∃ i j : Nat, iv = .int .i64 i ∧ jv = .int .i64 j ∧ SeekRelCh w l x i j wr) (fun iv jv _ => (intOf jv).toNat - (intOf iv).toNat)
  case atStart => exact ⟨0, n, rfl, rfl, Nat.zero_le _, by rw [HL.out]; exact Nat.le_refl _, (fun k a hk => by omega), (fun k a hk ha => by have := (List.getElem?_eq_some_iff.1 ha).1; have := HL.out; omega), Below.refl _ _⟩
  case round =>
    obtain ⟨i, j, rfl, rfl, hrel⟩ := hrel
    obtain ⟨hij, hjl, hlo, hhi, hbel⟩ := hrel
    have hjn : j ≤ n := by have := HL.out; omega
    have hzr := hbel.size
    have HRr := Lib.hid (HR.out.below (hbel.mono hB))
    have HLO := Lib.hid hlo; have HHI := Lib.hid hhi; have HB := Lib.hid hbel
    clear hlo hhi hbel hjl
    by_cases hlt : i < j
    · obtain ⟨m, hmd⟩ : ∃ m, m = (i + j) / 2 := ⟨_, rfl⟩
      have him : i ≤ m := by omega
      have hmj : m < j := by omega
      have hm : ((i : Int) + (j : Int)) / 2 = (m : Int) := by omega
      clear hmd
      obtain ⟨ad, a, rfl, hb1, hx, p1, p2, p3⟩ := HRr.out.acc (i := m) (by omega)
      have p2' := cell_behind p2 (by omega)
      have p3' := cell_behind p3 (by omega)
      have hmn : (m : Int) < (n : Int) := by omega
      have kc := placeCmp_anyCh a x wr
      have hlt2 := cmpI_ltCh (a := a.code) (b := x)
      have HX := Lib.hid hx
      clear p2 p3 hx
      generalize cmpICh a.code x = cv at *
      go_wp2_with fail
      refine kc.mono ?_
      rintro e w' ⟨rfl, hb2⟩
      have HB2 : Hid (Below w.heap.size w w') := HB.out.trans (hb2.mono hzr)
      clear hb2 kc p1 p2' p3'
      by_cases hc : a.code < x
      · have hd : cv < 0 := by simpa [hc] using hlt2
        clear hlt2
        go_wp2
        refine ⟨⟨m + 1, j, by go_num, rfl, by omega, by have := HL.out; omega, ?_, HHI.out, HB2.out⟩, by simp [intOf]; omega⟩
        intro k b hk hkb
        rcases Nat.lt_or_ge k m with h1 | h1
        · have := rise_ltCh HS.out h1 hkb HX.out; omega
        · obtain rfl : k = m := by omega
          rw [HX.out] at hkb
          injection hkb with hkb
          rw [← hkb]; exact hc
      · have hd : ¬ cv < 0 := by simpa [hc] using hlt2
        clear hlt2
        go_wp2
        refine ⟨⟨i, m, rfl, rfl, by omega, by have := HL.out; omega, HLO.out, ?_, HB2.out⟩, by simp [intOf]; omega⟩
        intro k b hk hkb
        have := rise_leCh HS.out hk HX.out hkb
        omega
    · obtain rfl : i = j := by omega
      have hpos : posn l x = i := posn_eq (by have := HL.out; omega) HLO.out fun a ha => HHI.out i a (Nat.le_refl _) ha
      have hfind := find_atCh HS.out x
      rw [hpos] at hfind
      have HF := Lib.hid hfind
      have HP := Lib.hid hpos
      clear hpos hfind
      by_cases hin : i < n
      · obtain ⟨ad, a, rfl, hb1, hx, p1, p2, p3⟩ := HRr.out.acc hin
        have p2' := cell_behind p2 (by omega)
        have p3' := cell_behind p3 (by omega)
        have hinI : (i : Int) < (n : Int) := by omega
        have kc := placeCmp_anyCh a x wr
        have hfs : (findA l x).isSome = (cmpICh a.code x == 0) := by
          rw [HF.out, hx, cmpI_eqCh]
          by_cases e : a.code = x <;> simp [e]
        have HFS := Lib.hid hfs
        clear p2 p3 hx hfs
        generalize cmpICh a.code x = cv at *
        go_wp2_with fail
        refine kc.mono ?_
        rintro e w' ⟨rfl, hb2⟩
        have HB2 : Hid (Below w.heap.size w w') := HB.out.trans (hb2.mono hzr)
        clear hb2 kc p1 p2' p3'
        go_wp2
        go_ret2
        exact ⟨by rw [HP.out, HFS.out]; rfl, HB2.out⟩
      · have hfs : (findA l x).isSome = false := by
          rw [HF.out, List.getElem?_eq_none (by have := HL.out; omega)]; rfl
        have HFS := Lib.hid hfs
        clear hfs
        go_wp2
        go_ret2
        exact ⟨by rw [HP.out, HFS.out]; rfl, HB.out⟩
end Go.Proofs.YtjlokkjbdgcooaaGreat

/-
  A chart in memory; (*Chart).place.
-/
namespace Go.Proofs.YtjlokkjbdgcooaaGreat
open Go.RowKit

/-- A chart: its variable, and its accounts in a row of its own. -/
structure ChartAt (w : World) (B c : Nat) (v : Value) (l : List Acc) : Prop where
  blk : w.heap[c]? = some (.cells #[v] 275 (0, 0))
  low : B ≤ c
  own : w.ownsRow B 165 3 v l.length (accs l)
  good : GoodA l
/-- The blocks of a chart. -/
def InChart (c : Nat) (v : Value) (k : Nat) : Prop := k = c ∨ v.ownBlock = some k
section
variable {w w' : World} {B c : Nat} {v : Value} {l : List Acc}
theorem ChartAt.cell (h : ChartAt w B c v l) : w.cell? ⟨c, 0, none⟩ = some v := by rw [cell_of h.blk]; rfl
theorem ChartAt.warm (h : ChartAt w B c v l) : w.frozen? ⟨c, 0, none⟩ = false := warm_of h.blk 0
theorem ChartAt.lt (h : ChartAt w B c v l) : c < w.heap.size := lt_of_blk h.blk
theorem ChartAt.kept (h : ChartAt w B c v l) (hk : ∀ k, k < w.heap.size → InChart c v k → w'.heap[k]? = w.heap[k]?) : ChartAt w' B c v l :=
  ⟨(hk c h.lt (.inl rfl)).trans h.blk, h.low, own_kept h.own fun k hk1 hk2 => hk k hk1 (.inr hk2), h.good⟩
theorem ChartAt.below (h : ChartAt w B c v l) (hb : Below w.heap.size w w') : ChartAt w' B c v l := h.kept fun k hk _ => hb.block k hk
theorem ChartAt.but {S : Nat → Prop} (h : ChartAt w B c v l) (hb : But S w w') (hs : ∀ k, InChart c v k → ¬ S k) : ChartAt w' B c v l := h.kept fun k hk hi => hb.block k hk (hs k hi)
theorem ChartAt.form (h : ChartAt w B c v l) : ∃ A cap, v = .slice A l.length cap := own_form h.own
theorem ChartAt.ge (h : ChartAt w B c v l) : ∀ k, InChart c v k → B ≤ k := by
  rintro k (rfl | hk)
  · exact h.low
  · exact own_ge h.own k hk
theorem ChartAt.ltB (h : ChartAt w B c v l) : ∀ k, InChart c v k → k < w.heap.size := by
  rintro k (rfl | hk)
  · exact h.lt
  · exact own_lt h.own k hk
theorem ChartAt.apart (h : ChartAt w B c v l) : v.ownBlock ≠ some c := own_ne h.own h.blk (by decide)
end

set_option maxRecDepth 100000 in
theorem place_anyCh (B c : Nat) (v : Value) (l : List Acc) (x : Int) (w : World) (h : ChartAt w B c v l) :
    Calls Tryz.prog 225 #[.pointer (some ⟨c, 0, none⟩), .int .i64 x] w fun e w' => e = .returned (.tuple #[.int .i64 (posn l x : Nat), .bool (findA l x).isSome]) ∧ Below w.heap.size w w' := by
  have hc := h.cell
  obtain ⟨A, cap, rfl⟩ := h.form
  have ks := search_anyCh l x A l.length cap _ w (rd_of_own h.own) (Nat.le_refl _) (by have := h.good.len; omega) h.good.1
  have HG := Lib.hid h
  clear h
  generalize (posn l x) = P at *
  generalize (findA l x).isSome = S at *
  go_enter Tryz.func225, Tryz.ntmps225
  go_wp2_with fail
  refine ks.mono ?_
  rintro e w' ⟨rfl, hb⟩
  go_wp2
  go_ret2
  exact ⟨rfl, hb⟩
end Go.Proofs.YtjlokkjbdgcooaaGreat
