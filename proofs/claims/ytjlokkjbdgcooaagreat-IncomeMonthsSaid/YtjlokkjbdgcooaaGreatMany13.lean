/-
  Several texts, one behind the other: what each holds stands ahead of it.
-/
import Derived.Test.YtjlokkjbdgcooaaGreatOwn
import Derived.Test.YtjlokkjbdgcooaaGreatMany1
import Derived.Test.YtjlokkjbdgcooaaGreatMany3
import Derived.BigQuiet
import Derived.Shelf.SlSortCmp.WholeK
import Derived.Ground.SlsfProg
import Derived.Test.YtjlokkjbdgcooaaGreatProg

/-
  Lists of balances, and the statements' helper over them: SameBalances.
-/
namespace Go.Proofs.YtjlokkjbdgcooaaGreat
open Go.RowKit

/-- An element. -/
structure Bal where
  acct : Int
  amt : Int
deriving DecidableEq
def Bal.cells (a : Bal) : List Value := [.int .i64 a.acct, .int .i64 a.amt]
def Bal.val (a : Bal) : Value := .agg #[.int .i64 a.acct, .int .i64 a.amt]
def bals (l : List Bal) : List Value := l.flatMap Bal.cells
theorem bals_len : ∀ l : List Bal, (bals l).length = l.length * 2
  | [] => rfl
  | a :: l => by have := bals_len l; unfold bals at this ⊢; simp [Bal.cells, this]; omega
theorem bals_append (l m : List Bal) : bals (l ++ m) = bals l ++ bals m := by simp [bals]
theorem bals_at : ∀ (l : List Bal) (k : Nat) (a : Bal), l[k]? = some a → (bals l)[k * 2]? = some (.int .i64 a.acct) ∧ (bals l)[k * 2 + 1]? = some (.int .i64 a.amt)
  | [], k, a, h => by simp at h
  | b :: l, 0, a, h => by
    simp at h; subst h
    exact ⟨rfl, rfl⟩
  | b :: l, k + 1, a, h => by
    have := bals_at l k a (by simpa using h)
    unfold bals at this ⊢
    simp only [List.flatMap_cons, Bal.cells]
    rw [show (k + 1) * 2 = k * 2 + 2 by omega]
    simpa [List.getElem?_append_right] using this
theorem Rd.bals_len {w : World} {B n : Nat} {A : Option Addr} {l : List Bal} (h : Rd w B 2 A n (bals l)) : l.length = n := by
  have := h.1; rw [Go.Proofs.YtjlokkjbdgcooaaGreat.bals_len] at this; omega
theorem Rd.bal {w : World} {B n i : Nat} {A : Option Addr} {l : List Bal} (h : Rd w B 2 A n (bals l)) (hi : i < n) :
    ∃ ad a, A = some ad ∧ ad.block < B ∧ l[i]? = some a ∧ w.cell? (ad.add (i * 2)) = some (.int .i64 a.acct) ∧ w.cell? (ad.add (i * 2 + 1)) = some (.int .i64 a.amt) := by
  obtain ⟨ad, e, hb, hc⟩ := h.2 (by omega)
  have hl := h.bals_len
  have hg : l[i]? = some l[i] := List.getElem?_eq_getElem (by omega)
  obtain ⟨h1, h2⟩ := bals_at l i _ hg
  exact ⟨ad, _, e, hb, hg, hc _ _ h1, hc _ _ h2⟩

theorem infoBal : (Tryz.prog.info? 161).map (fun i => (i.zero, i.size, i.bytes)) = some (some (.agg #[.int .i64 0, .int .i64 0]), 2, 16) := by kernel_rfl
theorem bal_step {l m : List Bal} {k : Nat} (hk : k < l.length ∧ k < m.length) (h1 : l.take k = m.take k) (h2 : l[k]? = m[k]?) : l.take (k + 1) = m.take (k + 1) := by
  rw [List.take_succ_eq_append_getElem hk.1, List.take_succ_eq_append_getElem hk.2, h1]
  rw [List.getElem?_eq_getElem hk.1, List.getElem?_eq_getElem hk.2] at h2
  injection h2 with h2
  rw [h2]

set_option maxRecDepth 100000 in
set_option maxHeartbeats 400000 in
theorem sameBalances_any (l m : List Bal) (A1 A2 : Option Addr) (n1 n2 c1 c2 B1 B2 : Nat) (w : World) (h1 : Rd w B1 2 A1 n1 (bals l)) (h2 : Rd w B2 2 A2 n2 (bals m)) (hn1 : n1 ≤ 1000000) (hn2 : n2 ≤ 1000000) :
    Calls Tryz.prog 38 #[.slice A1 n1 c1, .slice A2 n2 c2] w fun e w' => e = .returned (.bool (l == m)) ∧ Drew w w' := by
  have L1 := Lib.hid h1.bals_len
  have L2 := Lib.hid h2.bals_len
  by_cases hne : n1 = n2
  · subst hne
    have t1 : ((n1 : Int) != (n1 : Int)) = false := by simp
    go_enter Tryz.func38, Tryz.ntmps38
    go_wp2_with fail
    go_loopw [5] (fun i wr => ∃ k : Nat, k ≤ n1 ∧ i = .int .i64 k ∧ Hid (l.take k = m.take k) ∧ Drew w wr) (fun i _ => n1 - (intOf i).toNat)
    case atStart => exact ⟨0, Nat.zero_le _, rfl, by simp [Hid], Drew.refl _⟩
    case round =>
      obtain ⟨k, hk, rfl, hs, q, rfl⟩ := hrel
      by_cases hlt : k < n1
      · obtain ⟨a1, x, rfl, hb1, hx, p1, p2⟩ := h1.bal hlt
        obtain ⟨a2, y, rfl, hb2, hy, r1, r2⟩ := h2.bal hlt
        have hkn : (k : Int) < (n1 : Int) := by omega
        have p2' := cell_behind p2 (by omega)
        have r2' := cell_behind r2 (by omega)
        have HX : Hid (x = y → l.take (k + 1) = m.take (k + 1)) := fun h => bal_step (by have := L1.out; have := L2.out; omega) hs.out (by rw [hx, hy, h])
        have HY : Hid (x ≠ y → (l == m) = false) := by
          intro h
          rw [beq_eq_false_iff_ne]
          intro e
          rw [e, hy] at hx
          exact h (by injection hx with hx; exact hx.symm)
        clear hx hy p2 r2
        obtain ⟨x1, x2⟩ := x
        obtain ⟨y1, y2⟩ := y
        by_cases e1 : x1 = y1
        · subst e1
          by_cases e2 : x2 = y2
          · subst e2
            go_wp2_with fail
            go_big_quiet (fail)
            go_wp2
            exact ⟨⟨k + 1, by omega, by go_num, HX.out (by first | rfl | trivial), Drew.add _ _⟩, by simp [intOf]; omega⟩
          · skip
            go_wp2_with fail
            go_big_quiet (fail)
            go_wp2
            go_ret
            exact ⟨ret_bool (HY.out (by simp [e2])).symm, ⟨_, World.drewN_drewN _ _ _⟩⟩
        · skip
          go_wp2_with fail
          go_big_quiet (fail)
          go_wp2
          go_ret
          exact ⟨ret_bool (HY.out (by simp [e1])).symm, ⟨_, World.drewN_drewN _ _ _⟩⟩
      · go_wp2
        go_ret
        refine ⟨ret_bool ?_, _, rfl⟩
        have := hs.out
        rw [List.take_of_length_le (by have := L1.out; omega), List.take_of_length_le (by have := L2.out; omega)] at this
        rw [this]; simp
  · have t1 : ((n1 : Int) != (n2 : Int)) = true := by rw [bne_iff_ne]; omega
    have HN := Lib.hid hne
    clear hne
    go_enter Tryz.func38, Tryz.ntmps38
    go_wp2
    go_ret
    refine ⟨ret_bool ?_, Drew.refl _⟩
    symm
    rw [beq_eq_false_iff_ne]
    intro e
    have := L1.out; have := L2.out
    rw [e] at *
    have := HN.out; omega
end Go.Proofs.YtjlokkjbdgcooaaGreat

/-
  Contracts of cmp.Compare at integers; two blocks laid, as the sort asks for them.
-/
namespace Go.Proofs.YtjlokkjbdgcooaaGreat
open Go.RowKit Go.Sort

def cmpN (x y : Int) : Int := if x < y then -1 else if y < x then 1 else 0
set_option maxRecDepth 100000 in
set_option maxHeartbeats 400000 in
theorem isNaN_anyN (x : Int) (w : World) : Calls Tryz.prog 199 #[.int .i64 x] w fun e w' => e = .returned (.bool false) ∧ w = w' := by
  have t1 : (x != x) = false := by simp
  go_enter Tryz.func199, Tryz.ntmps199
  go_wp2_with fail
  go_ret
  exact ⟨rfl, rfl⟩
set_option maxRecDepth 100000 in
set_option maxHeartbeats 400000 in
theorem cmp_anyN (x y : Int) (w : World) : Calls Tryz.prog 162 #[.int .i64 x, .int .i64 y] w fun e w' => e = .returned (.int .i64 (cmpN x y)) ∧ w = w' := by
  unfold cmpN
  have k1 := Lib.hid (isNaN_anyN x)
  have k2 := Lib.hid (isNaN_anyN y)
  go_enter Tryz.func162, Tryz.ntmps162
  by_cases h1 : x < y
  · rw [if_pos h1]
    go_wp2_with fail
    refine (k1.out _).mono ?_
    rintro e w1 ⟨rfl, rfl⟩
    go_wp2_with fail
    refine (k2.out _).mono ?_
    rintro e w1 ⟨rfl, rfl⟩
    go_wp2_with fail
    go_ret
    exact ⟨rfl, rfl⟩
  · rw [if_neg h1]
    by_cases h2 : y < x
    · rw [if_pos h2]
      have h2' : x > y := h2
      go_wp2_with fail
      refine (k1.out _).mono ?_
      rintro e w1 ⟨rfl, rfl⟩
      go_wp2_with fail
      refine (k2.out _).mono ?_
      rintro e w1 ⟨rfl, rfl⟩
      go_wp2_with fail
      go_ret
      exact ⟨rfl, rfl⟩
    · rw [if_neg h2]
      have h2' : ¬ x > y := h2
      go_wp2_with fail
      refine (k1.out _).mono ?_
      rintro e w1 ⟨rfl, rfl⟩
      go_wp2_with fail
      refine (k2.out _).mono ?_
      rintro e w1 ⟨rfl, rfl⟩
      go_wp2_with fail
      go_ret
      exact ⟨rfl, rfl⟩

theorem grow_twoN (w : World) (a b : Obj) (q : Nat) (os : Array Obj) : ∃ q' os', grow (((w.alloc a).alloc b).drewN q) os = grow (w.drewN q') os' := by
  refine ⟨q, #[a] ++ #[b] ++ os, ?_⟩
  rw [show ((w.alloc a).alloc b).drewN q = ((w.drewN q).alloc a).alloc b from rfl, alloc_eq_grow, alloc_eq_grow, grow_grow, grow_grow, Array.append_assoc]
end Go.Proofs.YtjlokkjbdgcooaaGreat

/-
  DERIVED: THE SHELF's CONTRACTS AT THIS DUMP, IN PLAIN WORDS (tools/lay-plain.mjs out of 'TryzSort.lean', which tools/lay-shelf.mjs wrote): THE SAME DECLARATIONS UNDER THE SAME NAMES: 'import', 'namespace', 'open', 'def', 'theorem' AND NOTHING ELSE: no command of the shelf's: FOR A HAND-IN. Each laying: the table of numbers ('.._ren') and one theorem, a field a fact of the dump's own or the kernel's comparison; each contract: ONE APPLICATION.
-/
namespace Go.Proofs
open Go.Shelf
def Tryz.sortLays_ren : Go.Shelf.Ren := ⟨fun | 6 => 171 | 15 => 160 | 14 => 206 | 28 => 197 | 29 => 198 | 20 => 228 | 21 => 229 | 22 => 230 | 23 => 231 | 24 => 232 | 25 => 233 | 26 => 234 | 27 => 235 | 46 => 253 | 47 => 217 | 48 => 218 | 49 => 254 | 50 => 255 | 57 => 267 | n => n, fun | 22 => 81 | 24 => 161 | 25 => 237 | 3 => 3 | 39 => 223 | 0 => 0 | 53 => 267 | 55 => 239 | 4 => 4 | 46 => 260 | 45 => 259 | 50 => 264 | 5 => 5 | 9 => 9 | 66 => 298 | 70 => 302 | 76 => 318 | 77 => 319 | n => n, fun | n => n⟩
theorem Tryz.sortLays : Go.Proofs.SlLaysF0.n6 Tryz.prog Tryz.sortLays_ren := {
  mixed := by kernel_rfl
  f6 := ⟨Tryz.f171.name, by decide, Tryz.func171.trans (congrArg some (by kernel_rfl))⟩
  f14 := ⟨Tryz.f206.name, by decide, Tryz.func206.trans (congrArg some (by kernel_rfl))⟩
  f15 := Tryz.func160.trans (congrArg some (by kernel_rfl))
  f20 := ⟨Tryz.f228.name, by decide, Tryz.func228.trans (congrArg some (by kernel_rfl))⟩
  f21 := ⟨Tryz.f229.name, by decide, Tryz.func229.trans (congrArg some (by kernel_rfl))⟩
  f22 := ⟨Tryz.f230.name, by decide, Tryz.func230.trans (congrArg some (by kernel_rfl))⟩
  f23 := ⟨Tryz.f231.name, by decide, Tryz.func231.trans (congrArg some (by kernel_rfl))⟩
  f24 := ⟨Tryz.f232.name, by decide, Tryz.func232.trans (congrArg some (by kernel_rfl))⟩
  f25 := ⟨Tryz.f233.name, by decide, Tryz.func233.trans (congrArg some (by kernel_rfl))⟩
  f26 := ⟨Tryz.f234.name, by decide, Tryz.func234.trans (congrArg some (by kernel_rfl))⟩
  f27 := ⟨Tryz.f235.name, by decide, Tryz.func235.trans (congrArg some (by kernel_rfl))⟩
  f28 := Tryz.func197.trans (congrArg some (by kernel_rfl))
  f29 := Tryz.func198.trans (congrArg some (by kernel_rfl))
  f46 := ⟨Tryz.f253.name, by decide, Tryz.func253.trans (congrArg some (by kernel_rfl))⟩
  f47 := Tryz.func217.trans (congrArg some (by kernel_rfl))
  f48 := Tryz.func218.trans (congrArg some (by kernel_rfl))
  f49 := ⟨Tryz.f254.name, by decide, Tryz.func254.trans (congrArg some (by kernel_rfl))⟩
  f50 := ⟨Tryz.f255.name, by decide, Tryz.func255.trans (congrArg some (by kernel_rfl))⟩
  f57 := ⟨Tryz.f267.name, by decide, Tryz.func267.trans (congrArg some (by kernel_rfl))⟩
  t0 := Tryz.underlying0
  a0 := Tryz.isAgg0
  z0 := Tryz.sizeOf0
  v0 := Tryz.zeroValue0
  t3 := Tryz.underlying3
  a3 := Tryz.isAgg3
  z3 := Tryz.sizeOf3
  v3 := Tryz.zeroValue3
  t4 := Tryz.underlying4
  a4 := Tryz.isAgg4
  z4 := Tryz.sizeOf4
  v4 := Tryz.zeroValue4
  t5 := Tryz.underlying5
  a5 := Tryz.isAgg5
  z5 := Tryz.sizeOf5
  v5 := Tryz.zeroValue5
  t9 := Tryz.underlying9
  a9 := Tryz.isAgg9
  z9 := Tryz.sizeOf9
  v9 := Tryz.zeroValue9
  t22 := Tryz.underlying81
  a22 := Tryz.isAgg81
  z22 := Tryz.sizeOf81
  v22 := Tryz.zeroValue81
  t25 := Tryz.underlying237
  a25 := Tryz.isAgg237
  z25 := Tryz.sizeOf237
  v25 := Tryz.zeroValue237
  t39 := Tryz.underlying223
  a39 := Tryz.isAgg223
  z39 := Tryz.sizeOf223
  v39 := Tryz.zeroValue223
  t45 := Tryz.underlying259
  a45 := Tryz.isAgg259
  z45 := Tryz.sizeOf259
  v45 := Tryz.zeroValue259
  t46 := Tryz.underlying260
  a46 := Tryz.isAgg260
  z46 := Tryz.sizeOf260
  v46 := Tryz.zeroValue260
  t50 := Tryz.underlying264
  a50 := Tryz.isAgg264
  z50 := Tryz.sizeOf264
  v50 := Tryz.zeroValue264
  t53 := Tryz.underlying267
  a53 := Tryz.isAgg267
  z53 := Tryz.sizeOf267
  v53 := Tryz.zeroValue267
  t55 := Tryz.underlying239
  a55 := Tryz.isAgg239
  z55 := Tryz.sizeOf239
  v55 := Tryz.zeroValue239
  t66 := Tryz.underlying298
  a66 := Tryz.isAgg298
  z66 := Tryz.sizeOf298
  v66 := Tryz.zeroValue298
  t70 := Tryz.underlying302
  a70 := Tryz.isAgg302
  z70 := Tryz.sizeOf302
  v70 := Tryz.zeroValue302
  t76 := Tryz.underlying318
  a76 := Tryz.isAgg318
  z76 := Tryz.sizeOf318
  v76 := Tryz.zeroValue318
  t77 := Tryz.underlying319
  a77 := Tryz.isAgg319
  z77 := Tryz.sizeOf319
  v77 := Tryz.zeroValue319 }
end Go.Proofs

/-
  Contract of trial's order of balances; how often the first one's account stands at a list's start; slices.SortFunc of balances.
-/
namespace Go.Proofs.YtjlokkjbdgcooaaGreat
open Go.RowKit Go.Sort Go.Shelf

set_option maxRecDepth 100000 in
set_option maxHeartbeats 400000 in
theorem cmpBal_any (x y : Bal) (w : World) : Calls Tryz.prog 172 #[.agg x.cells.toArray, .agg y.cells.toArray] w fun e w' => e = .returned (.int .i64 (cmpN x.acct y.acct)) ∧ w' = (w.alloc (.cells x.cells.toArray 161)).alloc (.cells y.cells.toArray 161) := by
  obtain ⟨x1, x2⟩ := x
  obtain ⟨y1, y2⟩ := y
  unfold Bal.cells
  dsimp only
  have k1 := Lib.hid (cmp_anyN x1 y1)
  go_enter Tryz.func172, Tryz.ntmps172
  go_wp2_with fail
  refine (k1.out _).mono ?_
  rintro e w1 ⟨rfl, rfl⟩
  go_wp2_with fail
  go_ret
  exact ⟨rfl, rfl⟩

instance : Inhabited Bal := ⟨⟨0, 0⟩⟩
/-- The order of balances: by their accounts alone. -/
def cmpB (x y : Bal) : Int := cmpN x.acct y.acct
theorem ltB (x y : Bal) : ltOf cmpB x y = decide (x.acct < y.acct) := by
  unfold ltOf cmpB cmpN
  by_cases h1 : x.acct < y.acct
  · simp [h1]
  · by_cases h2 : y.acct < x.acct <;> simp [h1, h2]
theorem swoB : SWO (ltOf cmpB) where
  irrefl x := by rw [ltB]; simp
  trans x y z h1 h2 := by rw [ltB] at *; simp at *; omega
  ntrans x y z h1 h2 := by rw [ltB] at *; simp at *; omega
theorem flatB_at (d : Array Bal) (q : Nat) (hq : q < d.size) : (flatK Bal.cells 2 d)[q * 2]! = .int .i64 d[q]!.acct ∧ (flatK Bal.cells 2 d)[q * 2 + 1]! = .int .i64 d[q]!.amt := by
  refine ⟨?_, ?_⟩
  · rw [get_flatK _ _ _ _ (by omega), show q * 2 / 2 = q by omega, show q * 2 % 2 = 0 by omega]; rfl
  · rw [get_flatK _ _ _ _ (by omega), show (q * 2 + 1) / 2 = q by omega, show (q * 2 + 1) % 2 = 1 by omega]; rfl
theorem bals_flatK (d : Array Bal) (j : Nat) (hj : j < d.size * 2) : (bals d.toList)[j]? = some ((flatK Bal.cells 2 d)[j]!) := by
  obtain ⟨q, hq⟩ : ∃ q, j = q * 2 ∨ j = q * 2 + 1 := ⟨j / 2, by omega⟩
  have hk : q < d.size := by omega
  have hx : d.toList[q]? = some d[q]! := by rw [Array.getElem?_toList, Array.getElem?_eq_getElem hk, getElem!_pos d q hk]
  obtain ⟨h1, h2⟩ := bals_at d.toList q _ hx
  obtain ⟨f1, f2⟩ := flatB_at d q hk
  rcases hq with rfl | rfl
  · rw [h1, f1]
  · rw [h2, f2]
theorem holds_ownB {w : World} {B g n c : Nat} {l : List Bal} (h : w.ownsRow B 161 2 (.slice (some ⟨g, 0, none⟩) n c) n (bals l)) : HoldsK Bal.cells 2 w g 0 l.toArray := by
  intro j hj
  have hj2 : j < l.toArray.size * 2 := by rw [size_flatK] at hj; exact hj
  refine ⟨?_, own_warm h _⟩
  rw [Nat.zero_add]
  exact own_cell h (bals_flatK l.toArray j hj2)
theorem heap_mapB {w : World} {g : Nat} {cur : Array Value} {T : TypeId} (f : Array Value → Array Value) (h : w.heap[g]? = some (.cells cur T (0, 0))) : (mapBlock w g f).heap[g]? = some (.cells (f cur) T (0, 0)) := by
  simp [mapBlock, Array.getElem?_modify, h, onCells]
theorem sorted_rowB {w : World} {B g n c : Nat} {l : List Bal} (h : w.ownsRow B 161 2 (.slice (some ⟨g, 0, none⟩) n c) n (bals l)) (hl : l.length = n) (d : Array Bal) (hd : d.size = n) (m : Nat) (os : Array Obj) :
    (sortWorldK Bal.cells 2 w g 0 m d os).ownsRow B 161 2 (.slice (some ⟨g, 0, none⟩) n c) n (bals d.toList) ∧ w.grownBy (sortWorldK Bal.cells 2 w g 0 m d os) (some g) := by
  have hH := holds_ownB h
  have hg : g < w.heap.size := own_lt h g rfl
  have hS := holdsK_sortWorldK Bal.cells 2 w g 0 m l.toArray d os hg hH (by simp [hl, hd])
  rcases h.2 with ⟨h1, _⟩ | ⟨g', cap, cur, h1, hB, hh, hn, hc, hsz, ht⟩
  · cases h1
  · injection h1 with h1 _ h3
    injection h1 with h1
    injection h1 with h1
    subst h1 h3
    have hold : ∀ k, k < w.heap.size → (sortWorldK Bal.cells 2 w g 0 m d os).heap[k]? = (putRowK Bal.cells 2 (Sort.ahead w m) g 0 d).heap[k]? := fun k hk => heap_grow_old _ _ (by rw [size_putRowK]; exact hk)
    have hb : (sortWorldK Bal.cells 2 w g 0 m d os).heap[g]? = some (.cells (putCells id 0 (flatK Bal.cells 2 d) cur) 161 (0, 0)) := by
      rw [hold g hg]
      exact heap_mapB _ hh
    have hsz2 : (putCells id 0 (flatK Bal.cells 2 d) cur).size = cur.size := by simp [putCells]
    refine ⟨⟨by rw [bals_len, Array.length_toList, hd], .inr ⟨g, c, _, rfl, hB, hb, hn, hc, by rw [hsz2]; exact hsz, ?_⟩⟩, ⟨rfl, rfl, rfl, ?_, fun k hk hne => ?_⟩⟩
    · apply List.ext_getElem?
      intro j
      by_cases hj : j < n * 2
      · rw [List.getElem?_take_of_lt hj, bals_flatK d j (by omega)]
        have h1 := (hS j (by rw [size_flatK]; omega)).1
        rw [Nat.zero_add, cell_of hb] at h1
        rw [Array.getElem?_toList, h1]
        rfl
      · rw [List.getElem?_eq_none (by rw [List.length_take]; omega), List.getElem?_eq_none (by rw [bals_len, Array.length_toList]; omega)]
    · show w.heap.size ≤ (grow _ os).heap.size
      have : (putRowK Bal.cells 2 (Sort.ahead w m) g 0 d).heap.size = w.heap.size := by rw [size_putRowK]; rfl
      simp [grow]
      omega
    · rw [hold k hk]
      have hne2 : k ≠ g := fun e => hne (by rw [e])
      simp [putRowK, putRow, mapBlock, Array.getElem?_modify, Sort.ahead]
      intro e
      exact absurd e.symm hne2
theorem permInB {d d' : Array Bal} (h : PermIn 0 d.size d d') : d'.toList.Perm d.toList := by
  obtain ⟨h1, _, h3⟩ := h
  rw [Array.extract_size] at h3
  rwa [← h1, Array.extract_size] at h3
/-- Accounts that never fall. -/
def ByAcct (l : List Bal) : Prop := l.Pairwise fun x y => x.acct ≤ y.acct
theorem sortedInB {d : Array Bal} (h : SortedIn (ltOf cmpB) 0 d.size d) : ByAcct d.toList := by
  unfold ByAcct
  rw [List.pairwise_iff_getElem]
  intro i j hi hj hij
  have hi' : i < d.size := by simpa using hi
  have hj' : j < d.size := by simpa using hj
  have := h i j (Nat.zero_le _) hij hj'
  rw [ltB, getElem!_pos d i hi', getElem!_pos d j hj'] at this
  simpa using this
theorem cmpLaysB (blk off size : Nat) (w : World) : CmpLays Tryz.prog 172 #[] Bal.cells 2 cmpB blk off size w :=
  fun _ _ _ _ x y => (cmpBal_any x y _).mono fun e w' h => ⟨h.1, by
    rw [h.2]
    obtain ⟨q, os, hq⟩ := grow_twoN _ (.cells x.cells.toArray 161) (.cells y.cells.toArray 161) 0 #[]
    exact ⟨q, os, by rw [← hq, grow_empty]; rfl⟩⟩
set_option maxRecDepth 100000 in
set_option maxHeartbeats 1000000 in
/-- slices.SortFunc over a row of balances of one's own. -/
theorem sortB_any {w : World} {B g n c : Nat} {l : List Bal} (h : w.ownsRow B 161 2 (.slice (some ⟨g, 0, none⟩) n c) n (bals l)) (hl : l.length = n) (hn : n ≤ 1000000) :
    Calls Tryz.prog 171 #[.slice (some ⟨g, 0, none⟩) n c, .func (.func 172) #[] #[]] w fun e w' => e = .returned (.tuple #[]) ∧ (∃ L, L.Perm l ∧ ByAcct L ∧ w'.ownsRow B 161 2 (.slice (some ⟨g, 0, none⟩) n c) n (bals L)) ∧ w.grownBy w' (some g) := by
  have eg : ∀ args w, (callFunc 172 args).run Tryz.prog w = .ok (.enter 172 args) w := enters_of Tryz.func172 (by kernel_rfl) rfl
  have hs : l.toArray.size = n := by simp [hl]
  have hcon := AnyQ.slices_SortFunc Tryz.sortLays 2 Tryz.isAgg161 Tryz.sizeOf161 Bal.cells (fun _ => rfl) (fun x v hv => by simp [Bal.cells] at hv; rcases hv with rfl | rfl <;> rfl) cmpB swoB 172 #[] g 0 c l.toArray w eg (cmpLaysB g 0 l.toArray.size w) (holds_ownB h) (own_lt h g rfl) (by omega)
  rw [hs] at hcon
  refine Calls.mono (show Calls Tryz.prog 171 _ _ _ from hcon) ?_
  rintro e w' ⟨he, d', m, os, h1, h2, rfl⟩
  rw [← hs] at h1
  have hd : d'.size = n := by rw [h1.1, hs]
  have hp2 := permInB h1
  rw [← hd] at h2
  obtain ⟨k1, k2⟩ := sorted_rowB h hl d' hd m os
  exact ⟨he, ⟨_, hp2, sortedInB h2, k1⟩, k2⟩
set_option maxRecDepth 100000 in
set_option maxHeartbeats 1000000 in
theorem insertionB_nil (F : Value) (w : World) : Calls Tryz.prog 228 #[.slice none 0 0, .int .i64 0, .int .i64 0, F] w fun e w' => e = .returned (.tuple #[]) ∧ w = w' := by
  go_enter Tryz.func228, Tryz.ntmps228
  go_wp2_with fail
  go_loopw [8, 9] (fun iv _ wr => iv = .int .i64 1 ∧ wr = w) (fun _ _ _ => 0)
  case atStart => exact ⟨rfl, rfl⟩
  case round =>
    obtain ⟨rfl, rfl⟩ := hrel
    go_wp2_with fail
    go_end0
    exact ⟨rfl, rfl⟩
set_option maxRecDepth 100000 in
set_option maxHeartbeats 1000000 in
theorem pdqB_nil (F : Value) (w : World) : Calls Tryz.prog 206 #[.slice none 0 0, .int .i64 0, .int .i64 0, .int .i64 0, F] w fun e w' => e = .returned (.tuple #[]) ∧ w = w' := by
  go_enter Tryz.func206, Tryz.ntmps206
  go_wp2_with fail
  go_loopw [1, 2, 3, 10, 11, 12, 13, 14, 15, 16, 17, 18, 19, 20] (fun a b l wb wp _ _ _ _ _ _ _ _ _ wr => a = .int .i64 0 ∧ b = .int .i64 0 ∧ l = .int .i64 0 ∧ wr = w) (fun _ _ _ _ _ _ _ _ _ _ _ _ _ _ _ => 0)
  case atStart => exact ⟨rfl, rfl, rfl, rfl⟩
  case round =>
    obtain ⟨rfl, rfl, rfl, rfl⟩ := hrel
    go_wp2_with fail
    refine (insertionB_nil _ _).mono ?_
    rintro e w1 ⟨rfl, rfl⟩
    go_wp2_with fail
    exact bodyPost_ret (v := .tuple #[]) (by simp [results, Tryz.results206, go_sem]) rfl ⟨rfl, rfl⟩
set_option maxRecDepth 100000 in
set_option maxHeartbeats 1000000 in
theorem sortB_nil (F : Value) (w : World) : Calls Tryz.prog 171 #[.slice none 0 0, F] w fun e w' => e = .returned (.tuple #[]) ∧ w = w' := by
  have KB := Any.bits_Len (SlLaysF0.n15.bits (P := Tryz.prog) (ρ := Tryz.sortLays_ren) { Tryz.sortLays with }) 0 w (by omega) (by omega)
  have KB := Lib.hid (show Calls Tryz.prog 160 _ _ _ from KB)
  have KP := Lib.hid (pdqB_nil F)
  go_enter Tryz.func171, Tryz.ntmps171
  go_wp2_with fail
  refine KB.out.mono ?_
  rintro e w1 ⟨rfl, rfl⟩
  rw [show Lib.bitLen (Int.toNat 0) = 0 from rfl]
  go_wp2_with fail
  refine (KP.out _).mono ?_
  rintro e w1 ⟨rfl, rfl⟩
  go_wp2_with fail
  go_end0
  exact ⟨rfl, rfl⟩
end Go.Proofs.YtjlokkjbdgcooaaGreat
