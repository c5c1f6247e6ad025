/-
  Several texts, one behind the other: what each holds stands ahead of it.
-/
import Derived.Shelf.SlSortCmp.WholeK
import Derived.Ground.SlsfProg
import Derived.Test.YthjpknipnmagkaaGreatProg
import Derived.Test.YthjpknipnmagkaaGreatMany2
import Derived.BigQuiet

/-
  DERIVED: THE SHELF's CONTRACTS AT THIS DUMP, IN PLAIN WORDS (tools/lay-plain.mjs out of 'TryzSort.lean', which tools/lay-shelf.mjs wrote): THE SAME DECLARATIONS UNDER THE SAME NAMES: 'import', 'namespace', 'open', 'def', 'theorem' AND NOTHING ELSE: no command of the shelf's: FOR A HAND-IN. Each laying: the table of numbers ('.._ren') and one theorem, a field a fact of the dump's own or the kernel's comparison; each contract: ONE APPLICATION.
-/
namespace Go.Proofs
open Go.Shelf
def Tryz.sortLays_ren : Go.Shelf.Ren := ⟨fun | 6 => 167 | 15 => 156 | 14 => 203 | 28 => 194 | 29 => 195 | 20 => 226 | 21 => 227 | 22 => 228 | 23 => 229 | 24 => 230 | 25 => 231 | 26 => 232 | 27 => 233 | 46 => 252 | 47 => 215 | 48 => 216 | 49 => 253 | 50 => 254 | 57 => 259 | n => n, fun | 22 => 81 | 24 => 99 | 25 => 228 | 3 => 3 | 39 => 214 | 0 => 0 | 53 => 260 | 55 => 230 | 4 => 4 | 46 => 254 | 45 => 253 | 50 => 239 | 5 => 5 | 9 => 9 | 66 => 290 | 70 => 294 | 76 => 306 | 77 => 307 | n => n, fun | n => n⟩
theorem Tryz.sortLays : Go.Proofs.SlLaysF0.n6 Tryz.prog Tryz.sortLays_ren := {
  mixed := by kernel_rfl
  f6 := ⟨Tryz.f167.name, by decide, Tryz.func167.trans (congrArg some (by kernel_rfl))⟩
  f14 := ⟨Tryz.f203.name, by decide, Tryz.func203.trans (congrArg some (by kernel_rfl))⟩
  f15 := Tryz.func156.trans (congrArg some (by kernel_rfl))
  f20 := ⟨Tryz.f226.name, by decide, Tryz.func226.trans (congrArg some (by kernel_rfl))⟩
  f21 := ⟨Tryz.f227.name, by decide, Tryz.func227.trans (congrArg some (by kernel_rfl))⟩
  f22 := ⟨Tryz.f228.name, by decide, Tryz.func228.trans (congrArg some (by kernel_rfl))⟩
  f23 := ⟨Tryz.f229.name, by decide, Tryz.func229.trans (congrArg some (by kernel_rfl))⟩
  f24 := ⟨Tryz.f230.name, by decide, Tryz.func230.trans (congrArg some (by kernel_rfl))⟩
  f25 := ⟨Tryz.f231.name, by decide, Tryz.func231.trans (congrArg some (by kernel_rfl))⟩
  f26 := ⟨Tryz.f232.name, by decide, Tryz.func232.trans (congrArg some (by kernel_rfl))⟩
  f27 := ⟨Tryz.f233.name, by decide, Tryz.func233.trans (congrArg some (by kernel_rfl))⟩
  f28 := Tryz.func194.trans (congrArg some (by kernel_rfl))
  f29 := Tryz.func195.trans (congrArg some (by kernel_rfl))
  f46 := ⟨Tryz.f252.name, by decide, Tryz.func252.trans (congrArg some (by kernel_rfl))⟩
  f47 := Tryz.func215.trans (congrArg some (by kernel_rfl))
  f48 := Tryz.func216.trans (congrArg some (by kernel_rfl))
  f49 := ⟨Tryz.f253.name, by decide, Tryz.func253.trans (congrArg some (by kernel_rfl))⟩
  f50 := ⟨Tryz.f254.name, by decide, Tryz.func254.trans (congrArg some (by kernel_rfl))⟩
  f57 := ⟨Tryz.f259.name, by decide, Tryz.func259.trans (congrArg some (by kernel_rfl))⟩
  t0 := Tryz.underlying0
  a0 := Tryz.isAgg0
  z0 := Tryz.sizeOf0
  v0 := Tryz.zeroValue0
  t3 := Tryz.underlying3
  a3 := Tryz.isAgg3
  z3 := Tryz.sizeOf3
  v3 := Tryz.zeroValue3
  t4 := Tryz.underlying4
  a4 := Tryz.isAgg4
  z4 := Tryz.sizeOf4
  v4 := Tryz.zeroValue4
  t5 := Tryz.underlying5
  a5 := Tryz.isAgg5
  z5 := Tryz.sizeOf5
  v5 := Tryz.zeroValue5
  t9 := Tryz.underlying9
  a9 := Tryz.isAgg9
  z9 := Tryz.sizeOf9
  v9 := Tryz.zeroValue9
  t22 := Tryz.underlying81
  a22 := Tryz.isAgg81
  z22 := Tryz.sizeOf81
  v22 := Tryz.zeroValue81
  t25 := Tryz.underlying228
  a25 := Tryz.isAgg228
  z25 := Tryz.sizeOf228
  v25 := Tryz.zeroValue228
  t39 := Tryz.underlying214
  a39 := Tryz.isAgg214
  z39 := Tryz.sizeOf214
  v39 := Tryz.zeroValue214
  t45 := Tryz.underlying253
  a45 := Tryz.isAgg253
  z45 := Tryz.sizeOf253
  v45 := Tryz.zeroValue253
  t46 := Tryz.underlying254
  a46 := Tryz.isAgg254
  z46 := Tryz.sizeOf254
  v46 := Tryz.zeroValue254
  t50 := Tryz.underlying239
  a50 := Tryz.isAgg239
  z50 := Tryz.sizeOf239
  v50 := Tryz.zeroValue239
  t53 := Tryz.underlying260
  a53 := Tryz.isAgg260
  z53 := Tryz.sizeOf260
  v53 := Tryz.zeroValue260
  t55 := Tryz.underlying230
  a55 := Tryz.isAgg230
  z55 := Tryz.sizeOf230
  v55 := Tryz.zeroValue230
  t66 := Tryz.underlying290
  a66 := Tryz.isAgg290
  z66 := Tryz.sizeOf290
  v66 := Tryz.zeroValue290
  t70 := Tryz.underlying294
  a70 := Tryz.isAgg294
  z70 := Tryz.sizeOf294
  v70 := Tryz.zeroValue294
  t76 := Tryz.underlying306
  a76 := Tryz.isAgg306
  z76 := Tryz.sizeOf306
  v76 := Tryz.zeroValue306
  t77 := Tryz.underlying307
  a77 := Tryz.isAgg307
  z77 := Tryz.sizeOf307
  v77 := Tryz.zeroValue307 }
end Go.Proofs

/-
  Contract of trial's order of balances; how often the first one's account stands at a list's start; slices.SortFunc of balances.
-/
namespace Go.Proofs.YthjpknipnmagkaaGreat
open Go.RowKit Go.Sort Go.Shelf

set_option maxRecDepth 100000 in
set_option maxHeartbeats 400000 in
theorem cmpBal_any (x y : Bal) (w : World) : Calls Tryz.prog 168 #[.agg x.cells.toArray, .agg y.cells.toArray] w fun e w' => e = .returned (.int .i64 (cmpN x.acct y.acct)) ∧ w' = (w.alloc (.cells x.cells.toArray 99)).alloc (.cells y.cells.toArray 99) := by
  obtain ⟨x1, x2⟩ := x
  obtain ⟨y1, y2⟩ := y
  unfold Bal.cells
  dsimp only
  have k1 := Lib.hid (cmp_anyN x1 y1)
  go_enter Tryz.func168, Tryz.ntmps168
  go_wp2_with fail
  refine (k1.out _).mono ?_
  rintro e w1 ⟨rfl, rfl⟩
  go_wp2_with fail
  go_ret
  exact ⟨rfl, rfl⟩

instance : Inhabited Bal := ⟨⟨0, 0⟩⟩
/-- The order of balances: by their accounts alone. -/
def cmpB (x y : Bal) : Int := cmpN x.acct y.acct
theorem ltB (x y : Bal) : ltOf cmpB x y = decide (x.acct < y.acct) := by
  unfold ltOf cmpB cmpN
  by_cases h1 : x.acct < y.acct
  · simp [h1]
  · by_cases h2 : y.acct < x.acct <;> simp [h1, h2]
theorem swoB : SWO (ltOf cmpB) where
  irrefl x := by rw [ltB]; simp
  trans x y z h1 h2 := by rw [ltB] at *; simp at *; omega
  ntrans x y z h1 h2 := by rw [ltB] at *; simp at *; omega
theorem flatB_at (d : Array Bal) (q : Nat) (hq : q < d.size) : (flatK Bal.cells 2 d)[q * 2]! = .int .i64 d[q]!.acct ∧ (flatK Bal.cells 2 d)[q * 2 + 1]! = .int .i64 d[q]!.amt := by
  refine ⟨?_, ?_⟩
  · rw [get_flatK _ _ _ _ (by omega), show q * 2 / 2 = q by omega, show q * 2 % 2 = 0 by omega]; rfl
  · rw [get_flatK _ _ _ _ (by omega), show (q * 2 + 1) / 2 = q by omega, show (q * 2 + 1) % 2 = 1 by omega]; rfl
theorem bals_flatK (d : Array Bal) (j : Nat) (hj : j < d.size * 2) : (bals d.toList)[j]? = some ((flatK Bal.cells 2 d)[j]!) := by
  obtain ⟨q, hq⟩ : ∃ q, j = q * 2 ∨ j = q * 2 + 1 := ⟨j / 2, by omega⟩
  have hk : q < d.size := by omega
  have hx : d.toList[q]? = some d[q]! := by rw [Array.getElem?_toList, Array.getElem?_eq_getElem hk, getElem!_pos d q hk]
  obtain ⟨h1, h2⟩ := bals_at d.toList q _ hx
  obtain ⟨f1, f2⟩ := flatB_at d q hk
  rcases hq with rfl | rfl
  · rw [h1, f1]
  · rw [h2, f2]
theorem holds_ownB {w : World} {B g n c : Nat} {l : List Bal} (h : w.ownsRow B 99 2 (.slice (some ⟨g, 0, none⟩) n c) n (bals l)) : HoldsK Bal.cells 2 w g 0 l.toArray := by
  intro j hj
  have hj2 : j < l.toArray.size * 2 := by rw [size_flatK] at hj; exact hj
  refine ⟨?_, own_warm h _⟩
  rw [Nat.zero_add]
  exact own_cell h (bals_flatK l.toArray j hj2)
theorem heap_mapB {w : World} {g : Nat} {cur : Array Value} {T : TypeId} (f : Array Value → Array Value) (h : w.heap[g]? = some (.cells cur T (0, 0))) : (mapBlock w g f).heap[g]? = some (.cells (f cur) T (0, 0)) := by
  simp [mapBlock, Array.getElem?_modify, h, onCells]
theorem sorted_rowB {w : World} {B g n c : Nat} {l : List Bal} (h : w.ownsRow B 99 2 (.slice (some ⟨g, 0, none⟩) n c) n (bals l)) (hl : l.length = n) (d : Array Bal) (hd : d.size = n) (m : Nat) (os : Array Obj) :
    (sortWorldK Bal.cells 2 w g 0 m d os).ownsRow B 99 2 (.slice (some ⟨g, 0, none⟩) n c) n (bals d.toList) ∧ w.grownBy (sortWorldK Bal.cells 2 w g 0 m d os) (some g) := by
  have hH := holds_ownB h
  have hg : g < w.heap.size := own_lt h g rfl
  have hS := holdsK_sortWorldK Bal.cells 2 w g 0 m l.toArray d os hg hH (by simp [hl, hd])
  rcases h.2 with ⟨h1, _⟩ | ⟨g', cap, cur, h1, hB, hh, hn, hc, hsz, ht⟩
  · cases h1
  · injection h1 with h1 _ h3
    injection h1 with h1
    injection h1 with h1
    subst h1 h3
    have hold : ∀ k, k < w.heap.size → (sortWorldK Bal.cells 2 w g 0 m d os).heap[k]? = (putRowK Bal.cells 2 (Sort.ahead w m) g 0 d).heap[k]? := fun k hk => heap_grow_old _ _ (by rw [size_putRowK]; exact hk)
    have hb : (sortWorldK Bal.cells 2 w g 0 m d os).heap[g]? = some (.cells (putCells id 0 (flatK Bal.cells 2 d) cur) 99 (0, 0)) := by
      rw [hold g hg]
      exact heap_mapB _ hh
    have hsz2 : (putCells id 0 (flatK Bal.cells 2 d) cur).size = cur.size := by simp [putCells]
    refine ⟨⟨by rw [bals_len, Array.length_toList, hd], .inr ⟨g, c, _, rfl, hB, hb, hn, hc, by rw [hsz2]; exact hsz, ?_⟩⟩, ⟨rfl, rfl, rfl, ?_, fun k hk hne => ?_⟩⟩
    · apply List.ext_getElem?
      intro j
      by_cases hj : j < n * 2
      · rw [List.getElem?_take_of_lt hj, bals_flatK d j (by omega)]
        have h1 := (hS j (by rw [size_flatK]; omega)).1
        rw [Nat.zero_add, cell_of hb] at h1
        rw [Array.getElem?_toList, h1]
        rfl
      · rw [List.getElem?_eq_none (by rw [List.length_take]; omega), List.getElem?_eq_none (by rw [bals_len, Array.length_toList]; omega)]
    · show w.heap.size ≤ (grow _ os).heap.size
      have : (putRowK Bal.cells 2 (Sort.ahead w m) g 0 d).heap.size = w.heap.size := by rw [size_putRowK]; rfl
      simp [grow]
      omega
    · rw [hold k hk]
      have hne2 : k ≠ g := fun e => hne (by rw [e])
      simp [putRowK, putRow, mapBlock, Array.getElem?_modify, Sort.ahead]
      intro e
      exact absurd e.symm hne2
theorem permInB {d d' : Array Bal} (h : PermIn 0 d.size d d') : d'.toList.Perm d.toList := by
  obtain ⟨h1, _, h3⟩ := h
  rw [Array.extract_size] at h3
  rwa [← h1, Array.extract_size] at h3
/-- Accounts that never fall. -/
def ByAcct (l : List Bal) : Prop := l.Pairwise fun x y => x.acct ≤ y.acct
theorem sortedInB {d : Array Bal} (h : SortedIn (ltOf cmpB) 0 d.size d) : ByAcct d.toList := by
  unfold ByAcct
  rw [List.pairwise_iff_getElem]
  intro i j hi hj hij
  have hi' : i < d.size := by simpa using hi
  have hj' : j < d.size := by simpa using hj
  have := h i j (Nat.zero_le _) hij hj'
  rw [ltB, getElem!_pos d i hi', getElem!_pos d j hj'] at this
  simpa using this
theorem cmpLaysB (blk off size : Nat) (w : World) : CmpLays Tryz.prog 168 #[] Bal.cells 2 cmpB blk off size w :=
  fun _ _ _ _ x y => (cmpBal_any x y _).mono fun e w' h => ⟨h.1, by
    rw [h.2]
    obtain ⟨q, os, hq⟩ := grow_twoN _ (.cells x.cells.toArray 99) (.cells y.cells.toArray 99) 0 #[]
    exact ⟨q, os, by rw [← hq, grow_empty]; rfl⟩⟩
set_option maxRecDepth 100000 in
set_option maxHeartbeats 1000000 in
/-- slices.SortFunc over a row of balances of one's own. -/
theorem sortB_any {w : World} {B g n c : Nat} {l : List Bal} (h : w.ownsRow B 99 2 (.slice (some ⟨g, 0, none⟩) n c) n (bals l)) (hl : l.length = n) (hn : n ≤ 1000000) :
    Calls Tryz.prog 167 #[.slice (some ⟨g, 0, none⟩) n c, .func (.func 168) #[] #[]] w fun e w' => e = .returned (.tuple #[]) ∧ (∃ L, L.Perm l ∧ ByAcct L ∧ w'.ownsRow B 99 2 (.slice (some ⟨g, 0, none⟩) n c) n (bals L)) ∧ w.grownBy w' (some g) := by
  have eg : ∀ args w, (callFunc 168 args).run Tryz.prog w = .ok (.enter 168 args) w := enters_of Tryz.func168 (by kernel_rfl) rfl
  have hs : l.toArray.size = n := by simp [hl]
  have hcon := AnyQ.slices_SortFunc Tryz.sortLays 2 Tryz.isAgg99 Tryz.sizeOf99 Bal.cells (fun _ => rfl) (fun x v hv => by simp [Bal.cells] at hv; rcases hv with rfl | rfl <;> rfl) cmpB swoB 168 #[] g 0 c l.toArray w eg (cmpLaysB g 0 l.toArray.size w) (holds_ownB h) (own_lt h g rfl) (by omega)
  rw [hs] at hcon
  refine Calls.mono (show Calls Tryz.prog 167 _ _ _ from hcon) ?_
  rintro e w' ⟨he, d', m, os, h1, h2, rfl⟩
  rw [← hs] at h1
  have hd : d'.size = n := by rw [h1.1, hs]
  have hp2 := permInB h1
  rw [← hd] at h2
  obtain ⟨k1, k2⟩ := sorted_rowB h hl d' hd m os
  exact ⟨he, ⟨_, hp2, sortedInB h2, k1⟩, k2⟩
set_option maxRecDepth 100000 in
set_option maxHeartbeats 1000000 in
theorem insertionB_nil (F : Value) (w : World) : Calls Tryz.prog 226 #[.slice none 0 0, .int .i64 0, .int .i64 0, F] w fun e w' => e = .returned (.tuple #[]) ∧ w = w' := by
  go_enter Tryz.func226, Tryz.ntmps226
  go_wp2_with fail
  go_loopw [8, 9] (fun iv _ wr => iv = .int .i64 1 ∧ wr = w) (fun _ _ _ => 0)
  case atStart => exact ⟨rfl, rfl⟩
  case round =>
    obtain ⟨rfl, rfl⟩ := hrel
    go_wp2_with fail
    go_end0
    exact ⟨rfl, rfl⟩
set_option maxRecDepth 100000 in
set_option maxHeartbeats 1000000 in
theorem pdqB_nil (F : Value) (w : World) : Calls Tryz.prog 203 #[.slice none 0 0, .int .i64 0, .int .i64 0, .int .i64 0, F] w fun e w' => e = .returned (.tuple #[]) ∧ w = w' := by
  go_enter Tryz.func203, Tryz.ntmps203
  go_wp2_with fail
  go_loopw [1, 2, 3, 10, 11, 12, 13, 14, 15, 16, 17, 18, 19, 20] (fun a b l wb wp _ _ _ _ _ _ _ _ _ wr => a = .int .i64 0 ∧ b = .int .i64 0 ∧ l = .int .i64 0 ∧ wr = w) (fun _ _ _ _ _ _ _ _ _ _ _ _ _ _ _ => 0)
  case atStart => exact ⟨rfl, rfl, rfl, rfl⟩
  case round =>
    obtain ⟨rfl, rfl, rfl, rfl⟩ := hrel
    go_wp2_with fail
    refine (insertionB_nil _ _).mono ?_
    rintro e w1 ⟨rfl, rfl⟩
    go_wp2_with fail
    exact bodyPost_ret (v := .tuple #[]) (by simp [results, Tryz.results203, go_sem]) rfl ⟨rfl, rfl⟩
set_option maxRecDepth 100000 in
set_option maxHeartbeats 1000000 in
theorem sortB_nil (F : Value) (w : World) : Calls Tryz.prog 167 #[.slice none 0 0, F] w fun e w' => e = .returned (.tuple #[]) ∧ w = w' := by
  have KB := Any.bits_Len (SlLaysF0.n15.bits (P := Tryz.prog) (ρ := Tryz.sortLays_ren) { Tryz.sortLays with }) 0 w (by omega) (by omega)
  have KB := Lib.hid (show Calls Tryz.prog 156 _ _ _ from KB)
  have KP := Lib.hid (pdqB_nil F)
  go_enter Tryz.func167, Tryz.ntmps167
  go_wp2_with fail
  refine KB.out.mono ?_
  rintro e w1 ⟨rfl, rfl⟩
  rw [show Lib.bitLen (Int.toNat 0) = 0 from rfl]
  go_wp2_with fail
  refine (KP.out _).mono ?_
  rintro e w1 ⟨rfl, rfl⟩
  go_wp2_with fail
  go_end0
  exact ⟨rfl, rfl⟩
end Go.Proofs.YthjpknipnmagkaaGreat
