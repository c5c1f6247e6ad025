/-
  Contracts of slices.SortFunc by agenda's order, and of (*Agenda).All.
-/
import Derived.Test.YtafloaabjinkfaaAgClone
import Derived.Test.YtafloaabjinkfaaSortLays
namespace Go.Proofs.Ytafloaabjinkfaa
open Go.RowKit Go.Sort Go.Shelf

theorem ltOf_ord (x y : Itm) : ltOf ordI x y = itmLt x y := ordI_lt x y
theorem swoI : SWO (ltOf ordI) where
  irrefl x := by rw [ltOf_ord]; exact itmOrd.irr x
  trans x y z h1 h2 := by rw [ltOf_ord] at *; simp [itmLt] at *; omega
  ntrans x y z h1 h2 := by rw [ltOf_ord] at *; exact itmOrd.neg _ _ _ h1 h2
theorem flatK_at (d : Array Itm) (q : Nat) (hq : q < d.size) : (flatK Itm.cells 3 d)[q * 3]! = .int .i64 d[q]!.per ∧ (flatK Itm.cells 3 d)[q * 3 + 1]! = .int .i64 d[q]!.rk ∧ (flatK Itm.cells 3 d)[q * 3 + 2]! = .int .i64 d[q]!.id := by
  refine ⟨?_, ?_, ?_⟩
  · rw [get_flatK _ _ _ _ (by omega), show q * 3 / 3 = q by omega, show q * 3 % 3 = 0 by omega]; rfl
  · rw [get_flatK _ _ _ _ (by omega), show (q * 3 + 1) / 3 = q by omega, show (q * 3 + 1) % 3 = 1 by omega]; rfl
  · rw [get_flatK _ _ _ _ (by omega), show (q * 3 + 2) / 3 = q by omega, show (q * 3 + 2) % 3 = 2 by omega]; rfl
theorem itms_flatK (d : Array Itm) (j : Nat) (hj : j < d.size * 3) : (itms d.toList)[j]? = some ((flatK Itm.cells 3 d)[j]!) := by
  obtain ⟨q, hq⟩ : ∃ q, j = q * 3 ∨ j = q * 3 + 1 ∨ j = q * 3 + 2 := ⟨j / 3, by omega⟩
  have hk : q < d.size := by omega
  have hx : d.toList[q]? = some d[q]! := by rw [Array.getElem?_toList, Array.getElem?_eq_getElem hk, getElem!_pos d q hk]
  obtain ⟨h1, h2, h3⟩ := itms_at d.toList q _ hx
  obtain ⟨f1, f2, f3⟩ := flatK_at d q hk
  rcases hq with rfl | rfl | rfl
  · rw [h1, f1]
  · rw [h2, f2]
  · rw [h3, f3]
theorem holds_own {w : World} {B g n c : Nat} {l : List Itm} (h : w.ownsRow B 33 3 (.slice (some ⟨g, 0, none⟩) n c) n (itms l)) : HoldsK Itm.cells 3 w g 0 l.toArray := by
  intro j hj
  have hj2 : j < l.toArray.size * 3 := by rw [size_flatK] at hj; exact hj
  refine ⟨?_, own_warm h _⟩
  rw [Nat.zero_add]
  exact own_cell h (itms_flatK l.toArray j hj2)
theorem heap_map {w : World} {g : Nat} {cur : Array Value} {T : TypeId} (f : Array Value → Array Value) (h : w.heap[g]? = some (.cells cur T (0, 0))) : (mapBlock w g f).heap[g]? = some (.cells (f cur) T (0, 0)) := by
  simp [mapBlock, Array.getElem?_modify, h, onCells]
theorem sorted_row {w : World} {B g n c : Nat} {l : List Itm} (h : w.ownsRow B 33 3 (.slice (some ⟨g, 0, none⟩) n c) n (itms l)) (hl : l.length = n) (d : Array Itm) (hd : d.size = n) (m : Nat) (os : Array Obj) :
    (sortWorldK Itm.cells 3 w g 0 m d os).ownsRow B 33 3 (.slice (some ⟨g, 0, none⟩) n c) n (itms d.toList) ∧ w.grownBy (sortWorldK Itm.cells 3 w g 0 m d os) (some g) := by
  have hH := holds_own h
  have hg : g < w.heap.size := own_lt h g rfl
  have hS := holdsK_sortWorldK Itm.cells 3 w g 0 m l.toArray d os hg hH (by simp [hl, hd])
  rcases h.2 with ⟨h1, _⟩ | ⟨g', cap, cur, h1, hB, hh, hn, hc, hsz, ht⟩
  · cases h1
  · injection h1 with h1 _ h3
    injection h1 with h1
    injection h1 with h1
    subst h1 h3
    have hold : ∀ k, k < w.heap.size → (sortWorldK Itm.cells 3 w g 0 m d os).heap[k]? = (putRowK Itm.cells 3 (Sort.ahead w m) g 0 d).heap[k]? := fun k hk => heap_grow_old _ _ (by rw [size_putRowK]; exact hk)
    have hb : (sortWorldK Itm.cells 3 w g 0 m d os).heap[g]? = some (.cells (putCells id 0 (flatK Itm.cells 3 d) cur) 33 (0, 0)) := by
      rw [hold g hg]
      exact heap_map _ hh
    have hsz2 : (putCells id 0 (flatK Itm.cells 3 d) cur).size = cur.size := by simp [putCells]
    refine ⟨⟨by rw [itms_len, Array.length_toList, hd], .inr ⟨g, c, _, rfl, hB, hb, hn, hc, by rw [hsz2]; exact hsz, ?_⟩⟩, ⟨rfl, rfl, rfl, ?_, fun k hk hne => ?_⟩⟩
    · apply List.ext_getElem?
      intro j
      by_cases hj : j < n * 3
      · rw [List.getElem?_take_of_lt hj, itms_flatK d j (by omega)]
        have h1 := (hS j (by rw [size_flatK]; omega)).1
        rw [Nat.zero_add, cell_of hb] at h1
        rw [Array.getElem?_toList, h1]
        rfl
      · rw [List.getElem?_eq_none (by rw [List.length_take]; omega), List.getElem?_eq_none (by rw [itms_len, Array.length_toList]; omega)]
    · show w.heap.size ≤ (grow _ os).heap.size
      have : (putRowK Itm.cells 3 (Sort.ahead w m) g 0 d).heap.size = w.heap.size := by rw [size_putRowK]; rfl
      simp [grow]
      omega
    · rw [hold k hk]
      have hne2 : k ≠ g := fun e => hne (by rw [e])
      simp [putRowK, putRow, mapBlock, Array.getElem?_modify, Sort.ahead]
      intro e
      exact absurd e.symm hne2
theorem permIn_all {d d' : Array Itm} (h : PermIn 0 d.size d d') : d'.toList.Perm d.toList := by
  obtain ⟨h1, _, h3⟩ := h
  rw [Array.extract_size] at h3
  rwa [← h1, Array.extract_size] at h3
theorem sortedIn_all {d : Array Itm} (h : SortedIn (ltOf ordI) 0 d.size d) : Rises d.toList := by
  unfold Rises
  rw [List.pairwise_iff_getElem]
  intro i j hi hj hij
  have hi' : i < d.size := by simpa using hi
  have hj' : j < d.size := by simpa using hj
  have := h i j (Nat.zero_le _) hij hj'
  rw [ltOf_ord, getElem!_pos d i hi', getElem!_pos d j hj'] at this
  simpa using this
theorem ordCmp (blk off size : Nat) (w : World) : CmpLays Try.prog 23 #[] Itm.cells 3 ordI blk off size w :=
  fun _ _ _ _ x y => order_any x y _
set_option maxRecDepth 100000 in
set_option maxHeartbeats 1000000 in
/-- slices.SortFunc over a row of one's own. -/
theorem sort_any {w : World} {B g n c : Nat} {l : List Itm} (h : w.ownsRow B 33 3 (.slice (some ⟨g, 0, none⟩) n c) n (itms l)) (hl : l.length = n) (hn : n ≤ 1000000) {L : List Itm} (hL : Rises L) (hp : L.Perm l) :
    Calls Try.prog 22 #[.slice (some ⟨g, 0, none⟩) n c, .func (.func 23) #[] #[]] w fun e w' => e = .returned (.tuple #[]) ∧ w'.ownsRow B 33 3 (.slice (some ⟨g, 0, none⟩) n c) n (itms L) ∧ w.grownBy w' (some g) := by
  have eg : ∀ args w, (callFunc 23 args).run Try.prog w = .ok (.enter 23 args) w := enters_of Try.func23 (by kernel_rfl) rfl
  have hs : l.toArray.size = n := by simp [hl]
  have hcon := AnyQ.slices_SortFunc Try.sortLays 3 Try.isAgg33 Try.sizeOf33 Itm.cells (fun _ => rfl) (fun x v hv => by simp [Itm.cells] at hv; rcases hv with rfl | rfl | rfl <;> rfl) ordI swoI 23 #[] g 0 c l.toArray w eg (ordCmp g 0 l.toArray.size w) (holds_own h) (own_lt h g rfl) (by omega)
  rw [hs] at hcon
  refine Calls.mono (show Calls Try.prog 22 _ _ _ from hcon) ?_
  rintro e w' ⟨he, d', m, os, h1, h2, rfl⟩
  rw [← hs] at h1
  have hd : d'.size = n := by rw [h1.1, hs]
  have hp2 := permIn_all h1
  rw [← hd] at h2
  have hLd : d'.toList = L := Rises.same (sortedIn_all h2) hL (hp2.trans hp.symm)
  obtain ⟨k1, k2⟩ := sorted_row h hl d' hd m os
  rw [hLd] at k1
  exact ⟨he, k1, k2⟩
set_option maxRecDepth 100000 in
set_option maxHeartbeats 1000000 in
theorem insertion_nil (F : Value) (w : World) : Calls Try.prog 31 #[.slice none 0 0, .int .i64 0, .int .i64 0, F] w fun e w' => e = .returned (.tuple #[]) ∧ w = w' := by
  go_enter Try.func31, Try.ntmps31
  go_wp2_with fail
  go_loopw [8, 9] (fun iv _ wr => iv = .int .i64 1 ∧ wr = w) (fun _ _ _ => 0)
  case atStart => exact ⟨rfl, rfl⟩
  case round =>
    obtain ⟨rfl, rfl⟩ := hrel
    go_wp2_with fail
    go_end0
    exact ⟨rfl, rfl⟩
set_option maxRecDepth 100000 in
set_option maxHeartbeats 1000000 in
theorem pdq_nil (F : Value) (w : World) : Calls Try.prog 27 #[.slice none 0 0, .int .i64 0, .int .i64 0, .int .i64 0, F] w fun e w' => e = .returned (.tuple #[]) ∧ w = w' := by
  go_enter Try.func27, Try.ntmps27
  go_wp2_with fail
  go_loopw [1, 2, 3, 10, 11, 12, 13, 14, 15, 16, 17, 18, 19, 20] (fun a b l wb wp _ _ _ _ _ _ _ _ _ wr => a = .int .i64 0 ∧ b = .int .i64 0 ∧ l = .int .i64 0 ∧ wr = w) (fun _ _ _ _ _ _ _ _ _ _ _ _ _ _ _ => 0)
  case atStart => exact ⟨rfl, rfl, rfl, rfl⟩
  case round =>
    obtain ⟨rfl, rfl, rfl, rfl⟩ := hrel
    go_wp2_with fail
    refine (insertion_nil _ _).mono ?_
    rintro e w1 ⟨rfl, rfl⟩
    go_wp2_with fail
    exact bodyPost_ret (v := .tuple #[]) (by simp [results, Try.results27, go_sem]) rfl ⟨rfl, rfl⟩
set_option maxRecDepth 100000 in
set_option maxHeartbeats 1000000 in
theorem sort_nil (F : Value) (w : World) : Calls Try.prog 22 #[.slice none 0 0, F] w fun e w' => e = .returned (.tuple #[]) ∧ w = w' := by
  have KB := Any.bits_Len (SlLaysF0.n15.bits (P := Try.prog) (ρ := Try.sortLays_ren) { Try.sortLays with }) 0 w (by omega) (by omega)
  have KB := Lib.hid (show Calls Try.prog 28 _ _ _ from KB)
  have KP := Lib.hid (pdq_nil F)
  go_enter Try.func22, Try.ntmps22
  go_wp2_with fail
  refine KB.out.mono ?_
  rintro e w1 ⟨rfl, rfl⟩
  rw [show Lib.bitLen (Int.toNat 0) = 0 from rfl]
  go_wp2_with fail
  refine (KP.out _).mono ?_
  rintro e w1 ⟨rfl, rfl⟩
  go_wp2_with fail
  go_end0
  exact ⟨rfl, rfl⟩

set_option maxRecDepth 100000 in
set_option maxHeartbeats 1000000 in
theorem agAll_any {w : World} {B b : Nat} {v : Value} {L : List Itm} (h : AgAt w B b v L) :
    Calls Try.prog 13 #[.pointer (some ⟨b, 0, none⟩)] w fun e w' => ∃ A c, e = .returned (.slice A L.length c) ∧ w'.ownsRow w.heap.size 33 3 (.slice A L.length c) L.length (itms L) ∧ Below w.heap.size w w' := by
  have hcell := h.cell
  have hbl := h.lt
  have hl := h.len
  obtain ⟨f, hh, _, hrise, hperm, _⟩ := h
  obtain ⟨A, c, rfl⟩ := own_form hh.own
  have KC := Lib.hid (clone_anyAg B L.length c A (lst f L.length) w hh.own (by omega))
  have HRI := Lib.hid hrise
  have HPM := Lib.hid hperm
  clear hh hrise hperm
  go_enter Try.func13, Try.ntmps13
  go_wp2_with fail
  refine KC.out.mono ?_
  rintro e w1 ⟨A1, c1, rfl, hown, hb⟩
  have HB := Lib.hid hb
  have HO := Lib.hid hown
  rcases hown.2 with ⟨hv, hn0⟩ | ⟨g, cap, cur, hv, hB, _⟩
  · injection hv with hv1 hv2 hv3
    subst hv1 hv3
    have hl0 : L = [] := List.eq_nil_of_length_eq_zero hn0
    subst hl0
    clear hown hb hn0 hv2
    go_wp2_with fail
    refine (sort_nil _ _).mono ?_
    rintro e w2 ⟨rfl, rfl⟩
    go_wp2_with fail
    go_ret
    exact ⟨none, 0, rfl, HO.out, HB.out⟩
  · injection hv with hv1 hv2 hv3
    subst hv1 hv3
    clear hown hb hv2
    go_wp2_with fail
    refine (sort_any HO.out (lst_len _ _) (by omega) HRI.out HPM.out).mono ?_
    rintro e w2 ⟨rfl, hown2, hg⟩
    have HO2 := Lib.hid hown2
    have HB2 : Hid (Below w.heap.size w w2) := HB.out.grown hg HB.out.size (fun k hk => by injection hk with hk; omega)
    clear hown2 hg hB
    go_wp2_with fail
    go_ret
    exact ⟨_, _, rfl, HO2.out, HB2.out⟩
set_option maxRecDepth 100000 in
theorem agAll_nil (w : World) : Calls Try.prog 13 #[.pointer none] w fun e w' => e = .returned (.slice none 0 0) ∧ w = w' := by
  go_enter Try.func13, Try.ntmps13
  go_wp2
  go_ret
  exact ⟨rfl, rfl⟩
end Go.Proofs.Ytafloaabjinkfaa
