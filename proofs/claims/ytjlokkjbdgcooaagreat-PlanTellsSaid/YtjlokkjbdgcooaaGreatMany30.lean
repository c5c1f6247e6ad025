/-
  Several texts, one behind the other: what each holds stands ahead of it.
-/
import Derived.Test.YtjlokkjbdgcooaaGreatMany29
import Derived.Lib.SliceRun
import Derived.Deep.RegionLaw
import Derived.Test.YtjlokkjbdgcooaaGreatMany16
import Derived.Test.YtjlokkjbdgcooaaGreatMany14
import Derived.LoopN
import Derived.Laws.EntriesVeiled
import Derived.Test.YtjlokkjbdgcooaaGreatMany28

/-
  Contract of slices.Delete over journals, of one element.
-/
namespace Go.Proofs.YtjlokkjbdgcooaaGreat
open Go.RowKit

theorem run_clear_one {P : Program} (w : World) (t e ty : TypeId) (z : Value) (zs : List Value) (ht : P.underlying t = some (.slice e)) (hv : ∀ w, (zeroValue e).run P w = .ok z w) (hz : (Builtin.zeroCells z.cells 1).toList = zs) (h1 : ∀ u ∈ zs, u.oneCell' = true) (b o c : Nat)
    (hc : ∀ j, j < zs.length → (w.cell? ⟨b, o + j, none⟩).isSome = true) (hf : ∀ j, j < zs.length → w.frozen? ⟨b, o + j, none⟩ = false) :
    (Builtin.clear_ #[t] ty #[.slice (some ⟨b, o, none⟩) 1 c]).run P w = .ok (.tuple #[]) (w.setCells b o zs) := by
  have hst := run_storeCells_cells (P := P) b o zs 0 w (by simpa using hc) (by simpa using hf) h1
  simp only [Nat.add_zero] at hst
  simp [Builtin.clear_, run_underlying ht, hv, hz, hst]
/-- A row, taken for fewer elements. -/
theorem own_less {w : World} {B g n c size : Nat} {e : TypeId} {L : List Value} (h : w.ownsRow B e size (.slice (some ⟨g, 0, none⟩) n c) n L) {m : Nat} (hm : m ≤ n) : w.ownsRow B e size (.slice (some ⟨g, 0, none⟩) m c) m (L.take (m * size)) := by
  obtain ⟨cur, hh, hB, hnc, hcm, hsz, hL⟩ := own_blk h
  have hl := h.1
  have hms := Nat.mul_le_mul_right size hm
  refine ⟨by simp; omega, .inr ⟨g, c, cur, rfl, hB, hh, by omega, hcm, hsz, ?_⟩⟩
  rw [← hL, List.take_take, Nat.min_eq_left hms]
theorem del_core (a m d zs : List Value) (hm : m.length = zs.length) : (setL (setL (a ++ (m ++ d)) a.length d) (a.length + d.length) zs).take (a.length + d.length) = a ++ d := by
  rw [setL_mid d a (m ++ d) (by simp)]
  have hr : ((m ++ d).drop d.length).length = m.length := by simp
  have hl : a.length + d.length = (a ++ d).length := by simp
  rw [hl, setL_mid zs (a ++ d) _ (by omega), List.append_assoc, List.take_left]
theorem del_jrs (l : List JR) (n i : Nat) (hn : l.length = n) (hi : i < n) (zs : List Value) (hz : zs.length = 6) :
    (setL (setL (jrs l) (i * 6) (jrs (l.drop (i + 1)))) ((n - 1) * 6) zs).take ((n - 1) * 6) = jrs (l.take i ++ l.drop (i + 1)) := by
  obtain ⟨a, ha⟩ : ∃ a, l[i]? = some a := ⟨_, List.getElem?_eq_getElem (by omega)⟩
  have he : jrs l = jrs (l.take i) ++ (a.cells ++ jrs (l.drop (i + 1))) := by
    conv => lhs; rw [← List.take_append_drop i l, List.drop_eq_getElem_cons (by omega : i < l.length)]
    rw [jrs_append]
    have : l[i] = a := by rw [List.getElem?_eq_getElem (by omega)] at ha; injection ha
    rw [this]
    rfl
  have h1 : (jrs (l.take i)).length = i * 6 := by rw [jrs_len]; simp; omega
  have h2 : (jrs (l.drop (i + 1))).length = (n - 1 - i) * 6 := by rw [jrs_len]; simp; omega
  have := del_core (jrs (l.take i)) a.cells (jrs (l.drop (i + 1))) zs (by rw [hz]; rfl)
  rw [h1, h2, ← he, show i * 6 + (n - 1 - i) * 6 = (n - 1) * 6 by omega] at this
  rw [this, jrs_append]

end Go.Proofs.YtjlokkjbdgcooaaGreat

/-
  Contracts of slices.Clone over lines, entry.Copy.
-/
namespace Go.Proofs.YtjlokkjbdgcooaaGreat
open Go.RowKit

theorem own_empty (w : World) (T : TypeId) (size : Nat) : (w.alloc (.cells #[] T)).ownsRow w.heap.size T size (.slice (some ⟨w.heap.size, 0, none⟩) 0 0) 0 [] :=
  ⟨by simp, .inr ⟨w.heap.size, 0, #[], rfl, Nat.le_refl _, heap_new _ _, Nat.le_refl _, Nat.zero_le _, by simp, by simp⟩⟩

set_option maxRecDepth 100000 in
set_option maxHeartbeats 400000 in
theorem cloneLins_any (n c B : Nat) (A : Option Addr) (l : List Lin) (w : World) (h : Rd w B 3 A n (lins l)) (hB : B ≤ w.heap.size) (hn : n ≤ 1000000) (h0 : A = none → c = 0) :
    Calls Tryz.prog 227 #[.slice A n c] w fun e w' => ∃ A' c', e = .returned (.slice A' n c') ∧ w'.ownsRow w.heap.size 113 3 (.slice A' n c') n (lins l) ∧ Below w.heap.size w w' := by
  rcases A with _ | ad
  · have h1 : n = 0 := by
      rcases Nat.eq_zero_or_pos n with h1 | h1
      · exact h1
      · obtain ⟨ad, e, _⟩ := h.2 h1
        cases e
    obtain rfl := h0 rfl
    subst h1
    have hl : lins l = [] := List.eq_nil_of_length_eq_zero (by simpa using h.1)
    rw [hl]
    clear h h0 hl
    have hq : ∀ w : World, (binOp .eql 109 (.slice none 0 0) (.slice none 0 0)).run Tryz.prog w = .ok (.bool true) w := fun w => Lib.run_eql_slice_nil w 109 113 none 0 0 0 0 Tryz.underlying109
    go_enter Tryz.func227, Tryz.ntmps227
    go_wp2
    go_ret
    exact ⟨none, 0, rfl, World.ownsRow_nil _ _ _ _, Below.refl _ _⟩
  · have hR : Rd (w.alloc (.cells #[] 113)) B 3 (some ad) n (lins l) := h.far ((Below.refl _ _).alloc (Nat.le_refl _) _) hB
    obtain ⟨v', w', hrun, hown, hg, hp⟩ := append_fresh (P := Tryz.prog) (ty := 109) (c := c) infoLin Tryz.underlying109 rfl (by omega) w.heap.size _ 0 [] (own_empty w 113 3) hR (linsOne l) (by unfold maxLen; omega) (by omega) (by simp)
    rw [Nat.zero_add, List.nil_append] at hown
    obtain ⟨A', c', rfl⟩ := own_form hown
    have HR := Lib.hid hrun
    have HO := Lib.hid hown
    have HB : Hid (Below w.heap.size w w') := ((Below.refl _ _).alloc (Nat.le_refl _) _).grown hg (by simp) (fun k hk => by simp [Value.ownBlock] at hk; omega)
    clear h h0 hR hrun hown hg hp
    have hq : ∀ w : World, (binOp .eql 109 (.slice (some ad) n c) (.slice none 0 0)).run Tryz.prog w = .ok (.bool false) w := fun w => Lib.run_eql_slice_nil w 109 113 (some ad) n c 0 0 Tryz.underlying109
    go_enter Tryz.func227, Tryz.ntmps227
    go_wp2_with (at_builtin; refine wpList_append_run rfl _ _ _ rfl _ _ _ _ rfl rfl HR.out ?_)
    go_ret
    exact ⟨A', c', rfl, HO.out, HB.out⟩

set_option maxRecDepth 100000 in
set_option maxHeartbeats 2000000 in
theorem entryCopy_any (j : Jrn) (A : Option Addr) (n c B : Nat) (w : World) (h : Rd w B 3 A n (lins j.lines)) (hB : B ≤ w.heap.size) (hn : n ≤ 1000000) (h0 : A = none → c = 0) :
    Calls Tryz.prog 204 #[j.val A n c] w fun e w' => ∃ A' c', e = .returned (.agg #[.int .i64 j.id, .int .i64 j.ent, .int .i64 j.per, .string j.ref, .slice A' n c', .bool j.void]) ∧ w'.ownsRow w.heap.size 113 3 (.slice A' n c') n (lins j.lines) ∧ Below w.heap.size w w' := by
  obtain ⟨W2, hW2⟩ : ∃ W2, (w.alloc (.cells #[.int .i64 j.id, .int .i64 j.ent, .int .i64 j.per, .string j.ref, .slice A n c, .bool j.void] 111)).alloc (.cells #[.int .i64 0, .int .i64 0, .int .i64 0, .string ⟨#[]⟩, .slice none 0 0, .bool false] 111) = W2 := ⟨_, rfl⟩
  have hb2 : Below w.heap.size w W2 := by rw [← hW2]; exact ((Below.refl _ _).alloc (Nat.le_refl _) _).alloc (by simp) _
  have hz2 : W2.heap.size = w.heap.size + 2 := by rw [← hW2]; simp
  have hbox : JAt W2 w.heap.size j A n c := by
    rw [← hW2]
    exact (Below.heap_alloc _ _ _ (by simp)).trans (heap_new w _)
  have hres : JAt W2 (w.heap.size + 1) zeroJ none 0 0 := by
    rw [← hW2]
    have := heap_new (w.alloc (.cells #[.int .i64 j.id, .int .i64 j.ent, .int .i64 j.per, .string j.ref, .slice A n c, .bool j.void] 111)) (.cells #[.int .i64 0, .int .i64 0, .int .i64 0, .string ⟨#[]⟩, .slice none 0 0, .bool false] 111)
    rw [show (w.alloc (.cells #[.int .i64 j.id, .int .i64 j.ent, .int .i64 j.per, .string j.ref, .slice A n c, .bool j.void] 111)).heap.size = w.heap.size + 1 by simp] at this
    exact this
  have kc := Lib.hid (cloneLins_any n c B A j.lines W2 (h.far hb2 hB) (by omega) hn h0)
  have HBOX := Lib.hid hbox
  have HRES := Lib.hid hres
  have HB2 := Lib.hid hb2
  have HW2 := Lib.hid hW2
  have HZ2 := Lib.hid hz2
  clear hW2 hb2 hbox hres h hz2
  unfold Jrn.val
  go_enter Tryz.func204, Tryz.ntmps204
  go_wp2_with fail
  rw [HW2.out]
  refine kc.out.mono ?_
  rintro e w3 ⟨A', c', rfl, hown, hb3⟩
  have hz3 := hb3.size
  have hbox3 : JAt w3 w.heap.size j A n c := (hb3.block _ (by have := HZ2.out; omega)).trans HBOX.out
  have hres3 : JAt w3 (w.heap.size + 1) zeroJ none 0 0 := (hb3.block _ (by have := HZ2.out; omega)).trans HRES.out
  obtain ⟨x0, x1, x2, x3, x4, x5⟩ := six_cells hbox3
  have xf := fun o => warm_of hbox3 o
  obtain ⟨y0, y1, y2, y3, y4, y5⟩ := six_cells hres3
  have yf := fun o => warm_of hres3 o
  have hlt3 : w.heap.size + 1 < w3.heap.size := lt_of_blk hres3
  have HOWN := Lib.hid hown
  have HB : Hid (Below w.heap.size w w3) := HB2.out.trans (hb3.mono HB2.out.size)
  clear hown hbox3 hres3 hb3 hz3
  go_wp2_with fail
  refine bodyPost_ret (v := .agg #[.int .i64 j.id, .int .i64 j.ent, .int .i64 j.per, .string j.ref, .slice A' n c', .bool j.void]) (by simp [results, Tryz.results204, go_sem, y0, y1, y2, y3, y4, y5]) rfl ⟨A', c', rfl, ?_, ?_⟩
  · refine own_base (own_six (own_kept HOWN.out fun q hq ho => ?_) (by have := HZ2.out; omega) _ _ _ _ _ _) (by have := HZ2.out; omega)
    have hge := own_ge HOWN.out q ho
    exact Below.heap_setCell _ _ _ _ (by have := HZ2.out; show q ≠ w.heap.size; omega)
  · exact below_six (HB.out.setCell (p := ⟨w.heap.size, 4, none⟩) (Nat.le_refl _) _) (Nat.le_succ _) _ _ _ _ _ _
end Go.Proofs.YtjlokkjbdgcooaaGreat

/-
  Contracts of (*Book).live, Len, Void, Drop, Get.
-/
namespace Go.Proofs.YtjlokkjbdgcooaaGreat
open Go.RowKit

theorem find_jr (l : List JR) (x : Int) : findK Jrn.id (l.map JR.j) x = (findK JR.id l x).map JR.j := findK_map _ _ _
theorem liveE_none {l : List JR} {x : Int} (h : findK JR.id l x = none) : liveE (l.map JR.j) x = 9 := by unfold liveE; rw [find_jr, h]; rfl
theorem liveE_void {l : List JR} {x : Int} {a : JR} (h : findK JR.id l x = some a) (hv : a.j.void = true) : liveE (l.map JR.j) x = 11 := by unfold liveE; rw [find_jr, h]; simp [hv]
theorem liveE_ok {l : List JR} {x : Int} {a : JR} (h : findK JR.id l x = some a) (hv : a.j.void = false) : liveE (l.map JR.j) x = 0 := by unfold liveE; rw [find_jr, h]; simp [hv]

set_option maxRecDepth 100000 in
theorem len_any (B c : Nat) (v : Value) (l : List JR) (w : World) (h : TomeAt w B c v l) :
    Calls Tryz.prog 286 #[.pointer (some ⟨c, 0, none⟩)] w fun e w' => e = .returned (.int .i64 (l.length : Nat)) ∧ w = w' := by
  have hc := h.cell
  obtain ⟨A, cap, rfl⟩ := h.form
  have hlen := h.len
  clear h
  go_enter Tryz.func286, Tryz.ntmps286
  go_wp2
  go_ret
  exact ⟨rfl, rfl⟩
set_option maxRecDepth 100000 in
theorem len_nil (w : World) : Calls Tryz.prog 286 #[.pointer none] w fun e w' => e = .returned (.int .i64 0) ∧ w = w' := by
  go_enter Tryz.func286, Tryz.ntmps286
  go_wp2
  go_ret
  exact ⟨rfl, rfl⟩

/-- A row that was put in another one's place. -/
theorem TomeAt.place {w w' : World} {B c g cap : Nat} {l : List JR} {p : Nat} {a b : JR} (h : TomeAt w B c (.slice (some ⟨g, 0, none⟩) l.length cap) l) (hp : l[p]? = some a) (hid : b.j.id = a.j.id) (hok : checkE b.j = 0)
    (hown : w'.ownsRow B 111 6 (.slice (some ⟨g, 0, none⟩) l.length cap) l.length (jrs (l.set p b))) (hb : But (fun k => k = g) w w') (hline : w'.ownsRow B 113 3 b.lv b.j.lines.length (lins b.j.lines)) : TomeAt w' B c (.slice (some ⟨g, 0, none⟩) l.length cap) (l.set p b) := by
  have hcg : c ≠ g := fun e => h.apart (by rw [e]; rfl)
  refine ⟨(hb.block c h.lt hcg).trans h.blk, h.low, by rw [List.length_set]; exact hown, fun x hx => ?_, ?_, by rw [List.length_set]; exact h.len, fun x hx => ?_⟩
  · rcases List.mem_or_eq_of_mem_set hx with h1 | h1
    · refine own_kept (h.lines x h1) fun k hk ho => hb.block k hk fun e => ?_
      exact h.apartR h1 g rfl (by rw [← e]; exact ho)
    · rw [h1]; exact hline
  · have hl := (List.getElem?_eq_some_iff.1 hp).1
    unfold Rise
    rw [List.pairwise_iff_getElem]
    intro i j hi hj hij
    rw [List.length_set] at hi hj
    have h0 : ∀ (i : Nat) (hi : i < l.length), JR.id ((l.set p b)[i]'(by rw [List.length_set]; exact hi)) = JR.id l[i] := by
      intro i hi
      rw [List.getElem_set]
      split
      · rename_i e
        subst e
        have : l[p] = a := by rw [List.getElem?_eq_getElem hl] at hp; injection hp
        rw [this]; exact hid
      · rfl
    rw [h0 i hi, h0 j hj]
    exact List.pairwise_iff_getElem.1 h.rise i j hi hj hij
  · rcases List.mem_or_eq_of_mem_set hx with h1 | h1
    · exact h.ok x h1
    · rw [h1]; exact hok
theorem setJ_map {l : List JR} (h : Rise JR.id l) {x : Int} {a b : JR} (hf : findK JR.id l x = some a) (hid : b.j.id = a.j.id) : (l.set (posK JR.id l x) b).map JR.j = putK Jrn.id (l.map JR.j) b.j := by
  have hk := (findK_some h hf).2
  have hx : x = b.j.id := by rw [hid]; exact hk.symm
  have h1 : putK JR.id l b = l.set (posK JR.id l x) b := by
    have := putK_found h (a := b) (by show (findK JR.id l b.j.id).isSome = true; rw [← hx, hf]; rfl)
    rw [this, hx]; rfl
  rw [← h1]
  exact (putK_map (key := Jrn.id) JR.j l b).symm
theorem checkE_void (j : Jrn) (x : Bool) : checkE { j with void := x } = checkE j := rfl

end Go.Proofs.YtjlokkjbdgcooaaGreat

/-
  Contract of slices.Insert over journals: where there is room; all its ways in one.
-/
namespace Go.Proofs.YtjlokkjbdgcooaaGreat
open Go.RowKit

set_option maxRecDepth 100000 in
set_option maxHeartbeats 4000000 in
theorem insert_shift (l : List JR) (a : JR) (B vb g i n c : Nat) (w : World) (hn : l.length = n) (hown : w.ownsRow B 111 6 (.slice (some ⟨g, 0, none⟩) n c) n (jrs l)) (hvb : w.heap[vb]? = some (.cells a.cells.toArray 111 (0, 0))) (hgv : vb ≠ g) (hn2 : n ≤ 1000000) (hi : i < n) (hroom : n + 1 ≤ c) :
    Calls Tryz.prog 223 #[.slice (some ⟨g, 0, none⟩) n c, .int .i64 i, .slice (some ⟨vb, 0, none⟩) 1 1] w fun e w' => ∃ v', e = .returned v' ∧ Inserted w B (.slice (some ⟨g, 0, none⟩) n c) (l.take i ++ a :: l.drop i) v' w' := by
  obtain ⟨cur, hh, hBg, hnc, hcm, hcs, hcl⟩ := own_blk hown
  obtain ⟨i0, hi0, hz0, hz1, hz2⟩ := info_parts infoJrn
  obtain ⟨junk, hjl, hown0⟩ := own_more hown hroom
  have hcells := hown.cells (g := g) rfl
  have hxl : (jrs l).length = n * 6 := hown.1
  have hinfo : (Tryz.prog.info? 111).map (·.size) = some 6 := by rw [hi0]; simp [hz1]
  have hsz : ∀ w, (Go.sizeOf 111).run Tryz.prog w = .ok 6 w := fun w => by simp [sizeOf, typeInfo, hi0, hz1]
  have hov : (callFunc 246 #[.slice (some ⟨vb, 0, none⟩) 1 1, .slice (some ⟨g, (i + 1) * 6, none⟩) (n - i) (c - (i + 1))]).run Tryz.prog w = .ok (.value (.bool false)) w := by
    rw [run_callFunc_extern Tryz.func246 (by kernel_rfl) (by kernel_rfl) (by kernel_rfl) (e := Extern.SlicesOverlaps.overlaps #[48, 48] #[4]) (by kernel_rfl),
      Lib.run_overlaps_apart w 48 4 111 Tryz.underlying48 6 hsz ⟨vb, 0, none⟩ ⟨g, (i + 1) * 6, none⟩ 1 1 (n - i) (c - (i + 1)) hgv 111 111 6 (c * 6) (by simp [World.shape?, hvb, JR.cells]) (by simp [World.shape?, hh, hcs]) (by omega) (warm_of hvb _) (warm_of hvb _)]
    rfl
  have hsrc : ∀ j u, ((jrs l).drop (i * 6))[j]? = some u → w.drew.cell? ((⟨g, i * 6, none⟩ : Addr).add j) = some u := by
    intro j u hu
    rw [List.getElem?_drop] at hu
    have := hcells _ u hu
    rw [Addr.add_lit] at this ⊢
    rw [Nat.zero_add] at this
    exact this
  have hcp1 : ∀ ty dc sc, _ := fun ty dc sc => copy_own (P := Tryz.prog) (w := w.drew) (ty := ty) hown0 Tryz.underlying48 hinfo (i + 1) (n - i) (n - i) dc (n + 1 - i) sc ⟨g, i * 6, none⟩ ((jrs l).drop (i * 6)) (by simp only [Nat.min_def]; split <;> omega) (by simp [hxl]; omega) (by omega) hsrc (fun u hu => jrs_one l u (List.mem_of_mem_drop hu))
  have hown1 := (hcp1 0 0 0).2
  generalize hW1 : w.drew.setCells g ((i + 1) * 6) ((jrs l).drop (i * 6)) = W1 at hcp1 hown1
  have hk1 : ∀ k, k ≠ g → W1.heap[k]? = w.heap[k]? := fun k hk => by rw [← hW1, setCells_other _ _ _ _ hk]; rfl
  have hcp2 : ∀ ty dc, _ := fun ty dc => copy_own (P := Tryz.prog) (w := W1) (ty := ty) hown1 Tryz.underlying48 hinfo i 1 (n + 1 - i) dc 1 1 ⟨vb, 0, none⟩ a.cells (by simp only [Nat.min_def]; split <;> omega) rfl (by omega) (rd_at ((hk1 vb hgv).trans hvb)) (cells_oneJ a)
  have hown2 := (hcp2 0 0).2
  rw [ins_here hxl (by omega) hjl rfl, ← jrs_ins] at hown2
  generalize hW2 : W1.setCells g (i * 6) a.cells = W2 at hcp2 hown2
  have HI : Hid (Inserted w B (.slice (some ⟨g, 0, none⟩) n c) (l.take i ++ a :: l.drop i) (.slice (some ⟨g, 0, none⟩) (n + 1) c) W2) := by
    have h1 := setCells_below (B := 0) (g := g) (Nat.zero_le _) ((jrs l).drop (i * 6)) w.drew ((i + 1) * 6)
    have h2 := setCells_below (B := 0) (g := g) (Nat.zero_le _) a.cells W1 (i * 6)
    rw [hW1] at h1
    rw [hW2] at h2
    refine ⟨?_, ⟨h2.os.trans h1.os, h2.tape.trans h1.tape, h2.output.trans h1.output, Nat.le_trans h1.size h2.size, fun k hk hne => ?_⟩, .inl rfl⟩
    · rw [show (l.take i ++ a :: l.drop i).length = n + 1 by simp; omega]; exact hown2
    · have hkg : k ≠ g := fun e => hne (by rw [e]; rfl)
      rw [← hW2, setCells_other _ _ _ _ hkg, hk1 k hkg]
  have HC1 := Lib.hid hcp1; have HC2 := Lib.hid hcp2
  have hc63 : c ≤ 9223372036854775807 := by unfold maxLen at hcm; omega
  clear hcp1 hcp2 hown hown0 hown1 hown2 hcells hsrc hh hcs hcl hz0 hz1 hz2 hi0 hinfo hxl hn hvb hk1 hW1 hW2 hcm hnc hjl hsz
  have hw1 : IntKind.i64.wrap ((i : Int) + 1) = (i : Int) + 1 := by rw [IntKind.wrap_i64]; omega
  have hb1 : (0 : Int) ≤ (i : Int) + 1 := by omega
  have htn : ((i : Int) + 1).toNat = i + 1 := by omega
  have hci : ¬ (c = i) := by omega
  have hci1 : ¬ (c = i + 1) := by omega
  have hin : i ≤ n := by omega
  have hb3 : (i : Int) ≤ (n : Int) + 1 := by omega
  have hb4 : i ≤ n + 1 := by omega
  have ht1 : ((i : Int) == (n : Int)) = false := by simp; omega
  have ht2 : decide ((c : Int) < (n : Int) + 1) = false := by simp; omega
  have hc2 := (HC2.out 3 (c - i)).1
  go_enter Tryz.func223, Tryz.ntmps223
  go_wp2_with fail
  go_region_law (refine step_copy_run rfl _ _ _ _ rfl (.slice (some ⟨g, (i + 1) * 6, none⟩) (n - i) (c - (i + 1))) (.slice (some ⟨g, i * 6, none⟩) (n + 1 - i) (c - i)) _ _ (by simp [Act.eval, Act.put]) (by simp [Act.eval, Act.put]) (HC1.out _ _ _).1 ?_)
  go_wp2
  go_ret
  exact ⟨_, rfl, HI.out⟩

theorem insert_any (l : List JR) (a : JR) (B vb i n c : Nat) (A : Option Addr) (w : World) (hn : l.length = n) (hown : w.ownsRow B 111 6 (.slice A n c) n (jrs l)) (hvb : w.heap[vb]? = some (.cells a.cells.toArray 111 (0, 0))) (hne : (Value.slice A n c).ownBlock ≠ some vb) (hn2 : n ≤ 1000000) (hB : B ≤ w.heap.size) (hi : i ≤ n) :
    Calls Tryz.prog 223 #[.slice A n c, .int .i64 i, .slice (some ⟨vb, 0, none⟩) 1 1] w fun e w' => ∃ v', e = .returned v' ∧ Inserted w B (.slice A n c) (l.take i ++ a :: l.drop i) v' w' := by
  by_cases he : i = n
  · subst he
    rw [List.take_of_length_le (by omega), List.drop_eq_nil_of_le (by omega)]
    exact insert_end l a B vb i c A w hn hown hvb hn2 hB
  · obtain ⟨g, cap, hv, _⟩ := hown.form (by omega)
    injection hv with hA _ hc
    subst hA hc
    by_cases hc : n + 1 ≤ c
    · exact insert_shift l a B vb g i n c w hn hown hvb (fun e => hne (by rw [e]; rfl)) hn2 (by omega) hc
    · exact insert_grow l a B vb g i n c w hn hown hvb hn2 hB (by omega) (by omega)
end Go.Proofs.YtjlokkjbdgcooaaGreat
