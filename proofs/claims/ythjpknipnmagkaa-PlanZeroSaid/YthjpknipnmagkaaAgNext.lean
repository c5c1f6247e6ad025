/-
  Contracts of (*Agenda).Next and Due.
-/
import Derived.Test.YthjpknipnmagkaaAgAt
namespace Go.Proofs.Ythjpknipnmagkaa
open Go.RowKit Go.Sort

/-- What the list becomes where the first one is taken. -/
theorem ag_pop {w w' : World} {B b : Nat} {v : Value} {L : List Itm} {n : Nat} {f f' : Nat → Itm} (hn : L.length = n + 1) (hh : Hp.Heap itmLt (n + 1) f) (hr : Rises L) (hp : L.Perm (lst f (n + 1))) (hl : L.length ≤ 1000) (t : HeapStay w B b v n f' w') (hh2 : Hp.Heap itmLt n f') (hq : Hp.Perm (n + 1) f f') (h0 : f' n = f 0) : ∃ r, L = f 0 :: r ∧ AgStay w B b v r w' := by
  obtain ⟨r, rfl⟩ := root_first hh hr hp
  refine ⟨r, rfl, ?_⟩
  obtain ⟨v', h1, h2, h3⟩ := t
  have hl2 : r.length = n := by simpa using hn
  subst hl2
  have hr2 : Rises r := by unfold Rises at hr ⊢; exact (List.pairwise_cons.1 hr).2
  refine ⟨v', ⟨f', h1, hh2, hr2, ?_, by simp at hl; omega⟩, h2, h3⟩
  have h4 := hp.trans (lst_perm hq).symm
  rw [lst_succ, h0] at h4
  have h5 : (f 0 :: r).Perm (f 0 :: lst f' r.length) := h4.trans (List.perm_append_singleton _ _)
  exact (List.perm_cons _).1 h5

theorem below_three (w : World) (g : Nat) (x y z : Value) : Below g w (((w.setCell ⟨g, 0, none⟩ x).setCell ⟨g, 1, none⟩ y).setCell ⟨g, 2, none⟩ z) := by
  have e1 : Below g w (w.setCell ⟨g, 0, none⟩ x) := (Below.refl g w).setCell (p := ⟨g, 0, none⟩) (Nat.le_refl g) x
  have e2 := e1.setCell (p := ⟨g, 1, none⟩) (Nat.le_refl g) y
  exact e2.setCell (p := ⟨g, 2, none⟩) (Nat.le_refl g) z
/-- Behind it blocks of one's own are written. -/
theorem ag_behind {w W1 w2 w3 : World} {B b : Nat} {v : Value} {L : List Itm} (hA : ∀ k, InAg b v k → k < w.heap.size) (hb : Below w.heap.size w W1) (t : AgStay W1 B b v L w2) (hs : Below w.heap.size w2 w3) : AgStay w B b v L w3 := by
  obtain ⟨v', t1, t2, t3⟩ := t
  have h12 : But (InAg b v) w w2 := (But.of_below hb).trans t2
  refine ⟨v', t1.kept fun k _ hi => hs.block k (hA k ?_), ⟨hs.os.trans h12.os, hs.tape.trans h12.tape, hs.output.trans h12.output, Nat.le_trans h12.size hs.size, fun k hk hn => (hs.block k hk).trans (h12.block k hk hn)⟩, t3⟩
  rcases hi with rfl | hi
  · exact .inl rfl
  · exact .inr (t3 ▸ hi)
set_option maxRecDepth 100000 in
theorem agNext_none {w : World} {B b : Nat} {v : Value} (h : AgAt w B b v []) : Calls Try.prog 39 #[.pointer (some ⟨b, 0, none⟩)] w fun e w' => e = .returned (.tuple #[.agg #[.int .i64 0, .int .i64 0, .int .i64 0], .bool false]) ∧ Below w.heap.size w w' := by
  have K := Lib.hid fun W (hb : Below w.heap.size w W) => agLen_any (h.below hb)
  clear h
  go_enter Try.func39, Try.ntmps39
  go_wp2_with fail
  refine (K.out _ ((Below.refl _ _).alloc (Nat.le_refl _) _)).mono ?_
  rintro e w1 ⟨rfl, rfl⟩
  go_wp2_with fail
  refine bodyPost_ret (v := .tuple #[.agg #[.int .i64 0, .int .i64 0, .int .i64 0], .bool false]) (by simp [results, Try.results39, go_sem]) rfl ⟨rfl, ?_⟩
  exact (Below.refl _ _).alloc (Nat.le_refl _) _
set_option maxRecDepth 100000 in
theorem agNext_nil (w : World) : Calls Try.prog 39 #[.pointer none] w fun e w' => e = .returned (.tuple #[.agg #[.int .i64 0, .int .i64 0, .int .i64 0], .bool false]) ∧ Below w.heap.size w w' := by
  have K := Lib.hid agLen_nil
  go_enter Try.func39, Try.ntmps39
  go_wp2_with fail
  refine (K.out _).mono ?_
  rintro e w1 ⟨rfl, rfl⟩
  go_wp2_with fail
  refine bodyPost_ret (v := .tuple #[.agg #[.int .i64 0, .int .i64 0, .int .i64 0], .bool false]) (by simp [results, Try.results39, go_sem]) rfl ⟨rfl, ?_⟩
  exact (Below.refl _ _).alloc (Nat.le_refl _) _
set_option maxRecDepth 100000 in
set_option maxHeartbeats 1000000 in
theorem agNext_some {w : World} {B b : Nat} {v : Value} {x : Itm} {r : List Itm} (h : AgAt w B b v (x :: r)) : Calls Try.prog 39 #[.pointer (some ⟨b, 0, none⟩)] w fun e w' => e = .returned (.tuple #[.agg #[.int .i64 x.per, .int .i64 x.rk, .int .i64 x.id], .bool true]) ∧ AgStay w B b v r w' := by
  obtain ⟨W1, hW1⟩ : ∃ W1, w.alloc (.cells #[.int .i64 0, .int .i64 0, .int .i64 0] 86) = W1 := ⟨_, rfl⟩
  have hb1 : Below w.heap.size w W1 := by rw [← hW1]; exact (Below.refl _ _).alloc (Nat.le_refl _) _
  have hz : W1.heap[w.heap.size]? = some (.cells #[.int .i64 0, .int .i64 0, .int .i64 0] 86 (0, 0)) := by rw [← hW1]; exact heap_new w _
  have h1 := h.below hb1
  have K := Lib.hid (agLen_any h1)
  have hbl := h.lt
  have hlen : (((x :: r).length : Nat) : Int) = (r.length : Int) + 1 := by simp
  have hne : (((r.length : Int) + 1) == 0) = false := by simp; omega
  obtain ⟨f, hh, hheap, hrise, hperm, hle⟩ := h1
  have KP := Lib.hid (heapPop_any b B r.length v f W1 hh hheap (by simp at hle; omega))
  have HHP := Lib.hid hheap; have HRI := Lib.hid hrise; have HPM := Lib.hid hperm; have HLE := Lib.hid hle
  have HB1 := Lib.hid hb1; have HW := Lib.hid hW1; have HZ := Lib.hid hz
  have HA : Hid (∀ k, InAg b v k → k < w.heap.size) := h.ltB
  clear h hh hheap hrise hperm hle hW1 hb1 hz
  go_enter Try.func39, Try.ntmps39
  go_wp2_with fail
  rw [HW.out]
  refine K.out.mono ?_
  rintro e w1 ⟨rfl, rfl⟩
  rw [hlen]
  go_wp2_with fail
  refine KP.out.mono ?_
  rintro e w2 ⟨rfl, f', hto, hh2, hq, h0⟩
  obtain ⟨r', e1, T⟩ := ag_pop rfl HHP.out HRI.out HPM.out HLE.out hto hh2 hq h0
  injection e1 with e1 e2
  subst e2
  subst e1
  have hta : ∀ W, (Instr.typeAssert (.iface 86 (.agg #[.int .i64 (f 0).per, .int .i64 (f 0).rk, .int .i64 (f 0).id])) 20 86 false).run Try.prog W = .ok (.agg #[.int .i64 (f 0).per, .int .i64 (f 0).rk, .int .i64 (f 0).id]) W := fun _ => by kernel_rfl
  have hz2 : w2.heap[w.heap.size]? = some (.cells #[.int .i64 0, .int .i64 0, .int .i64 0] 86 (0, 0)) := by
    obtain ⟨v', _, hb, _⟩ := T
    rw [hb.block _ (lt_of_blk HZ.out) (fun hi => Nat.lt_irrefl _ (HA.out _ hi))]
    exact HZ.out
  have HZ2 := Lib.hid hz2
  have hf2 := warm_of hz2
  obtain ⟨z0, z1, z2⟩ := cells3_regrown hz2
  have HT := Lib.hid T
  clear hto hh2 hq h0 T hz2
  go_wp2_with fail
  refine bodyPost_ret (v := .tuple #[.agg #[.int .i64 (f 0).per, .int .i64 (f 0).rk, .int .i64 (f 0).id], .bool true]) (by simp [results, Try.results39, go_sem, z0, z1, z2]) rfl ⟨rfl, ?_⟩
  exact ag_behind HA.out HB1.out HT.out (below_three _ _ _ _ _)

def dueI (p : Int) (L : List Itm) : List Itm := L.takeWhile fun x => decide (x.per ≤ p)
def laterI (p : Int) (L : List Itm) : List Itm := L.dropWhile fun x => decide (x.per ≤ p)
theorem append_itm {w : World} {base m : Nat} {v : Value} {D : List Itm} (a : Itm) (h : w.ownsRow base 86 3 v m (itms D)) (hb : base ≤ w.heap.size) (hm : m ≤ 1000000) :
    ∃ v' w', (∀ ty, (Builtin.append_ #[113, 113] ty #[v, .slice (some ⟨w.heap.size, 0, none⟩) 1 1]).run Try.prog (w.alloc (.cells #[.int .i64 a.per, .int .i64 a.rk, .int .i64 a.id] 86)) = .ok v' w') ∧ w'.ownsRow base 86 3 v' (m + 1) (itms (D ++ [a])) ∧ But (fun k => v.ownBlock = some k) w w' := by
  have hR : Rd (w.alloc (.cells #[.int .i64 a.per, .int .i64 a.rk, .int .i64 a.id] 86)) (w.heap.size + 1) 3 (some ⟨w.heap.size, 0, none⟩) 1 a.cells := ⟨rfl, fun _ => ⟨_, rfl, by simp, cells_new w a.cells 86⟩⟩
  have h1 : (w.alloc (.cells #[.int .i64 a.per, .int .i64 a.rk, .int .i64 a.id] 86)).ownsRow base 86 3 v m (itms D) := own_kept h fun k hk _ => Below.heap_alloc w _ _ hk
  obtain ⟨v', w', hrun, hown, hg, hp⟩ := append_fresh (P := Try.prog) (ty := 0) (c := 1) infoItm Try.underlying113 rfl (by omega) base v m (itms D) h1 hR (by intro u hu; simp [Itm.cells] at hu; rcases hu with rfl | rfl | rfl <;> rfl) (by unfold maxLen; omega) (by omega) (by simp; omega)
  refine ⟨v', w', fun ty => hrun, by rw [itms_append]; exact (show itms [a] = a.cells by simp [itms]) ▸ hown, ?_⟩
  exact (But.of_below ((Below.refl _ _).alloc (Nat.le_refl _) _)).trans (But.of_grown hg)

/-- While what is due is taken: of L the first k went to the row dv. -/
structure DueSt (w : World) (B b : Nat) (v : Value) (L : List Itm) (k : Nat) (dv : Value) (wr : World) : Prop where
  ag : AgStay w B b v (L.drop k) wr
  own : wr.ownsRow w.heap.size 86 3 dv k (itms (L.take k))
theorem DueSt.next {w wr w2 w3 : World} {B b : Nat} {v v1 : Value} {L : List Itm} {k : Nat} {dv dv' : Value} {x : Itm} (hA : ∀ i, InAg b v i → i < w.heap.size) (hx : L[k]? = some x) (h1 : But (InAg b v) w wr) (h2 : v1.ownBlock = v.ownBlock)
    (t : AgStay wr B b v1 (L.drop (k + 1)) w2) (hd : w2.ownsRow w.heap.size 86 3 dv k (itms (L.take k))) (hn : w3.ownsRow w.heap.size 86 3 dv' (k + 1) (itms (L.take k ++ [x]))) (hb : But (fun i => dv.ownBlock = some i) w2 w3) : DueSt w B b v L (k + 1) dv' w3 := by
  have t2 := AgStay.trans h1 h2 t
  have hge := own_ge hd
  have hs : Below w.heap.size w2 w3 := hb.below (fun i _ hi => hge i hi) (Nat.le_trans h1.size (by obtain ⟨_, _, h, _⟩ := t; exact h.size))
  refine ⟨ag_behind hA (Below.refl _ _) t2 hs, ?_⟩
  obtain ⟨hk, rfl⟩ := List.getElem?_eq_some_iff.1 hx
  rw [List.take_succ_eq_append_getElem hk]
  exact hn
theorem AgAt.first {w : World} {B b : Nat} {v : Value} {x : Itm} {r : List Itm} (h : AgAt w B b v (x :: r)) : ∃ g c, v = .slice (some ⟨g, 0, none⟩) (r.length + 1) c ∧ w.cell? ⟨g, 0, none⟩ = some (.int .i64 x.per) := by
  obtain ⟨f, hh, hheap, hrise, hperm, hle⟩ := h
  obtain ⟨g, c, rfl, hbx, hrow, _⟩ := heapAt_row hh
  obtain ⟨r', e⟩ := root_first hheap hrise hperm
  injection e with e _
  refine ⟨g, c, rfl, ?_⟩
  have := (hrow.cells (k := 0) (by omega)).1
  rw [Nat.zero_mul] at this
  rw [this, e]
theorem due_len (p : Int) (L : List Itm) : (dueI p L).length ≤ L.length := List.Sublist.length_le (List.takeWhile_sublist _)
theorem due_take : ∀ {p : Int} {L : List Itm} {k : Nat}, k < (dueI p L).length → ∃ x, L[k]? = some x ∧ x.per ≤ p ∧ L.drop k = x :: L.drop (k + 1)
  | p, [], k, h => by simp [dueI] at h
  | p, y :: L, k, h => by
    unfold dueI at h
    rw [List.takeWhile_cons] at h
    by_cases hy : y.per ≤ p
    · rw [if_pos (by simpa using hy)] at h
      cases k with
      | zero => exact ⟨y, rfl, hy, rfl⟩
      | succ k =>
        obtain ⟨x, h1, h2, h3⟩ := due_take (p := p) (L := L) (k := k) (by simpa [dueI] using h)
        exact ⟨x, by simpa using h1, h2, by simpa using h3⟩
    · rw [if_neg (by simpa using hy)] at h; simp at h
theorem due_parts : ∀ (p : Int) (L : List Itm), L.take (dueI p L).length = dueI p L ∧ L.drop (dueI p L).length = laterI p L
  | p, [] => by simp [dueI, laterI]
  | p, y :: L => by
    obtain ⟨h1, h2⟩ := due_parts p L
    unfold dueI laterI at *
    rw [List.takeWhile_cons, List.dropWhile_cons]
    by_cases hy : y.per ≤ p
    · rw [if_pos (by simpa using hy), if_pos (by simpa using hy)]
      simp only [List.length_cons, List.take_succ_cons, List.drop_succ_cons]
      exact ⟨by rw [h1], h2⟩
    · rw [if_neg (by simpa using hy), if_neg (by simpa using hy)]
      simp
theorem later_head {p : Int} {L : List Itm} {x : Itm} {r : List Itm} (h : laterI p L = x :: r) : ¬ x.per ≤ p := by
  unfold laterI at h
  induction L with
  | nil => simp at h
  | cons y L ih =>
    rw [List.dropWhile_cons] at h
    split at h
    · exact ih h
    · rename_i hy
      injection h with h1 h2
      subst h1
      simpa using hy

def lenV : Value → Nat
  | .slice _ n _ => n
  | _ => 0
end Go.Proofs.Ythjpknipnmagkaa

