/-
  Contracts of (*Book).All, of the statements' copyJournals, LentJournals, StaysJournals.
-/
import Derived.Test.YtjlokkjbdgcooaaGreatMany11
import Derived.Test.YtjlokkjbdgcooaaGreatMany12
import Derived.Test.YtjlokkjbdgcooaaGreatRefPut
namespace Go.Proofs.YtjlokkjbdgcooaaGreat
open Go.RowKit

theorem own_ne_of {w : World} {B n m size : Nat} {e e' : TypeId} {v : Value} {xs : List Value} {g : Nat} {A : Option Addr} (h : w.ownsRow B e size v n xs) {c : Nat} {ys : List Value} {s : Nat} (h2 : w.ownsRow m e' s (.slice A c g) c ys) (hne : e ≠ e') : ∀ k, v.ownBlock = some k → (Value.slice A c g).ownBlock ≠ some k := own_own_ne h h2 hne

set_option maxRecDepth 100000 in
set_option maxHeartbeats 2000000 in
theorem all_any (B c : Nat) (v : Value) (l : List JR) (w : World) (h : TomeAt w B c v l) :
    Calls Tryz.prog 168 #[.pointer (some ⟨c, 0, none⟩)] w fun e w' => ∃ A' c' l', e = .returned (.slice A' l.length c') ∧ l'.map JR.j = l.map JR.j ∧ OwnJl w' w.heap.size A' l.length c' l' ∧ Below w.heap.size w w' := by
  obtain ⟨A, cap, rfl⟩ := h.form
  have hlen := h.len
  obtain ⟨n, hn⟩ : ∃ n, n = l.length := ⟨_, rfl⟩
  have HN := Lib.hid hn
  rw [← hn] at hlen
  have hcc := h.cell
  rw [← hn] at hcc ⊢
  have hmk := fun w : World => make_jrs (q := .i64) (n := n) (by omega) w
  obtain ⟨W, hW⟩ : ∃ W, w.alloc (.cells (jrs (List.replicate n zeroR)).toArray 111) = W := ⟨_, rfl⟩
  have hbW : Below w.heap.size w W := by rw [← hW]; exact (Below.refl _ _).alloc (Nat.le_refl _) _
  have hzW : W.heap.size = w.heap.size + 1 := by rw [← hW]; simp
  have HO0 : Hid (W.ownsRow w.heap.size 111 6 (.slice (some ⟨w.heap.size, 0, none⟩) n n) n (jrs (List.replicate n zeroR))) := by rw [← hW]; exact own_make w n (by omega)
  have HC := Lib.hid h
  have HBW := Lib.hid hbW
  have HW := Lib.hid hW
  have hlt := h.lt
  have hccW := (h.below hbW).cell
  rw [← hn] at hccW
  clear h hW hbW hn
  go_enter Tryz.func168, Tryz.ntmps168
  go_wp2_with fail
  rw [HW.out]
  clear hcc hccW hmk
  go_loopw [19, 4, 5] (fun iv _ _ wr => ∃ (k : Nat) (l' : List JR), k ≤ n ∧ iv = .int .i64 k ∧ l'.length = k ∧ Hid (l'.map JR.j = (l.map JR.j).take k) ∧ Hid (wr.ownsRow w.heap.size 111 6 (.slice (some ⟨w.heap.size, 0, none⟩) n n) n (jrs (l' ++ List.replicate (n - k) zeroR)) ∧ (∀ a ∈ l', wr.ownsRow W.heap.size 113 3 a.lv a.j.lines.length (lins a.j.lines)) ∧ Below w.heap.size w wr)) (fun iv _ _ _ => n - (intOf iv).toNat)
  case atStart => exact ⟨0, [], Nat.zero_le _, rfl, rfl, by simp [Hid], ⟨HO0.out, by simp, HBW.out⟩⟩
  case round =>
    obtain ⟨k, l', hk, rfl, hl', hmap, hst⟩ := hrel
    by_cases hlt2 : k < n
    · have hkn : (k : Int) < (n : Int) := by omega
      have hC := HC.out.below hst.out.2.2
      obtain ⟨b, hb⟩ : ∃ b, l[k]? = some b := ⟨_, List.getElem?_eq_getElem (by have := HN.out; omega)⟩
      obtain ⟨g, cap2, hv, hpl, hgl, hBg, hcs, hfz⟩ := hC.at hb
      injection hv with hA hn2 hcap
      subst hA hcap
      have p0 := hcs 0 _ rfl
      rw [Nat.add_zero] at p0
      have p1 := hcs 1 _ rfl
      have p2 := hcs 2 _ rfl
      have p3 := hcs 3 _ rfl
      have p4 := hcs 4 _ rfl
      have p5 := hcs 5 _ rfl
      have hmem := List.mem_of_getElem? hb
      have hzr := hst.out.2.2.size
      have hgz : w.heap.size < wr.heap.size := by
        obtain ⟨cur, hh, _⟩ := own_blk hst.out.1
        exact lt_of_blk hh
      have KY : Hid (∀ o, Calls Tryz.prog 204 #[b.j.val b.A b.j.lines.length b.c] (wr.alloc o) fun e w' => ∃ A' c', e = .returned (.agg #[.int .i64 b.j.id, .int .i64 b.j.ent, .int .i64 b.j.per, .string b.j.ref, .slice A' b.j.lines.length c', .bool b.j.void]) ∧ w'.ownsRow (wr.alloc o).heap.size 113 3 (.slice A' b.j.lines.length c') b.j.lines.length (lins b.j.lines) ∧ Below (wr.alloc o).heap.size (wr.alloc o) w') := fun o =>
        entryCopy_any b.j b.A b.j.lines.length b.c wr.heap.size (wr.alloc o) ((hC.rd hmem).below ((Below.refl _ _).alloc (Nat.le_refl _) o)) (by simp) (by have := (checkE_len (hC.ok b hmem)).1; omega) (own_nil (hC.lines b hmem))
      have HB := Lib.hid hb
      unfold Jrn.val at KY
      clear hC hcs hfz hb hmem
      go_wp2_with fail
      refine (KY.out _).mono ?_
      rintro e w1 ⟨A1, c1, rfl, hown, hb1⟩
      obtain ⟨o, ho⟩ : ∃ o, (Obj.cells #[Value.int IntKind.i64 b.j.id, Value.int IntKind.i64 b.j.ent, Value.int IntKind.i64 b.j.per, Value.string b.j.ref, Value.slice b.A b.j.lines.length b.c, Value.bool b.j.void] 111) = o := ⟨_, rfl⟩
      rw [ho] at hown hb1
      have hb2 : Below wr.heap.size wr w1 := ((Below.refl _ _).alloc (Nat.le_refl _) o).trans (hb1.mono (by simp))
      have ho1 : w1.ownsRow w.heap.size 111 6 (.slice (some ⟨w.heap.size, 0, none⟩) n n) n (jrs (l' ++ List.replicate (n - k) zeroR)) := own_kept hst.out.1 fun q hq _ => hb2.block q hq
      have hset : (l' ++ List.replicate (n - k) zeroR)[k]? = some zeroR := by rw [List.getElem?_append_right (by omega), hl', Nat.sub_self, List.getElem?_replicate, if_pos (by omega)]
      have hcell : ∀ i u, zeroR.cells[i]? = some u → w1.cell? ⟨w.heap.size, k * 6 + i, none⟩ = some u := fun i u hu => own_cell ho1 (jrs_at _ k zeroR hset i u hu)
      have q0 := hcell 0 _ rfl
      rw [Nat.add_zero] at q0
      have q1 := hcell 1 _ rfl
      have q2 := hcell 2 _ rfl
      have q3 := hcell 3 _ rfl
      have q4 := hcell 4 _ rfl
      have q5 := hcell 5 _ rfl
      have qf := own_warm ho1
      have hs := own_setL (JR.cells ⟨b.j, A1, c1⟩) w1 (k * 6) _ ho1
      rw [jrs_setAll ⟨b.j, A1, c1⟩ hset] at hs
      have hsn : (l' ++ List.replicate (n - k) zeroR).set k ⟨b.j, A1, c1⟩ = (l' ++ [⟨b.j, A1, c1⟩]) ++ List.replicate (n - (k + 1)) zeroR := by
        rw [show n - (k + 1) = n - k - 1 by omega, ← set_next (by omega), hl']
      rw [hsn] at hs
      have HNEW : Hid (∃ l2 : List JR, l2.length = k + 1 ∧ l2.map JR.j = (l.map JR.j).take (k + 1) ∧ (w1.setCells w.heap.size (k * 6) (JR.cells ⟨b.j, A1, c1⟩)).ownsRow w.heap.size 111 6 (.slice (some ⟨w.heap.size, 0, none⟩) n n) n (jrs (l2 ++ List.replicate (n - (k + 1)) zeroR)) ∧ (∀ a ∈ l2, (w1.setCells w.heap.size (k * 6) (JR.cells ⟨b.j, A1, c1⟩)).ownsRow W.heap.size 113 3 a.lv a.j.lines.length (lins a.j.lines)) ∧ Below w.heap.size w (w1.setCells w.heap.size (k * 6) (JR.cells ⟨b.j, A1, c1⟩))) := by
        refine ⟨l' ++ [⟨b.j, A1, c1⟩], by simp [hl'], ?_, hs, fun a ha => ?_, ?_⟩
        · rw [List.map_append, hmap.out]
          have hg : (l.map JR.j)[k]? = some b.j := by rw [List.getElem?_map, HB.out]; rfl
          obtain ⟨h5, h6⟩ := List.getElem?_eq_some_iff.1 hg
          rw [List.take_succ_eq_append_getElem h5, h6]
          rfl
        · have hq : ∀ (a : JR), w1.ownsRow W.heap.size 113 3 a.lv a.j.lines.length (lins a.j.lines) → (w1.setCells w.heap.size (k * 6) (JR.cells ⟨b.j, A1, c1⟩)).ownsRow W.heap.size 113 3 a.lv a.j.lines.length (lins a.j.lines) := fun a hh => own_kept hh fun q hq1 hq2 => setCells_other _ _ _ _ (by have := own_ge hh q hq2; omega)
          rcases List.mem_append.1 ha with ha | ha
          · exact hq a (own_kept (hst.out.2.1 a ha) fun q hq1 _ => hb2.block q hq1)
          · simp at ha
            subst ha
            exact hq _ (own_base hown (by simp; omega))
        · exact (hst.out.2.2.trans (hb2.mono hzr)).trans (setCells_below (Nat.le_refl _) _ _ _)
      have hlt1 : w.heap.size < w1.heap.size := by have := hb2.size; omega
      have hl1 : wr.heap.size < w1.heap.size := by have := hb1.size; simp at this; omega
      clear hown hb1 hb2 ho1 hset hcell hs hsn ho hst p0 p1 p2 p3 p4 p5 KY
      go_wp2_with fail
      obtain ⟨l2, h1, h2, h3, h4, h5⟩ := HNEW.out
      exact ⟨⟨k + 1, l2, by omega, by go_num, h1, h2, ⟨h3, h4, h5⟩⟩, by simp [intOf]; omega⟩
    · obtain rfl : k = n := by omega
      have HFIN : Hid (l'.map JR.j = l.map JR.j ∧ OwnJl wr w.heap.size (some ⟨w.heap.size, 0, none⟩) k k l' ∧ Below w.heap.size w wr) := by
        refine ⟨?_, ⟨?_, fun a ha => own_base (hst.out.2.1 a ha) (by omega)⟩, hst.out.2.2⟩
        · have := hmap.out
          rwa [List.take_of_length_le (by rw [List.length_map]; have := HN.out; omega)] at this
        · have := hst.out.1
          rwa [Nat.sub_self, List.replicate_zero, List.append_nil] at this
      clear hst hmap
      go_wp2_with fail
      go_ret
      exact ⟨_, _, l', rfl, HFIN.out⟩
set_option maxRecDepth 100000 in
theorem all_nil (w : World) : Calls Tryz.prog 168 #[.pointer none] w fun e w' => e = .returned (.slice none 0 0) ∧ w = w' := by
  go_enter Tryz.func168, Tryz.ntmps168
  go_wp2_with fail
  go_ret
  exact ⟨rfl, rfl⟩
end Go.Proofs.YtjlokkjbdgcooaaGreat

