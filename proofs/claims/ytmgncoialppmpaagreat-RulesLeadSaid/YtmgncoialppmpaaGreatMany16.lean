/-
  Several texts, one behind the other: what each holds stands ahead of it.
-/
import Derived.Test.YtmgncoialppmpaaGreatMany14
import Derived.Test.YtmgncoialppmpaaGreatMany15
import Derived.Test.YtmgncoialppmpaaGreatRefPut
import Derived.Test.YtmgncoialppmpaaGreatMany2

/-
  Contracts of (*Book).All, of the statements' copyJournals, LentJournals, StaysJournals.
-/
namespace Go.Proofs.YtmgncoialppmpaaGreat
open Go.RowKit

theorem own_ne_of {w : World} {B n m size : Nat} {e e' : TypeId} {v : Value} {xs : List Value} {g : Nat} {A : Option Addr} (h : w.ownsRow B e size v n xs) {c : Nat} {ys : List Value} {s : Nat} (h2 : w.ownsRow m e' s (.slice A c g) c ys) (hne : e ≠ e') : ∀ k, v.ownBlock = some k → (Value.slice A c g).ownBlock ≠ some k := own_own_ne h h2 hne

set_option maxRecDepth 100000 in
set_option maxHeartbeats 2000000 in
theorem all_any (B c : Nat) (v : Value) (l : List JR) (w : World) (h : TomeAt w B c v l) :
    Calls Tryz.prog 28 #[.pointer (some ⟨c, 0, none⟩)] w fun e w' => ∃ A' c' l', e = .returned (.slice A' l.length c') ∧ l'.map JR.j = l.map JR.j ∧ OwnJl w' w.heap.size A' l.length c' l' ∧ Below w.heap.size w w' := by
  obtain ⟨A, cap, rfl⟩ := h.form
  have hlen := h.len
  obtain ⟨n, hn⟩ : ∃ n, n = l.length := ⟨_, rfl⟩
  have HN := Lib.hid hn
  rw [← hn] at hlen
  have hcc := h.cell
  rw [← hn] at hcc ⊢
  have hmk := fun w : World => make_jrs (q := .i64) (n := n) (by omega) w
  obtain ⟨W, hW⟩ : ∃ W, w.alloc (.cells (jrs (List.replicate n zeroR)).toArray 29) = W := ⟨_, rfl⟩
  have hbW : Below w.heap.size w W := by rw [← hW]; exact (Below.refl _ _).alloc (Nat.le_refl _) _
  have hzW : W.heap.size = w.heap.size + 1 := by rw [← hW]; simp
  have HO0 : Hid (W.ownsRow w.heap.size 29 6 (.slice (some ⟨w.heap.size, 0, none⟩) n n) n (jrs (List.replicate n zeroR))) := by rw [← hW]; exact own_make w n (by omega)
  have HC := Lib.hid h
  have HBW := Lib.hid hbW
  have HW := Lib.hid hW
  have hlt := h.lt
  have hccW := (h.below hbW).cell
  rw [← hn] at hccW
  clear h hW hbW hn
  go_enter Tryz.func28, Tryz.ntmps28
  go_wp2_with fail
  rw [HW.out]
  clear hcc hccW hmk
  go_loopw [19, 4, 5] (fun iv _ _ wr => ∃ (k : Nat) (l' : List JR), k ≤ n ∧ iv = .int .i64 k ∧ l'.length = k ∧ Hid (l'.map JR.j = (l.map JR.j).take k) ∧ Hid (wr.ownsRow w.heap.size 29 6 (.slice (some ⟨w.heap.size, 0, none⟩) n n) n (jrs (l' ++ List.replicate (n - k) zeroR)) ∧ (∀ a ∈ l', wr.ownsRow W.heap.size 64 3 a.lv a.j.lines.length (lins a.j.lines)) ∧ Below w.heap.size w wr)) (fun iv _ _ _ => n - (intOf iv).toNat)
  case atStart => exact ⟨0, [], Nat.zero_le _, rfl, rfl, by simp [Hid], ⟨HO0.out, by simp, HBW.out⟩⟩
  case round =>
    obtain ⟨k, l', hk, rfl, hl', hmap, hst⟩ := hrel
    by_cases hlt2 : k < n
    · have hkn : (k : Int) < (n : Int) := by omega
      have hC := HC.out.below hst.out.2.2
      obtain ⟨b, hb⟩ : ∃ b, l[k]? = some b := ⟨_, List.getElem?_eq_getElem (by have := HN.out; omega)⟩
      obtain ⟨g, cap2, hv, hpl, hgl, hBg, hcs, hfz⟩ := hC.at hb
      injection hv with hA hn2 hcap
      subst hA hcap
      have p0 := hcs 0 _ rfl
      rw [Nat.add_zero] at p0
      have p1 := hcs 1 _ rfl
      have p2 := hcs 2 _ rfl
      have p3 := hcs 3 _ rfl
      have p4 := hcs 4 _ rfl
      have p5 := hcs 5 _ rfl
      have hmem := List.mem_of_getElem? hb
      have hzr := hst.out.2.2.size
      have hgz : w.heap.size < wr.heap.size := by
        obtain ⟨cur, hh, _⟩ := own_blk hst.out.1
        exact lt_of_blk hh
      have KY : Hid (∀ o, Calls Tryz.prog 95 #[b.j.val b.A b.j.lines.length b.c] (wr.alloc o) fun e w' => ∃ A' c', e = .returned (.agg #[.int .i64 b.j.id, .int .i64 b.j.ent, .int .i64 b.j.per, .string b.j.ref, .slice A' b.j.lines.length c', .bool b.j.void]) ∧ w'.ownsRow (wr.alloc o).heap.size 64 3 (.slice A' b.j.lines.length c') b.j.lines.length (lins b.j.lines) ∧ Below (wr.alloc o).heap.size (wr.alloc o) w') := fun o =>
        entryCopy_any b.j b.A b.j.lines.length b.c wr.heap.size (wr.alloc o) ((hC.rd hmem).below ((Below.refl _ _).alloc (Nat.le_refl _) o)) (by simp) (by have := (checkE_len (hC.ok b hmem)).1; omega) (own_nil (hC.lines b hmem))
      have HB := Lib.hid hb
      unfold Jrn.val at KY
      clear hC hcs hfz hb hmem
      go_wp2_with fail
      refine (KY.out _).mono ?_
      rintro e w1 ⟨A1, c1, rfl, hown, hb1⟩
      obtain ⟨o, ho⟩ : ∃ o, (Obj.cells #[Value.int IntKind.i64 b.j.id, Value.int IntKind.i64 b.j.ent, Value.int IntKind.i64 b.j.per, Value.string b.j.ref, Value.slice b.A b.j.lines.length b.c, Value.bool b.j.void] 29) = o := ⟨_, rfl⟩
      rw [ho] at hown hb1
      have hb2 : Below wr.heap.size wr w1 := ((Below.refl _ _).alloc (Nat.le_refl _) o).trans (hb1.mono (by simp))
      have ho1 : w1.ownsRow w.heap.size 29 6 (.slice (some ⟨w.heap.size, 0, none⟩) n n) n (jrs (l' ++ List.replicate (n - k) zeroR)) := own_kept hst.out.1 fun q hq _ => hb2.block q hq
      have hset : (l' ++ List.replicate (n - k) zeroR)[k]? = some zeroR := by rw [List.getElem?_append_right (by omega), hl', Nat.sub_self, List.getElem?_replicate, if_pos (by omega)]
      have hcell : ∀ i u, zeroR.cells[i]? = some u → w1.cell? ⟨w.heap.size, k * 6 + i, none⟩ = some u := fun i u hu => own_cell ho1 (jrs_at _ k zeroR hset i u hu)
      have q0 := hcell 0 _ rfl
      rw [Nat.add_zero] at q0
      have q1 := hcell 1 _ rfl
      have q2 := hcell 2 _ rfl
      have q3 := hcell 3 _ rfl
      have q4 := hcell 4 _ rfl
      have q5 := hcell 5 _ rfl
      have qf := own_warm ho1
      have hs := own_setL (JR.cells ⟨b.j, A1, c1⟩) w1 (k * 6) _ ho1
      rw [jrs_setAll ⟨b.j, A1, c1⟩ hset] at hs
      have hsn : (l' ++ List.replicate (n - k) zeroR).set k ⟨b.j, A1, c1⟩ = (l' ++ [⟨b.j, A1, c1⟩]) ++ List.replicate (n - (k + 1)) zeroR := by
        rw [show n - (k + 1) = n - k - 1 by omega, ← set_next (by omega), hl']
      rw [hsn] at hs
      have HNEW : Hid (∃ l2 : List JR, l2.length = k + 1 ∧ l2.map JR.j = (l.map JR.j).take (k + 1) ∧ (w1.setCells w.heap.size (k * 6) (JR.cells ⟨b.j, A1, c1⟩)).ownsRow w.heap.size 29 6 (.slice (some ⟨w.heap.size, 0, none⟩) n n) n (jrs (l2 ++ List.replicate (n - (k + 1)) zeroR)) ∧ (∀ a ∈ l2, (w1.setCells w.heap.size (k * 6) (JR.cells ⟨b.j, A1, c1⟩)).ownsRow W.heap.size 64 3 a.lv a.j.lines.length (lins a.j.lines)) ∧ Below w.heap.size w (w1.setCells w.heap.size (k * 6) (JR.cells ⟨b.j, A1, c1⟩))) := by
        refine ⟨l' ++ [⟨b.j, A1, c1⟩], by simp [hl'], ?_, hs, fun a ha => ?_, ?_⟩
        · rw [List.map_append, hmap.out]
          have hg : (l.map JR.j)[k]? = some b.j := by rw [List.getElem?_map, HB.out]; rfl
          obtain ⟨h5, h6⟩ := List.getElem?_eq_some_iff.1 hg
          rw [List.take_succ_eq_append_getElem h5, h6]
          rfl
        · have hq : ∀ (a : JR), w1.ownsRow W.heap.size 64 3 a.lv a.j.lines.length (lins a.j.lines) → (w1.setCells w.heap.size (k * 6) (JR.cells ⟨b.j, A1, c1⟩)).ownsRow W.heap.size 64 3 a.lv a.j.lines.length (lins a.j.lines) := fun a hh => own_kept hh fun q hq1 hq2 => setCells_other _ _ _ _ (by have := own_ge hh q hq2; omega)
          rcases List.mem_append.1 ha with ha | ha
          · exact hq a (own_kept (hst.out.2.1 a ha) fun q hq1 _ => hb2.block q hq1)
          · simp at ha
            subst ha
            exact hq _ (own_base hown (by simp; omega))
        · exact (hst.out.2.2.trans (hb2.mono hzr)).trans (setCells_below (Nat.le_refl _) _ _ _)
      have hlt1 : w.heap.size < w1.heap.size := by have := hb2.size; omega
      have hl1 : wr.heap.size < w1.heap.size := by have := hb1.size; simp at this; omega
      clear hown hb1 hb2 ho1 hset hcell hs hsn ho hst p0 p1 p2 p3 p4 p5 KY
      go_wp2_with fail
      obtain ⟨l2, h1, h2, h3, h4, h5⟩ := HNEW.out
      exact ⟨⟨k + 1, l2, by omega, by go_num, h1, h2, ⟨h3, h4, h5⟩⟩, by simp [intOf]; omega⟩
    · obtain rfl : k = n := by omega
      have HFIN : Hid (l'.map JR.j = l.map JR.j ∧ OwnJl wr w.heap.size (some ⟨w.heap.size, 0, none⟩) k k l' ∧ Below w.heap.size w wr) := by
        refine ⟨?_, ⟨?_, fun a ha => own_base (hst.out.2.1 a ha) (by omega)⟩, hst.out.2.2⟩
        · have := hmap.out
          rwa [List.take_of_length_le (by rw [List.length_map]; have := HN.out; omega)] at this
        · have := hst.out.1
          rwa [Nat.sub_self, List.replicate_zero, List.append_nil] at this
      clear hst hmap
      go_wp2_with fail
      go_ret
      exact ⟨_, _, l', rfl, HFIN.out⟩
set_option maxRecDepth 100000 in
theorem all_nil (w : World) : Calls Tryz.prog 28 #[.pointer none] w fun e w' => e = .returned (.slice none 0 0) ∧ w = w' := by
  go_enter Tryz.func28, Tryz.ntmps28
  go_wp2_with fail
  go_ret
  exact ⟨rfl, rfl⟩
end Go.Proofs.YtmgncoialppmpaaGreat

/-
  Contracts of (*Book).Copy, and of Same where a book is not there.
-/
namespace Go.Proofs.YtmgncoialppmpaaGreat
open Go.RowKit

set_option maxRecDepth 100000 in
set_option maxHeartbeats 1000000 in
theorem copyB_any (B c : Nat) (v : Value) (l : List JR) (w : World) (h : TomeAt w B c v l) :
    Calls Tryz.prog 25 #[.pointer (some ⟨c, 0, none⟩)] w fun e w' => ∃ d v' l', e = .returned (.pointer (some ⟨d, 0, none⟩)) ∧ l'.map JR.j = l.map JR.j ∧ TomeAt w' w.heap.size d v' l' ∧ Below w.heap.size w w' := by
  have ka := Lib.hid (all_any B c v l w h)
  have HT := Lib.hid h
  clear h
  go_enter Tryz.func25, Tryz.ntmps25
  go_wp2_with fail
  refine ka.out.mono ?_
  rintro e w' ⟨A', c', l', rfl, hmap, hown, hb⟩
  have hz := hb.size
  have HO := Lib.hid hown
  have HB := Lib.hid hb
  have HM := Lib.hid hmap
  clear hown hb hmap
  go_wp2
  go_ret
  have hll : l'.length = l.length := by rw [← List.length_map (f := JR.j), HM.out, List.length_map]
  refine ⟨w'.heap.size, .slice A' l.length c', l', rfl, HM.out, ⟨heap_new _ _, hz, ?_, fun a ha => own_kept (HO.out.lines a ha) fun q hq _ => Below.heap_alloc _ _ _ hq, ?_, by rw [hll]; exact HT.out.len, fun a ha => ?_⟩, HB.out.alloc hz _⟩
  · rw [hll]
    exact own_kept HO.out.own fun q hq _ => Below.heap_alloc _ _ _ hq
  · have h1 : Rise Jrn.id (l'.map JR.j) := by rw [HM.out]; exact Rise.map.2 HT.out.rise
    exact (Rise.map (key := Jrn.id) (f := JR.j)).1 h1
  · have : a.j ∈ l.map JR.j := by rw [← HM.out]; exact List.mem_map.2 ⟨a, ha, rfl⟩
    obtain ⟨x, hx, ex⟩ := List.mem_map.1 this
    rw [← ex]; exact HT.out.ok x hx
set_option maxRecDepth 100000 in
theorem copyB_nil (w : World) : Calls Tryz.prog 25 #[.pointer none] w fun e w' => e = .returned (.pointer none) ∧ w = w' := by
  go_enter Tryz.func25, Tryz.ntmps25
  go_wp2_with fail
  go_ret
  exact ⟨rfl, rfl⟩
set_option maxRecDepth 100000 in
theorem holds_nil (f : Value) (w : World) : Calls Tryz.prog 89 #[.pointer none, f] w fun e w' => e = .returned (.bool true) ∧ w = w' := by
  go_enter Tryz.func89, Tryz.ntmps89
  go_wp2_with fail
  go_ret
  exact ⟨rfl, rfl⟩
set_option maxRecDepth 100000 in
set_option maxHeartbeats 1000000 in
theorem same_nil (p : Option Addr) (w : World) (k2 : Calls Tryz.prog 29 #[.pointer p] w fun e w' => e = .returned (.int .i64 0) ∧ w = w') :
    Calls Tryz.prog 24 #[.pointer none, .pointer p] w fun e w' => e = .returned (.bool true) ∧ w = w' := by
  have k1 := Lib.hid (len_nil w)
  have K2 := Lib.hid k2
  clear k2
  have t1 : ((0 : Int) == (0 : Int)) = true := by simp
  go_enter Tryz.func24, Tryz.ntmps24
  go_wp2_with fail
  refine k1.out.mono ?_
  rintro e w1 ⟨rfl, rfl⟩
  go_wp2_with fail
  refine K2.out.mono ?_
  rintro e w1 ⟨rfl, rfl⟩
  go_wp2_with fail
  refine (holds_nil _ _).mono ?_
  rintro e w1 ⟨rfl, rfl⟩
  go_wp2_with fail
  go_ret
  exact ⟨rfl, rfl⟩
theorem same_none (w : World) : Calls Tryz.prog 24 #[.pointer none, .pointer none] w fun e w' => e = .returned (.bool true) ∧ w = w' := same_nil none w (len_nil w)
theorem same_zero (w : World) : Calls Tryz.prog 24 #[.pointer none, .pointer (some ⟨w.heap.size, 0, none⟩)] (w.alloc (.cells #[.slice none 0 0] 147)) fun e w' => e = .returned (.bool true) ∧ (w.alloc (.cells #[.slice none 0 0] 147)) = w' := same_nil _ _ (len_any _ _ _ [] _ (tome_new w))
end Go.Proofs.YtmgncoialppmpaaGreat

/-
  Lists of accounts, and the statements' helper over them: SameAccounts.
-/
namespace Go.Proofs.YtmgncoialppmpaaGreat
open Go.RowKit

/-- An element. -/
structure Acc where
  code : Int
  kind : Int
  ret : Bool
deriving DecidableEq
def Acc.cells (a : Acc) : List Value := [.int .i64 a.code, .int .i64 a.kind, .bool a.ret]
def Acc.val (a : Acc) : Value := .agg #[.int .i64 a.code, .int .i64 a.kind, .bool a.ret]
def accs (l : List Acc) : List Value := l.flatMap Acc.cells
theorem accs_len : ∀ l : List Acc, (accs l).length = l.length * 3
  | [] => rfl
  | a :: l => by have := accs_len l; unfold accs at this ⊢; simp [Acc.cells, this]; omega
theorem accs_append (l m : List Acc) : accs (l ++ m) = accs l ++ accs m := by simp [accs]
theorem accs_at : ∀ (l : List Acc) (k : Nat) (a : Acc), l[k]? = some a → (accs l)[k * 3]? = some (.int .i64 a.code) ∧ (accs l)[k * 3 + 1]? = some (.int .i64 a.kind) ∧ (accs l)[k * 3 + 2]? = some (.bool a.ret)
  | [], k, a, h => by simp at h
  | b :: l, 0, a, h => by
    simp at h; subst h
    exact ⟨rfl, rfl, rfl⟩
  | b :: l, k + 1, a, h => by
    have := accs_at l k a (by simpa using h)
    unfold accs at this ⊢
    simp only [List.flatMap_cons, Acc.cells]
    rw [show (k + 1) * 3 = k * 3 + 3 by omega]
    simpa [List.getElem?_append_right] using this
theorem Rd.accs_len {w : World} {B n : Nat} {A : Option Addr} {l : List Acc} (h : Rd w B 3 A n (accs l)) : l.length = n := by
  have := h.1; rw [Go.Proofs.YtmgncoialppmpaaGreat.accs_len] at this; omega
theorem Rd.acc {w : World} {B n i : Nat} {A : Option Addr} {l : List Acc} (h : Rd w B 3 A n (accs l)) (hi : i < n) :
    ∃ ad a, A = some ad ∧ ad.block < B ∧ l[i]? = some a ∧ w.cell? (ad.add (i * 3)) = some (.int .i64 a.code) ∧ w.cell? (ad.add (i * 3 + 1)) = some (.int .i64 a.kind) ∧ w.cell? (ad.add (i * 3 + 2)) = some (.bool a.ret) := by
  obtain ⟨ad, e, hb, hc⟩ := h.2 (by omega)
  have hl := h.accs_len
  have hg : l[i]? = some l[i] := List.getElem?_eq_getElem (by omega)
  obtain ⟨h1, h2, h3⟩ := accs_at l i _ hg
  exact ⟨ad, _, e, hb, hg, hc _ _ h1, hc _ _ h2, hc _ _ h3⟩

theorem infoAcc : (Tryz.prog.info? 112).map (fun i => (i.zero, i.size, i.bytes)) = some (some (.agg #[.int .i64 0, .int .i64 0, .bool false]), 3, 24) := by kernel_rfl
theorem acc_step {l m : List Acc} {k : Nat} (hk : k < l.length ∧ k < m.length) (h1 : l.take k = m.take k) (h2 : l[k]? = m[k]?) : l.take (k + 1) = m.take (k + 1) := by
  rw [List.take_succ_eq_append_getElem hk.1, List.take_succ_eq_append_getElem hk.2, h1]
  rw [List.getElem?_eq_getElem hk.1, List.getElem?_eq_getElem hk.2] at h2
  injection h2 with h2
  rw [h2]

set_option maxRecDepth 100000 in
set_option maxHeartbeats 400000 in
theorem sameAccounts_any (l m : List Acc) (A1 A2 : Option Addr) (n1 n2 c1 c2 B1 B2 : Nat) (w : World) (h1 : Rd w B1 3 A1 n1 (accs l)) (h2 : Rd w B2 3 A2 n2 (accs m)) (hn1 : n1 ≤ 1000000) (hn2 : n2 ≤ 1000000) :
    Calls Tryz.prog 195 #[.slice A1 n1 c1, .slice A2 n2 c2] w fun e w' => e = .returned (.bool (l == m)) ∧ Drew w w' := by
  have L1 := Lib.hid h1.accs_len
  have L2 := Lib.hid h2.accs_len
  by_cases hne : n1 = n2
  · subst hne
    have t1 : ((n1 : Int) != (n1 : Int)) = false := by simp
    go_enter Tryz.func195, Tryz.ntmps195
    go_wp2_with fail
    go_loopw [5] (fun i wr => ∃ k : Nat, k ≤ n1 ∧ i = .int .i64 k ∧ Hid (l.take k = m.take k) ∧ Drew w wr) (fun i _ => n1 - (intOf i).toNat)
    case atStart => exact ⟨0, Nat.zero_le _, rfl, by simp [Hid], Drew.refl _⟩
    case round =>
      obtain ⟨k, hk, rfl, hs, q, rfl⟩ := hrel
      by_cases hlt : k < n1
      · obtain ⟨a1, x, rfl, hb1, hx, p1, p2, p3⟩ := h1.acc hlt
        obtain ⟨a2, y, rfl, hb2, hy, r1, r2, r3⟩ := h2.acc hlt
        have hkn : (k : Int) < (n1 : Int) := by omega
        have p2' := cell_behind p2 (by omega)
        have p3' := cell_behind p3 (by omega)
        have r2' := cell_behind r2 (by omega)
        have r3' := cell_behind r3 (by omega)
        have HX : Hid (x = y → l.take (k + 1) = m.take (k + 1)) := fun h => acc_step (by have := L1.out; have := L2.out; omega) hs.out (by rw [hx, hy, h])
        have HY : Hid (x ≠ y → (l == m) = false) := by
          intro h
          rw [beq_eq_false_iff_ne]
          intro e
          rw [e, hy] at hx
          exact h (by injection hx with hx; exact hx.symm)
        clear hx hy p2 p3 r2 r3
        obtain ⟨x1, x2, x3⟩ := x
        obtain ⟨y1, y2, y3⟩ := y
        by_cases e1 : x1 = y1
        · subst e1
          by_cases e2 : x2 = y2
          · subst e2
            by_cases e3 : x3 = y3
            · subst e3
              go_wp2_with fail
              go_big_quiet (fail)
              go_wp2
              exact ⟨⟨k + 1, by omega, by go_num, HX.out (by first | rfl | trivial), Drew.add _ _⟩, by simp [intOf]; omega⟩
            · skip
              go_wp2_with fail
              go_big_quiet (fail)
              go_wp2
              go_ret
              exact ⟨ret_bool (HY.out (by simp [e3])).symm, ⟨_, World.drewN_drewN _ _ _⟩⟩
          · skip
            go_wp2_with fail
            go_big_quiet (fail)
            go_wp2
            go_ret
            exact ⟨ret_bool (HY.out (by simp [e2])).symm, ⟨_, World.drewN_drewN _ _ _⟩⟩
        · skip
          go_wp2_with fail
          go_big_quiet (fail)
          go_wp2
          go_ret
          exact ⟨ret_bool (HY.out (by simp [e1])).symm, ⟨_, World.drewN_drewN _ _ _⟩⟩
      · go_wp2
        go_ret
        refine ⟨ret_bool ?_, _, rfl⟩
        have := hs.out
        rw [List.take_of_length_le (by have := L1.out; omega), List.take_of_length_le (by have := L2.out; omega)] at this
        rw [this]; simp
  · have t1 : ((n1 : Int) != (n2 : Int)) = true := by rw [bne_iff_ne]; omega
    have HN := Lib.hid hne
    clear hne
    go_enter Tryz.func195, Tryz.ntmps195
    go_wp2
    go_ret
    refine ⟨ret_bool ?_, Drew.refl _⟩
    symm
    rw [beq_eq_false_iff_ne]
    intro e
    have := L1.out; have := L2.out
    rw [e] at *
    have := HN.out; omega
end Go.Proofs.YtmgncoialppmpaaGreat
