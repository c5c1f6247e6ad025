/-
  Several texts, one behind the other: what each holds stands ahead of it.
-/
import Derived.Test.YtjlokkjbdgcooaaGreatMany20
import Derived.Test.YtjlokkjbdgcooaaGreatMany26
import Derived.Test.YtjlokkjbdgcooaaGreatMany31
import Derived.Test.YtjlokkjbdgcooaaGreatMany24
import Derived.Test.YtjlokkjbdgcooaaGreatRefPut

/-
  One more list of ints in a book.
-/
namespace Go.Proofs.YtjlokkjbdgcooaaGreat
open Go.RowKit

set_option maxRecDepth 100000 in
set_option maxHeartbeats 1000000 in
theorem bookKInts_any (b B m n cl : Nat) (F V U : Nat → Value) (N : Nat → Nat) (L : Nat → List Value) (Al : Option Addr) (l : List Int) (w : World) (h : kInts.Kept w B b F m V U N L) (hm : m < 250) (hlv : w.ownsRow B 3 1 (.slice Al n cl) n (ints .i64 l)) (hn : n ≤ 1000000)
    (hd : ∀ i, i < m → ∀ k, (Value.slice Al n cl).ownBlock = some k → (V i).ownBlock ≠ some k) :
    Calls Tryz.prog 15 #[.pointer (some ⟨b, 0, none⟩), .slice Al n cl] w fun e w' => e = .returned (.tuple #[]) ∧
      ∃ F' cv, kInts.Kept w' B b F' (m + 1) (upd V m (.slice Al n cl)) (upd U m cv) (fun k => if k = m then n else N k) (fun k => if k = m then ints .i64 l else L k) ∧ (∀ k, k ≠ 2 → k ≠ 3 → F' k = F k) ∧ Below B w w' ∧ (∀ k, cv.ownBlock = some k → w.heap.size ≤ k) ∧ Only [kInts.t, 45] w w' := by
  have HK := Lib.hid h
  obtain ⟨h1, h2, h3, h4, h5, h6, h7⟩ := h
  have hbl := h1.lt
  have hBs : B ≤ w.heap.size := by omega
  obtain ⟨A2, c2, e2⟩ := own_form h3
  obtain ⟨A3, c3, e3⟩ := own_form h4
  have hc2 : w.cell? ⟨b, 2, none⟩ = some (F 2) := h1.cell (i := 2) (by omega)
  obtain ⟨v1, w1, hrun1, ht1, hsz1, hk1, hv1, ho1, ho2, ho3⟩ := Kind.push (T := 35) h3 infoKInts Tryz.underlying35 (.slice Al n cl) rfl (by omega) hBs
  obtain ⟨k1, k2, k3, k4, k5, k6, k7, k8, k9⟩ := Kind.first HK.out _ ht1 hk1 hv1
  obtain ⟨A1, c1, e1⟩ := own_form ht1
  have hc3 : (w1.setCell ⟨b, 2, none⟩ v1).cell? ⟨b, 3, none⟩ = some (F 3) := by
    have := k1.cell (i := 3) (by omega)
    rwa [upd_other _ _ (by decide)] at this
  have hne : ¬ kInts.e ∈ [kInts.t, 45] := by decide
  have hown2 := k9.own hlv hne
  have K9 := Lib.hid k9
  have hB1 : Below B w (w1.setCell ⟨b, 2, none⟩ v1) := by
    have hx : Below B w w1 := ⟨ho1, ho2, ho3, by omega, fun k hk => hk1 k (by omega) (fun e => by have := own_ge h3 k e; omega)⟩
    exact hx.setCell h2 _
  have hz1 : w.heap.size + 1 ≤ w1.heap.size := hsz1
  have k7' : w1.cell? ⟨b, 2, none⟩ = some (F 2) := k7
  have k8' : w1.frozen? ⟨b, 2, none⟩ = false := k8
  have e2' : F 2 = .slice A2 m c2 := e2
  have e3' : F 3 = .slice A3 m c3 := e3
  rw [e2'] at hc2 k7'
  rw [e2] at hrun1
  rw [e3'] at hc3
  subst e1
  have HR1 : Hid ((Builtin.append_ #[35, 35] 35 #[.slice A2 m c2, .slice (some ⟨w.heap.size, 0, none⟩) 1 1]).run Tryz.prog (w.alloc (.cells #[.slice Al n cl] 22)) = .ok (.slice A1 (m + 1) c1) w1) := hrun1
  have K1 : Hid (BookAt (w1.setCell ⟨b, 2, none⟩ (.slice A1 (m + 1) c1)) b (upd F 2 (.slice A1 (m + 1) c1))) := k1
  have K2 : Hid (kInts.Tab (w1.setCell ⟨b, 2, none⟩ (.slice A1 (m + 1) c1)) B (.slice A1 (m + 1) c1) (m + 1) (upd V m (.slice Al n cl))) := k2
  have K3 : Hid (kInts.Tab (w1.setCell ⟨b, 2, none⟩ (.slice A1 (m + 1) c1)) B (F 3) m U) := k3
  have K4 : Hid (∀ k, (Value.slice A1 (m + 1) c1).ownBlock = some k → (F 3).ownBlock ≠ some k) := k4
  have K5 : Hid (kInts.Rows (w1.setCell ⟨b, 2, none⟩ (.slice A1 (m + 1) c1)) B m V N L) := k5
  have K6 : Hid (kInts.Rows (w1.setCell ⟨b, 2, none⟩ (.slice A1 (m + 1) c1)) B m U N L) := k6
  have HE3 := Lib.hid e3'
  have HO2 : Hid ((w1.setCell ⟨b, 2, none⟩ (.slice A1 (m + 1) c1)).ownsRow B 3 1 (.slice Al n cl) n (ints .i64 l)) := hown2
  have K9' : Hid (Only [kInts.t, 45] w (w1.setCell ⟨b, 2, none⟩ (.slice A1 (m + 1) c1))) := k9
  have hB1' : Below B w (w1.setCell ⟨b, 2, none⟩ (.slice A1 (m + 1) c1)) := hB1
  clear hrun1 k1 k2 k3 k4 k5 k6 k7 k8 k9 e2 e3 e2' e3' h1 h3 h4 h5 h6 h7 ht1 hk1 hv1 ho1 ho2 ho3 hown2 hB1 K9 hne
  go_enter Tryz.func15, Tryz.ntmps15
  go_wp2_with (at_builtin; refine wpList_append_run rfl _ _ _ rfl _ _ _ _ rfl rfl HR1.out ?_)
  generalize w1.setCell ⟨b, 2, none⟩ (Value.slice A1 (m + 1) c1) = w2 at *
  have hbl2 : b < w2.heap.size := by have := hB1'.size; omega
  have HD := Lib.hid hd
  clear hd
  go_region_law (first
    | (obtain ⟨v4, w4, hrun4, ht4, hsz4, hk4, hv4, hp1, hp2, hp3⟩ := Kind.push (T := 35) (w := w3) (own_kept K3.out fun k hk _ => hb3.block k hk) infoKInts Tryz.underlying35 (.slice A5 n c5) rfl (by omega) (Nat.le_trans (Nat.le_trans h2 (Nat.le_of_lt hbl2)) hb3.size)
       rw [HE3.out] at hrun4 hk4 hv4
       obtain ⟨A4, c4, rfl⟩ := own_form ht4
       refine step_append_run rfl (.tmp 24) (.tmp 27) 35 rfl (.slice A3 m c3) (.slice (some ⟨w3.heap.size, 0, none⟩) 1 1) (.slice A4 (m + 1) c4) w4 (by simp [Act.eval]) (by simp [Act.eval]) hrun4 ?_
       obtain ⟨hfin, hx1, hx2, hx3⟩ := Kind.second (K := kInts) (F := F) K1.out h2 K2.out K3.out K4.out K5.out K6.out HO2.out HD.out ⟨hb3.os, hb3.tape, hb3.output, hb3.size, hb3.block⟩ hcv ht4 (by show ∀ k, k < w3.heap.size → (F 3).ownBlock ≠ some k → _; rw [HE3.out]; exact hk4) (by show _ = (F 3).ownBlock ∨ _; rw [HE3.out]; exact hv4) (Nat.le_trans h2 (Nat.le_of_lt hbl2))
       have hy1 : w4.cell? ⟨b, 3, none⟩ = some (F 3) := hx1
       have hy2 : w4.frozen? ⟨b, 3, none⟩ = false := hx2
       rw [HE3.out] at hy1)
    | (go_simp; go_at_call 49; refine (copyInts_any l Al n cl _ w2.drew (rd_of_own HO2.out) (by omega)).mono ?_; rintro e w3 ⟨A5, c5, rfl, hcv, hb3⟩; have hc3b := (hb3.cell (p := ⟨b, 3, none⟩) hbl2).trans hc3; have hbl3 : b < w3.heap.size := Nat.lt_of_lt_of_le hbl2 hb3.size))
  all_goals
    go_end0
    refine ⟨rfl, _, _, hfin, fun k e2 e3 => ?_, ?_, fun k hk => Nat.le_trans hB1'.size (own_ge hcv k hk), K9'.out.trans hx3⟩
    · show upd (upd F 2 _) 3 _ k = F k
      rw [upd_other _ _ e3, upd_other _ _ e2]
    · have hx4 : Below B w3 w4 := ⟨hp1, hp2, hp3, by omega, fun k hk => hk4 k (Nat.lt_of_lt_of_le hk (Nat.le_trans (Nat.le_trans h2 (Nat.le_of_lt hbl2)) hb3.size)) (fun e => by have := own_ge K3.out k (by rw [HE3.out]; exact e); omega)⟩
      exact ((hB1'.drew.trans (hb3.mono (Nat.le_trans h2 (Nat.le_of_lt hbl2)))).trans hx4).setCell h2 _
end Go.Proofs.YtjlokkjbdgcooaaGreat

/-
  Contracts of the statements' copyJournals, LentJournals, StaysJournals.
-/
namespace Go.Proofs.YtjlokkjbdgcooaaGreat
open Go.RowKit

set_option maxRecDepth 100000 in
set_option maxHeartbeats 2000000 in
theorem copyJournals_any (l : List JR) (A : Option Addr) (n c B : Nat) (w : World) (h : JlRd w B A n l) (hB : B ≤ w.heap.size) (hn : n ≤ 100000) (hs : ∀ a ∈ l, a.j.lines.length ≤ 100000) :
    Calls Tryz.prog 60 #[.slice A n c] w fun e w' => ∃ A' c' l', e = .returned (.slice A' n c') ∧ l'.map JR.j = l.map JR.j ∧ OwnJl w' w.heap.size A' n c' l' ∧ Below w.heap.size w w' := by
  obtain ⟨v0, w0, hrun, hown, hg, _⟩ := append_fresh (P := Tryz.prog) (w := w) (ty := 48) (c := c) infoJrn Tryz.underlying48 rfl (by omega) w.heap.size (.slice none 0 0) 0 [] (World.ownsRow_nil _ _ _ _) h.rd (jrs_one _) (by unfold maxLen; omega) (by omega) (Nat.le_refl _)
  rw [Nat.zero_add, List.nil_append] at hown
  obtain ⟨A0, c0, rfl⟩ := own_form hown
  have hb0 : Below w.heap.size w w0 := (Below.refl _ _).grown hg (Nat.le_refl _) (fun k h => by cases h)
  have HR := Lib.hid hrun
  have HO := Lib.hid hown
  have HB0 := Lib.hid hb0
  have HJ := Lib.hid h
  have HL := Lib.hid h.len
  have HS := Lib.hid hs
  have hcp : Hid (n = 0 ∨ ∃ g, A0 = some ⟨g, 0, none⟩ ∧ g < w0.heap.size ∧ w.heap.size ≤ g) := by
    rcases hown.2 with ⟨_, h1⟩ | ⟨g, cap, cur, h1, h2, h3, _⟩
    · exact .inl h1
    · injection h1 with h1
      exact .inr ⟨g, h1, lt_of_blk h3, h2⟩
  clear hrun hown hg hb0 h hs
  go_enter Tryz.func60, Tryz.ntmps60
  go_wp2_with (at_builtin; refine wpList_append_run rfl _ _ _ rfl _ _ _ _ rfl rfl HR.out ?_)
  go_loopw [3] (fun iv wr => ∃ (k : Nat) (l' : List JR), k ≤ n ∧ iv = .int .i64 k ∧ l'.length = k ∧ Hid (l'.map JR.j = (l.map JR.j).take k) ∧ Hid (wr.ownsRow w.heap.size 111 6 (.slice A0 n c0) n (jrs (l' ++ l.drop k)) ∧ (∀ a ∈ l', wr.ownsRow w0.heap.size 113 3 a.lv a.j.lines.length (lins a.j.lines)) ∧ Below w.heap.size w wr ∧ w0.heap.size ≤ wr.heap.size)) (fun iv _ => n - (intOf iv).toNat)
  case atStart => exact ⟨0, [], Nat.zero_le _, rfl, rfl, by simp [Hid], ⟨HO.out, by simp, HB0.out, Nat.le_refl _⟩⟩
  case round =>
    obtain ⟨k, l', hk, rfl, hl', hmap, hst⟩ := hrel
    by_cases hlt : k < n
    · have hkn : (k : Int) < (n : Int) := by omega
      obtain ⟨g, rfl, hg0, hgw⟩ : ∃ g, A0 = some ⟨g, 0, none⟩ ∧ g < w0.heap.size ∧ w.heap.size ≤ g := by
        rcases hcp.out with h | h
        · omega
        · exact h
      obtain ⟨b, hb⟩ : ∃ b, l[k]? = some b := ⟨_, List.getElem?_eq_getElem (by have := HL.out; omega)⟩
      have hbk : (l' ++ l.drop k)[k]? = some b := by rw [List.getElem?_append_right (by omega), hl', Nat.sub_self, List.getElem?_drop, Nat.add_zero]; exact hb
      have hcell : ∀ i u, b.cells[i]? = some u → wr.cell? ⟨g, k * 6 + i, none⟩ = some u := fun i u hu => own_cell hst.out.1 (jrs_at _ k b hbk i u hu)
      have p0 := hcell 0 _ rfl
      rw [Nat.add_zero] at p0
      have p1 := hcell 1 _ rfl
      have p2 := hcell 2 _ rfl
      have p3 := hcell 3 _ rfl
      have p4 := hcell 4 _ rfl
      have p5 := hcell 5 _ rfl
      have hmem := List.mem_of_getElem? hb
      have hJ := HJ.out.far hst.out.2.2.1 hB
      have hzr := hst.out.2.2.1.size
      have hz0 := hst.out.2.2.2
      have KY := Lib.hid (refCopy_any b.j b.A b.j.lines.length b.c B wr (hJ.lines b hmem) (by omega) (by have := HS.out b hmem; omega))
      have HB := Lib.hid hb
      have HBK := Lib.hid hbk
      unfold Jrn.val at KY
      have hgr : g < wr.heap.size := by omega
      clear hcell hb hbk hmem hJ
      go_wp2_with fail
      refine KY.out.mono ?_
      rintro e w1 ⟨A1, c1, rfl, hown, hb1⟩
      have ho1 : w1.ownsRow w.heap.size 111 6 (.slice (some ⟨g, 0, none⟩) n c0) n (jrs (l' ++ l.drop k)) := own_kept hst.out.1 fun q hq _ => hb1.block q hq
      have hcell : ∀ i u, b.cells[i]? = some u → w1.cell? ⟨g, k * 6 + i, none⟩ = some u := fun i u hu => own_cell ho1 (jrs_at _ k b HBK.out i u hu)
      have q0 := hcell 0 _ rfl
      rw [Nat.add_zero] at q0
      have q1 := hcell 1 _ rfl
      have q2 := hcell 2 _ rfl
      have q3 := hcell 3 _ rfl
      have q4 := hcell 4 _ rfl
      have q5 := hcell 5 _ rfl
      have qf := own_warm ho1
      have hs := own_setL (JR.cells ⟨b.j, A1, c1⟩) w1 (k * 6) _ ho1
      rw [jrs_setAll ⟨b.j, A1, c1⟩ HBK.out] at hs
      have hsn : (l' ++ l.drop k).set k ⟨b.j, A1, c1⟩ = (l' ++ [⟨b.j, A1, c1⟩]) ++ l.drop (k + 1) := by
        obtain ⟨h5, h6⟩ := List.getElem?_eq_some_iff.1 HB.out
        rw [List.set_append_right _ _ (by omega), hl', Nat.sub_self, List.drop_eq_getElem_cons h5, List.set_cons_zero]
        simp
      rw [hsn] at hs
      have HNEW : Hid (∃ l2 : List JR, l2.length = k + 1 ∧ l2.map JR.j = (l.map JR.j).take (k + 1) ∧ (w1.setCells g (k * 6) (JR.cells ⟨b.j, A1, c1⟩)).ownsRow w.heap.size 111 6 (.slice (some ⟨g, 0, none⟩) n c0) n (jrs (l2 ++ l.drop (k + 1))) ∧ (∀ a ∈ l2, (w1.setCells g (k * 6) (JR.cells ⟨b.j, A1, c1⟩)).ownsRow w0.heap.size 113 3 a.lv a.j.lines.length (lins a.j.lines)) ∧ Below w.heap.size w (w1.setCells g (k * 6) (JR.cells ⟨b.j, A1, c1⟩)) ∧ w0.heap.size ≤ (w1.setCells g (k * 6) (JR.cells ⟨b.j, A1, c1⟩)).heap.size) := by
        have hsz := setCells_below (B := 0) (g := g) (Nat.zero_le _) (JR.cells ⟨b.j, A1, c1⟩) w1 (k * 6)
        refine ⟨l' ++ [⟨b.j, A1, c1⟩], by simp [hl'], ?_, hs, fun a ha => ?_, ?_, ?_⟩
        · rw [List.map_append, hmap.out]
          have hgx : (l.map JR.j)[k]? = some b.j := by rw [List.getElem?_map, HB.out]; rfl
          obtain ⟨h5, h6⟩ := List.getElem?_eq_some_iff.1 hgx
          rw [List.take_succ_eq_append_getElem h5, h6]
          rfl
        · have hq : ∀ (a : JR), w1.ownsRow w0.heap.size 113 3 a.lv a.j.lines.length (lins a.j.lines) → (w1.setCells g (k * 6) (JR.cells ⟨b.j, A1, c1⟩)).ownsRow w0.heap.size 113 3 a.lv a.j.lines.length (lins a.j.lines) := fun a hh => own_kept hh fun q hq1 hq2 => setCells_other _ _ _ _ (by have := own_ge hh q hq2; omega)
          rcases List.mem_append.1 ha with ha | ha
          · exact hq a (own_kept (hst.out.2.1 a ha) fun q hq1 _ => hb1.block q hq1)
          · simp at ha
            subst ha
            exact hq _ (own_base hown hz0)
        · exact (hst.out.2.2.1.trans (hb1.mono hzr)).trans (setCells_below hgw _ _ _)
        · exact Nat.le_trans (Nat.le_trans hz0 hb1.size) hsz.size
      have hlt1 : g < w1.heap.size := by have := hb1.size; omega
      clear hown hb1 ho1 hcell hs hsn hst p0 p1 p2 p3 p4 p5 KY
      go_wp2_with fail
      obtain ⟨l2, h1, h2, h3, h4, h5, h6⟩ := HNEW.out
      exact ⟨⟨k + 1, l2, by omega, by go_num, h1, h2, ⟨h3, h4, h5, h6⟩⟩, by simp [intOf]; omega⟩
    · obtain rfl : k = n := by omega
      have HFIN : Hid (l'.map JR.j = l.map JR.j ∧ OwnJl wr w.heap.size A0 k c0 l' ∧ Below w.heap.size w wr) := by
        refine ⟨?_, ⟨?_, fun a ha => own_base (hst.out.2.1 a ha) HB0.out.size⟩, hst.out.2.2.1⟩
        · have := hmap.out
          rwa [List.take_of_length_le (by rw [List.length_map]; have := HL.out; omega)] at this
        · have := hst.out.1
          rwa [List.drop_eq_nil_of_le (by have := HL.out; omega), List.append_nil] at this
      clear hst hmap
      go_wp2_with fail
      go_ret
      exact ⟨_, _, l', rfl, HFIN.out⟩

def markR : JR := ⟨⟨0, 0, 0, ⟨#[109, 97, 114, 107]⟩, [], false⟩, none, 0⟩
/-- Journals that were lent: their rows, the mark behind them. -/
structure LentJl (w : World) (B g n cap : Nat) (l : List JR) : Prop where
  own : w.ownsRow B 111 6 (.slice (some ⟨g, 0, none⟩) (n + 1) cap) (n + 1) (jrs (l ++ [markR]))
  lines : ∀ a ∈ l, w.ownsRow B 113 3 a.lv a.j.lines.length (lins a.j.lines)
theorem LentJl.kept {w w' : World} {B g n cap : Nat} {l : List JR} (h : LentJl w B g n cap l) (hb : Below w.heap.size w w') : LentJl w' B g n cap l := ⟨own_kept h.own fun k hk _ => hb.block k hk, fun a ha => own_kept (h.lines a ha) fun k hk _ => hb.block k hk⟩
theorem LentJl.jl {w : World} {B g n cap : Nat} {l : List JR} (h : LentJl w B g n cap l) (hs : ∀ a ∈ l, a.j.ref.size ≤ maxLen ∧ a.j.lines.length ≤ maxLen) : JlRd w w.heap.size (some ⟨g, 0, none⟩) n l := by
  have hl : l.length = n := by have := h.own.1; rw [jrs_len] at this; simp at this; omega
  obtain ⟨cur, hh, _⟩ := own_blk h.own
  refine ⟨⟨by rw [jrs_len, hl], fun _ => ⟨_, rfl, lt_of_blk hh, fun j u hu => ?_⟩⟩, fun a ha => rd_of_own (h.lines a ha), fun a ha => own_nil (h.lines a ha), hs⟩
  rw [Addr.add_lit, Nat.zero_add]
  refine own_cell h.own ?_
  rw [jrs_append, List.getElem?_append_left (List.getElem?_eq_some_iff.1 hu).1]
  exact hu
theorem LentJl.mark {w : World} {B g n cap : Nat} {l : List JR} (h : LentJl w B g n cap l) : w.cell? ⟨g, n * 6 + 3, none⟩ = some (.string ⟨#[109, 97, 114, 107]⟩) := by
  have hl : l.length = n := by have := h.own.1; rw [jrs_len] at this; simp at this; omega
  refine own_cell h.own (jrs_at _ n markR ?_ 3 _ rfl)
  rw [List.getElem?_append_right (by omega), hl, Nat.sub_self]; rfl
end Go.Proofs.YtjlokkjbdgcooaaGreat
