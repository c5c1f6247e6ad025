/-
  Contracts of the statements' copyJournals, LentJournals, StaysJournals.
-/
import Derived.Test.YtpbdmohccebhhaaGreatTomeSame
import Derived.Test.YtpbdmohccebhhaaGreatMany7
import Derived.Test.YtpbdmohccebhhaaGreatRefPut
namespace Go.Proofs.YtpbdmohccebhhaaGreat
open Go.RowKit

set_option maxRecDepth 100000 in
set_option maxHeartbeats 2000000 in
theorem copyJournals_any (l : List JR) (A : Option Addr) (n c B : Nat) (w : World) (h : JlRd w B A n l) (hB : B ≤ w.heap.size) (hn : n ≤ 100000) (hs : ∀ a ∈ l, a.j.lines.length ≤ 100000) :
    Calls Tryz.prog 66 #[.slice A n c] w fun e w' => ∃ A' c' l', e = .returned (.slice A' n c') ∧ l'.map JR.j = l.map JR.j ∧ OwnJl w' w.heap.size A' n c' l' ∧ Below w.heap.size w w' := by
  obtain ⟨v0, w0, hrun, hown, hg, _⟩ := append_fresh (P := Tryz.prog) (w := w) (ty := 25) (c := c) infoJrn Tryz.underlying25 rfl (by omega) w.heap.size (.slice none 0 0) 0 [] (World.ownsRow_nil _ _ _ _) h.rd (jrs_one _) (by unfold maxLen; omega) (by omega) (Nat.le_refl _)
  rw [Nat.zero_add, List.nil_append] at hown
  obtain ⟨A0, c0, rfl⟩ := own_form hown
  have hb0 : Below w.heap.size w w0 := (Below.refl _ _).grown hg (Nat.le_refl _) (fun k h => by cases h)
  have HR := Lib.hid hrun
  have HO := Lib.hid hown
  have HB0 := Lib.hid hb0
  have HJ := Lib.hid h
  have HL := Lib.hid h.len
  have HS := Lib.hid hs
  have hcp : Hid (n = 0 ∨ ∃ g, A0 = some ⟨g, 0, none⟩ ∧ g < w0.heap.size ∧ w.heap.size ≤ g) := by
    rcases hown.2 with ⟨_, h1⟩ | ⟨g, cap, cur, h1, h2, h3, _⟩
    · exact .inl h1
    · injection h1 with h1
      exact .inr ⟨g, h1, lt_of_blk h3, h2⟩
  clear hrun hown hg hb0 h hs
  go_enter Tryz.func66, Tryz.ntmps66
  go_wp2_with (at_builtin; refine wpList_append_run rfl _ _ _ rfl _ _ _ _ rfl rfl HR.out ?_)
  go_loopw [3] (fun iv wr => ∃ (k : Nat) (l' : List JR), k ≤ n ∧ iv = .int .i64 k ∧ l'.length = k ∧ Hid (l'.map JR.j = (l.map JR.j).take k) ∧ Hid (wr.ownsRow w.heap.size 43 6 (.slice A0 n c0) n (jrs (l' ++ l.drop k)) ∧ (∀ a ∈ l', wr.ownsRow w0.heap.size 100 3 a.lv a.j.lines.length (lins a.j.lines)) ∧ Below w.heap.size w wr ∧ w0.heap.size ≤ wr.heap.size)) (fun iv _ => n - (intOf iv).toNat)
  case atStart => exact ⟨0, [], Nat.zero_le _, rfl, rfl, by simp [Hid], ⟨HO.out, by simp, HB0.out, Nat.le_refl _⟩⟩
  case round =>
    obtain ⟨k, l', hk, rfl, hl', hmap, hst⟩ := hrel
    by_cases hlt : k < n
    · have hkn : (k : Int) < (n : Int) := by omega
      obtain ⟨g, rfl, hg0, hgw⟩ : ∃ g, A0 = some ⟨g, 0, none⟩ ∧ g < w0.heap.size ∧ w.heap.size ≤ g := by
        rcases hcp.out with h | h
        · omega
        · exact h
      obtain ⟨b, hb⟩ : ∃ b, l[k]? = some b := ⟨_, List.getElem?_eq_getElem (by have := HL.out; omega)⟩
      have hbk : (l' ++ l.drop k)[k]? = some b := by rw [List.getElem?_append_right (by omega), hl', Nat.sub_self, List.getElem?_drop, Nat.add_zero]; exact hb
      have hcell : ∀ i u, b.cells[i]? = some u → wr.cell? ⟨g, k * 6 + i, none⟩ = some u := fun i u hu => own_cell hst.out.1 (jrs_at _ k b hbk i u hu)
      have p0 := hcell 0 _ rfl
      rw [Nat.add_zero] at p0
      have p1 := hcell 1 _ rfl
      have p2 := hcell 2 _ rfl
      have p3 := hcell 3 _ rfl
      have p4 := hcell 4 _ rfl
      have p5 := hcell 5 _ rfl
      have hmem := List.mem_of_getElem? hb
      have hJ := HJ.out.far hst.out.2.2.1 hB
      have hzr := hst.out.2.2.1.size
      have hz0 := hst.out.2.2.2
      have KY := Lib.hid (refCopy_any b.j b.A b.j.lines.length b.c B wr (hJ.lines b hmem) (by omega) (by have := HS.out b hmem; omega))
      have HB := Lib.hid hb
      have HBK := Lib.hid hbk
      unfold Jrn.val at KY
      have hgr : g < wr.heap.size := by omega
      clear hcell hb hbk hmem hJ
      go_wp2_with fail
      refine KY.out.mono ?_
      rintro e w1 ⟨A1, c1, rfl, hown, hb1⟩
      have ho1 : w1.ownsRow w.heap.size 43 6 (.slice (some ⟨g, 0, none⟩) n c0) n (jrs (l' ++ l.drop k)) := own_kept hst.out.1 fun q hq _ => hb1.block q hq
      have hcell : ∀ i u, b.cells[i]? = some u → w1.cell? ⟨g, k * 6 + i, none⟩ = some u := fun i u hu => own_cell ho1 (jrs_at _ k b HBK.out i u hu)
      have q0 := hcell 0 _ rfl
      rw [Nat.add_zero] at q0
      have q1 := hcell 1 _ rfl
      have q2 := hcell 2 _ rfl
      have q3 := hcell 3 _ rfl
      have q4 := hcell 4 _ rfl
      have q5 := hcell 5 _ rfl
      have qf := own_warm ho1
      have hs := own_setL (JR.cells ⟨b.j, A1, c1⟩) w1 (k * 6) _ ho1
      rw [jrs_setAll ⟨b.j, A1, c1⟩ HBK.out] at hs
      have hsn : (l' ++ l.drop k).set k ⟨b.j, A1, c1⟩ = (l' ++ [⟨b.j, A1, c1⟩]) ++ l.drop (k + 1) := by
        obtain ⟨h5, h6⟩ := List.getElem?_eq_some_iff.1 HB.out
        rw [List.set_append_right _ _ (by omega), hl', Nat.sub_self, List.drop_eq_getElem_cons h5, List.set_cons_zero]
        simp
      rw [hsn] at hs
      have HNEW : Hid (∃ l2 : List JR, l2.length = k + 1 ∧ l2.map JR.j = (l.map JR.j).take (k + 1) ∧ (w1.setCells g (k * 6) (JR.cells ⟨b.j, A1, c1⟩)).ownsRow w.heap.size 43 6 (.slice (some ⟨g, 0, none⟩) n c0) n (jrs (l2 ++ l.drop (k + 1))) ∧ (∀ a ∈ l2, (w1.setCells g (k * 6) (JR.cells ⟨b.j, A1, c1⟩)).ownsRow w0.heap.size 100 3 a.lv a.j.lines.length (lins a.j.lines)) ∧ Below w.heap.size w (w1.setCells g (k * 6) (JR.cells ⟨b.j, A1, c1⟩)) ∧ w0.heap.size ≤ (w1.setCells g (k * 6) (JR.cells ⟨b.j, A1, c1⟩)).heap.size) := by
        have hsz := setCells_below (B := 0) (g := g) (Nat.zero_le _) (JR.cells ⟨b.j, A1, c1⟩) w1 (k * 6)
        refine ⟨l' ++ [⟨b.j, A1, c1⟩], by simp [hl'], ?_, hs, fun a ha => ?_, ?_, ?_⟩
        · rw [List.map_append, hmap.out]
          have hgx : (l.map JR.j)[k]? = some b.j := by rw [List.getElem?_map, HB.out]; rfl
          obtain ⟨h5, h6⟩ := List.getElem?_eq_some_iff.1 hgx
          rw [List.take_succ_eq_append_getElem h5, h6]
          rfl
        · have hq : ∀ (a : JR), w1.ownsRow w0.heap.size 100 3 a.lv a.j.lines.length (lins a.j.lines) → (w1.setCells g (k * 6) (JR.cells ⟨b.j, A1, c1⟩)).ownsRow w0.heap.size 100 3 a.lv a.j.lines.length (lins a.j.lines) := fun a hh => own_kept hh fun q hq1 hq2 => setCells_other _ _ _ _ (by have := own_ge hh q hq2; omega)
          rcases List.mem_append.1 ha with ha | ha
          · exact hq a (own_kept (hst.out.2.1 a ha) fun q hq1 _ => hb1.block q hq1)
          · simp at ha
            subst ha
            exact hq _ (own_base hown hz0)
        · exact (hst.out.2.2.1.trans (hb1.mono hzr)).trans (setCells_below hgw _ _ _)
        · exact Nat.le_trans (Nat.le_trans hz0 hb1.size) hsz.size
      have hlt1 : g < w1.heap.size := by have := hb1.size; omega
      clear hown hb1 ho1 hcell hs hsn hst p0 p1 p2 p3 p4 p5 KY
      go_wp2_with fail
      obtain ⟨l2, h1, h2, h3, h4, h5, h6⟩ := HNEW.out
      exact ⟨⟨k + 1, l2, by omega, by go_num, h1, h2, ⟨h3, h4, h5, h6⟩⟩, by simp [intOf]; omega⟩
    · obtain rfl : k = n := by omega
      have HFIN : Hid (l'.map JR.j = l.map JR.j ∧ OwnJl wr w.heap.size A0 k c0 l' ∧ Below w.heap.size w wr) := by
        refine ⟨?_, ⟨?_, fun a ha => own_base (hst.out.2.1 a ha) HB0.out.size⟩, hst.out.2.2.1⟩
        · have := hmap.out
          rwa [List.take_of_length_le (by rw [List.length_map]; have := HL.out; omega)] at this
        · have := hst.out.1
          rwa [List.drop_eq_nil_of_le (by have := HL.out; omega), List.append_nil] at this
      clear hst hmap
      go_wp2_with fail
      go_ret
      exact ⟨_, _, l', rfl, HFIN.out⟩

def markR : JR := ⟨⟨0, 0, 0, ⟨#[109, 97, 114, 107]⟩, [], false⟩, none, 0⟩
/-- Journals that were lent: their rows, the mark behind them. -/
structure LentJl (w : World) (B g n cap : Nat) (l : List JR) : Prop where
  own : w.ownsRow B 43 6 (.slice (some ⟨g, 0, none⟩) (n + 1) cap) (n + 1) (jrs (l ++ [markR]))
  lines : ∀ a ∈ l, w.ownsRow B 100 3 a.lv a.j.lines.length (lins a.j.lines)
theorem LentJl.kept {w w' : World} {B g n cap : Nat} {l : List JR} (h : LentJl w B g n cap l) (hb : Below w.heap.size w w') : LentJl w' B g n cap l := ⟨own_kept h.own fun k hk _ => hb.block k hk, fun a ha => own_kept (h.lines a ha) fun k hk _ => hb.block k hk⟩
theorem LentJl.jl {w : World} {B g n cap : Nat} {l : List JR} (h : LentJl w B g n cap l) (hs : ∀ a ∈ l, a.j.ref.size ≤ maxLen ∧ a.j.lines.length ≤ maxLen) : JlRd w w.heap.size (some ⟨g, 0, none⟩) n l := by
  have hl : l.length = n := by have := h.own.1; rw [jrs_len] at this; simp at this; omega
  obtain ⟨cur, hh, _⟩ := own_blk h.own
  refine ⟨⟨by rw [jrs_len, hl], fun _ => ⟨_, rfl, lt_of_blk hh, fun j u hu => ?_⟩⟩, fun a ha => rd_of_own (h.lines a ha), fun a ha => own_nil (h.lines a ha), hs⟩
  rw [Addr.add_lit, Nat.zero_add]
  refine own_cell h.own ?_
  rw [jrs_append, List.getElem?_append_left (List.getElem?_eq_some_iff.1 hu).1]
  exact hu
theorem LentJl.mark {w : World} {B g n cap : Nat} {l : List JR} (h : LentJl w B g n cap l) : w.cell? ⟨g, n * 6 + 3, none⟩ = some (.string ⟨#[109, 97, 114, 107]⟩) := by
  have hl : l.length = n := by have := h.own.1; rw [jrs_len] at this; simp at this; omega
  refine own_cell h.own (jrs_at _ n markR ?_ 3 _ rfl)
  rw [List.getElem?_append_right (by omega), hl, Nat.sub_self]; rfl
end Go.Proofs.YtpbdmohccebhhaaGreat
