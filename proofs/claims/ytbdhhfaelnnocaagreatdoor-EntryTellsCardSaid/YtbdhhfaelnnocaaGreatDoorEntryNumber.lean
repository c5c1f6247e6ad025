/-
  Contracts of strconv.Atoi at every text, of newReader and the reader's number.
-/
import Derived.Test.YtbdhhfaelnnocaaGreatDoorEntryReader
namespace Go.Proofs.YtbdhhfaelnnocaaGreatDoor
open Go.RowKit Go.Sort

theorem atoi_any (p : List UInt8) (w : World) (G : Glob w) (hm : p.length ≤ 1000000) :
    Calls Tryz.prog 121 #[.string (bs p)] w fun e w' => ((∃ n, Lib.atoiAll p = .ok n ∧ e = .returned (.tuple #[.int .i64 n, .nilIface])) ∨ (numOf p = none ∧ ∃ x t N, e = .returned (.tuple #[.int .i64 x, .iface t (.pointer (some ⟨N, 0, none⟩))]))) ∧ Below w.heap.size w w' := by
  have hz : (bs p).size ≤ 1000000 := by rw [bs_size]; exact hm
  rcases h : Lib.atoiAll p with n | _ | _
  · refine (Tryz.strconv_Atoi_ok (bs p) (by omega) n (by rw [bs_list]; exact h) w).mono fun e w' ⟨he, hw⟩ => ⟨.inl ⟨n, rfl, he⟩, ?_⟩
    rcases hw with rfl | ⟨t, rfl⟩
    · exact Below.refl _ _
    · exact Lib.bytesWorld_below _ _ _
  · obtain ⟨tp, q, hv⟩ := G.syn
    exact (Any.strconv_Atoi_syntax_var Tryz.laysC172 (bs p) (by omega) (by rw [bs_list]; exact h) tp q w hv).mono fun e w' ⟨N, he, _, _, hb⟩ => ⟨.inr ⟨by unfold numOf; rw [h], _, _, N, he⟩, hb⟩
  · obtain ⟨tp, q, hv⟩ := G.ran
    exact (Tryz.strconv_Atoi_range_var (bs p) (by omega) (by rw [bs_list]; exact h) tp q w hv).mono fun e w' ⟨N, he, _, _, hb⟩ => ⟨.inr ⟨by unfold numOf; rw [h], _, _, N, he⟩, hb⟩
theorem str_beq (p q : List UInt8) : ((bs p).toList == (bs q).toList) = decide (p = q) := by
  rw [ByteArray.toList_eq, ByteArray.toList_eq, bs_list, bs_list, Bool.eq_iff_iff]
  simp

theorem split_reader (w : World) (g : UInt8) (l : List UInt8) (hl : l.length ≤ 1000000) : RdrAt (w.alloc (.cells #[.string (bs l), .string ⟨#[g]⟩, .bool true] 143)) w.heap.size g (splitL g l) := by
  refine ⟨?_, split_free g l, by rw [join_split]; exact hl⟩
  rw [join_split]
  have e : (!(splitL g l).isEmpty) = true := by
    cases h : splitL g l with
    | nil => exact absurd h (split_ne g l)
    | cons a r => rfl
  rw [e]
  exact heap_new w _
set_option maxRecDepth 100000 in
set_option maxHeartbeats 400000 in
theorem newReader_any (l : List UInt8) (g : UInt8) (w : World) (hl : l.length ≤ 1000000) :
    Calls Tryz.prog 77 #[.string (bs l), .string ⟨#[g]⟩] w fun e w' => e = .returned (.pointer (some ⟨w.heap.size, 0, none⟩)) ∧ RdrAt w' w.heap.size g (splitL g l) ∧ Below w.heap.size w w' := by
  have HS := Lib.hid (split_reader w g l hl)
  go_enter Tryz.func77, Tryz.ntmps77
  go_wp2_with fail
  go_ret
  exact ⟨rfl, HS.out, (Below.refl _ _).alloc (Nat.le_refl _) _⟩

theorem head_le (g : UInt8) (ps : List (List UInt8)) : (ps.headD []).length ≤ (Lib.join ps [g]).length := by
  match ps with
  | [] => simp
  | [p] => simp [Lib.join_one]
  | p :: q :: r =>
    rw [join_cons2]
    simp

/-- The variables hold what they held when block B was the next one. -/
def GB (B : Nat) (w : World) : Prop := ∃ w0, Glob w0 ∧ w0.heap.size = B ∧ Below B w0 w
theorem GB.glob {B : Nat} {w : World} (h : GB B w) : Glob w := by
  obtain ⟨w0, h1, rfl, h2⟩ := h
  exact h1.below h2
theorem GB.le {B : Nat} {w : World} (h : GB B w) : B ≤ w.heap.size := by
  obtain ⟨w0, h1, rfl, h2⟩ := h
  exact h2.size
theorem GB.kp {B : Nat} {w w' : World} {S : Nat → Prop} (h : GB B w) (hk : Kp S w w') (hS : ∀ k, S k → B ≤ k) : GB B w' := by
  have hl := h.le
  obtain ⟨w0, h1, rfl, h2⟩ := h
  exact ⟨w0, h1, rfl, h2.trans (hk.below hS hl)⟩
theorem GB.below {B : Nat} {w w' : World} (h : GB B w) (hk : Below w.heap.size w w') : GB B w' := h.kp (S := fun _ => False) (Kp.of_below hk) (fun _ h => h.elim)
theorem GB.of {w : World} (h : Glob w) : GB w.heap.size w := ⟨w, h, rfl, Below.refl _ _⟩

set_option maxRecDepth 100000 in
set_option maxHeartbeats 2000000 in
theorem rdNumber_any (B b q i : Nat) (g : UInt8) (ps : List (List UInt8)) (cs : Array Value) (T : TypeId) (w : World) (G : GB B w) (hBb : B ≤ b) (_hBq : B ≤ q) (h : RdrAt w b g ps) (hq : w.heap[q]? = some (.cells cs T (0, 0))) (hi : i < cs.size) (hne : q ≠ b) :
    Calls Tryz.prog 113 #[.pointer (some ⟨b, 0, none⟩), .pointer (some ⟨q, i, none⟩)] w fun e w' => e = .returned (.bool (numOf (ps.headD [])).isSome) ∧ RdrAt w' b g ps.tail ∧
      w'.heap[q]? = some (.cells (match numOf (ps.headD []) with | some n => cs.setIfInBounds i (.int .i64 n) | none => cs) T (0, 0)) ∧ Kp (fun k => k = b ∨ k = q) w w' := by
  have kp := Lib.hid (part_any b g ps w h)
  have hl : (ps.headD []).length ≤ 1000000 := Nat.le_trans (head_le g ps) h.len
  have HN : Hid (∀ n, Lib.atoiAll (ps.headD []) = .ok n → numOf (ps.headD []) = if Lib.itoa n = ps.headD [] then some n else none) := fun n hn => by unfold numOf; rw [hn]
  have HG := Lib.hid G
  generalize ps.headD [] = p at *
  have HQ := Lib.hid hq
  have hbl := lt_of_blk h.blk
  have hql := lt_of_blk hq
  obtain ⟨N, hNN⟩ : ∃ N, numOf p = N := ⟨_, rfl⟩
  rw [hNN]
  have HNN := Lib.hid hNN
  obtain ⟨hN, hN2⟩ : (∃ z : Bool, N.isSome = z) ∧ True := ⟨⟨_, rfl⟩, trivial⟩
  clear h G hq hNN hN hN2
  go_enter Tryz.func113, Tryz.ntmps113
  go_wp2_with fail
  refine kp.out.mono ?_
  rintro e w1 ⟨rfl, hr1, hk1⟩
  have G1 : GB B w1 := HG.out.kp hk1 (fun k hk => by rw [hk]; exact hBb)
  have ka := Lib.hid (atoi_any p w1 G1.glob hl)
  have HK1 := Lib.hid hk1
  have HR1 := Lib.hid hr1
  have HG1 := Lib.hid G1
  clear hk1 hr1 G1
  go_wp2_with fail
  refine ka.out.mono ?_
  rintro e w2 ⟨hE, hb2⟩
  have HK2 : Hid (Kp (fun k => k = b) w w2) := HK1.out.trans (Kp.of_below hb2)
  have HR2 : Hid (RdrAt w2 b g ps.tail) := HR1.out.kept (S := fun _ => False) (Kp.of_below hb2) (fun h => h.elim)
  have HQ2 : Hid (w2.heap[q]? = some (.cells cs T (0, 0))) := (HK2.out.block q hql hne).trans HQ.out
  have HG2 := Lib.hid (HG1.out.below hb2)
  clear hb2
  rcases hE with ⟨n, hn, rfl⟩ | ⟨hn, x, t, M, rfl⟩
  · have hin := atoi_in hn
    have hnum := HN.out n hn
    rw [HNN.out] at hnum
    have ki := Lib.hid (itoa_any n w2 HG2.out.glob hin.1 hin.2)
    have hne2 := str_beq (Lib.itoa n) p
    rw [show bs (Lib.itoa n) = itoaS n from rfl] at hne2
    have HNU := Lib.hid hnum
    clear hnum hn
    by_cases hc : Lib.itoa n = p
    · have t1 : ((itoaS n).toList == (bs p).toList) = true := by rw [hne2]; simpa using hc
      have hN : N = some n := by rw [HNU.out, if_pos hc]
      subst hN
      clear hne2 HNU
      go_wp2_with fail
      refine ki.out.mono ?_
      rintro e w3 ⟨rfl, hb3⟩
      have HK3 : Hid (Kp (fun k => k = b) w w3) := HK2.out.trans (Kp.of_below hb3)
      have HR3 : Hid (RdrAt w3 b g ps.tail) := HR2.out.kept (S := fun _ => False) (Kp.of_below hb3) (fun h => h.elim)
      have hQ3 : w3.heap[q]? = some (.cells cs T (0, 0)) := (HK3.out.block q hql hne).trans HQ.out
      have hf := warm_of hQ3 i
      have hcell : ∃ u, w3.cell? ⟨q, i, none⟩ = some u := ⟨cs[i], by rw [cell_of hQ3 i]; exact Array.getElem?_eq_getElem hi⟩
      obtain ⟨u, hcell⟩ := hcell
      have HQ3 := Lib.hid hQ3
      clear hQ3 hb3
      go_wp2_with fail
      go_ret
      refine ⟨rfl, HR3.out.kept (S := fun k => k = q) (Kp.setCell (S := fun k => k = q) (p := ⟨q, i, none⟩) (Kp.refl _ _) (Eq.refl q) _) (fun h => hne h.symm), set_here HQ3.out, ?_⟩
      exact Kp.setCell (S := fun k => k = b ∨ k = q) (p := ⟨q, i, none⟩) (HK3.out.mono fun k h => .inl h) (.inr (Eq.refl q)) _
    · have t1 : ((itoaS n).toList == (bs p).toList) = false := by rw [hne2]; simpa using hc
      have hN : N = none := by rw [HNU.out, if_neg hc]
      subst hN
      clear hne2 HNU
      go_wp2_with fail
      refine ki.out.mono ?_
      rintro e w3 ⟨rfl, hb3⟩
      have HK3 : Hid (Kp (fun k => k = b) w w3) := HK2.out.trans (Kp.of_below hb3)
      have HR3 : Hid (RdrAt w3 b g ps.tail) := HR2.out.kept (S := fun _ => False) (Kp.of_below hb3) (fun h => h.elim)
      clear hb3
      go_wp2_with fail
      go_ret
      exact ⟨rfl, HR3.out, (HK3.out.block q hql hne).trans HQ.out, HK3.out.mono fun k h => .inl h⟩
  · have hN : N = none := by rw [← HNN.out]; exact hn
    subst hN
    go_wp2_with fail
    go_ret
    exact ⟨rfl, HR2.out, HQ2.out, HK2.out.mono fun k h => .inl h⟩
end Go.Proofs.YtbdhhfaelnnocaaGreatDoor
