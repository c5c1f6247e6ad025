/-
  Contract of the reference's Cut.
-/
import Derived.Test.YtakjiehncoankaaDoorRefNumber
namespace Go.Proofs.YtakjiehncoankaaDoor
open Go.RowKit Go.Sort

theorem bs_cut (s : List UInt8) (a b : Nat) : (bs s).extract a b = bs ((s.drop a).take (b - a)) := by
  apply ByteArray.ext
  simp [bs, List.take_drop]
theorem bs_byte {s : List UInt8} {i : Nat} {b : UInt8} (h : s[i]? = some b) (w : World) : (Instr.index 9 (.string (bs s)) (.int .i64 (i : Int))).run Tryd.prog w = .ok (.int .u8 (b.toNat : Int)) w := by
  obtain ⟨hl, rfl⟩ := List.getElem?_eq_some_iff.1 h
  rw [run_index_string w _ _ _ _ Tryd.underlying9, dif_pos (by rw [bs_size]; omega)]
  rfl
/-- The head of Cut's loop: what is cut, where the next part begins. -/
def CutRel (s : List UInt8) (c : UInt8) (out : List (List UInt8)) (a i : Nat) : Prop :=
  (i ≤ s.length ∧ a ≤ i ∧ c ∉ (s.drop a).take (i - a) ∧ splitL c s = out ++ splitL c (s.drop a)) ∨ (i = s.length + 1 ∧ out = splitL c s)
theorem CutRel.on {s : List UInt8} {c b : UInt8} {out : List (List UInt8)} {a i : Nat} (h : CutRel s c out a i) (hb : s[i]? = some b) (hne : b ≠ c) : CutRel s c out a (i + 1) := by
  obtain ⟨hi, rfl⟩ := List.getElem?_eq_some_iff.1 hb
  rcases h with ⟨h1, h2, h3, h4⟩ | ⟨h1, _⟩
  · refine .inl ⟨by omega, by omega, ?_, h4⟩
    rw [show i + 1 - a = (i - a) + 1 by omega, List.take_succ_eq_append_getElem (by simp; omega)]
    intro hm
    rcases List.mem_append.1 hm with hm | hm
    · exact h3 hm
    · simp at hm
      apply hne
      rw [hm]
      congr 1
      omega
  · omega
theorem CutRel.cut {s : List UInt8} {c : UInt8} {out : List (List UInt8)} {a i : Nat} (h : CutRel s c out a i) (hb : s[i]? = some c) : CutRel s c (out ++ [(s.drop a).take (i - a)]) (i + 1) (i + 1) := by
  obtain ⟨hi, hc⟩ := List.getElem?_eq_some_iff.1 hb
  rcases h with ⟨h1, h2, h3, h4⟩ | ⟨h1, _⟩
  · refine .inl ⟨by omega, Nat.le_refl _, by simp, ?_⟩
    have he : s.drop a = (s.drop a).take (i - a) ++ c :: s.drop (i + 1) := by
      conv => lhs; rw [← List.take_append_drop (i - a) (s.drop a), List.drop_drop, show a + (i - a) = i by omega, List.drop_eq_getElem_cons hi, hc]
    rw [h4]
    conv => lhs; rw [he, split_app c _ _ h3]
    simp
  · omega
theorem CutRel.last {s : List UInt8} {c : UInt8} {out : List (List UInt8)} {a : Nat} (h : CutRel s c out a s.length) : CutRel s c (out ++ [(s.drop a).take (s.length - a)]) (s.length + 1) (s.length + 1) := by
  rcases h with ⟨_, h2, h3, h4⟩ | ⟨h1, _⟩
  · refine .inr ⟨rfl, ?_⟩
    have he : (s.drop a).take (s.length - a) = s.drop a := List.take_of_length_le (by simp)
    rw [he] at h3 ⊢
    rw [h4, split_clean c _ h3]
  · omega
theorem CutRel.fin {s : List UInt8} {c : UInt8} {out : List (List UInt8)} {a i : Nat} (h : CutRel s c out a i) (hi : ¬ i ≤ s.length) : out = splitL c s := by
  rcases h with ⟨h1, _⟩ | ⟨_, h⟩
  · omega
  · exact h
theorem CutRel.le {s : List UInt8} {c : UInt8} {out : List (List UInt8)} {a i : Nat} (h : CutRel s c out a i) : i ≤ s.length + 1 ∧ (i ≤ s.length → a ≤ i) := by
  rcases h with ⟨h1, h2, _⟩ | ⟨h1, _⟩
  · exact ⟨by omega, fun _ => h2⟩
  · exact ⟨by omega, fun _ => by omega⟩

set_option maxRecDepth 100000 in
set_option maxHeartbeats 2000000 in
theorem refCut_any (s : List UInt8) (c : UInt8) (w : World) (hs : s.length ≤ 1000) :
    Calls Tryd.prog 23 #[.string (bs s), .int .u8 (c.toNat : Int)] w fun e w' => ∃ A cap, e = .returned (.slice A (splitL c s).length cap) ∧ w'.ownsRow w.heap.size 9 1 (.slice A (splitL c s).length cap) (splitL c s).length (strs (splitL c s)) ∧ Below w.heap.size w w' := by
  have hss := bs_size s
  go_enter Tryd.func23, Tryd.ntmps23
  go_wp2_with fail
  go_loopw [5, 6, 7] (fun ov av iv wr => ∃ (i a : Nat) (out : List (List UInt8)) (A : Option Addr) (cap : Nat), iv = .int .i64 i ∧ av = .int .i64 a ∧ ov = .slice A out.length cap ∧ out.length ≤ i ∧ Hid (CutRel s c out a i) ∧ Hid (wr.ownsRow w.heap.size 9 1 (.slice A out.length cap) out.length (strs out)) ∧ Below w.heap.size w wr) (fun _ _ iv _ => s.length + 1 - (intOf iv).toNat)
  case atStart => exact ⟨0, 0, [], none, 0, rfl, rfl, rfl, by simp, .inl ⟨by omega, by omega, by simp, by simp⟩, World.ownsRow_nil _ _ _ _, Below.refl _ _⟩
  case round =>
    obtain ⟨i, a, out, A, cap, rfl, rfl, rfl, hol, hrel2, hown, hbel⟩ := hrel
    have hz := hbel.size
    have hle := hrel2.out.le
    have HB := Lib.hid hbel
    by_cases hi : i ≤ s.length
    · have hiI : (i : Int) ≤ (s.length : Int) := by omega
      have hai := hle.2 hi
      have haI : (a : Int) ≤ (i : Int) := by omega
      -- a part more
      obtain ⟨v', w', hrun, hown', hg, hp'⟩ := append_fresh (P := Tryd.prog) (w := wr.alloc (.cells #[.string (bs ((s.drop a).take (i - a)))] 9)) (ty := 48) (c := 1) infoStr Tryd.underlying48 rfl (by omega) w.heap.size (.slice A out.length cap) out.length _ (own_kept hown.out fun q hq _ => Below.heap_alloc _ _ _ hq) (rd_one wr (.string (bs ((s.drop a).take (i - a)))) 9) (by simp; rfl) (by unfold maxLen; omega) (by omega) (by simp; omega)
      obtain ⟨A', cap', rfl⟩ := own_form hown'
      have hso : strs out ++ [.string (bs ((s.drop a).take (i - a)))] = strs (out ++ [(s.drop a).take (i - a)]) := by rw [strs_append]; rfl
      rw [hso] at hown'
      have HR := Lib.hid hrun
      have HO : Hid (w'.ownsRow w.heap.size 9 1 (.slice A' (out ++ [(s.drop a).take (i - a)]).length cap') (out ++ [(s.drop a).take (i - a)]).length (strs (out ++ [(s.drop a).take (i - a)]))) := by rw [List.length_append]; exact hown'
      have HB2 : Hid (Below w.heap.size w w') := (hbel.alloc hz _).grown hg (by simp; omega) (fun k hk => own_ge hown.out k hk)
      have hcut := bs_cut s a i
      have HNL : Hid (i = s.length → CutRel s c (out ++ [(s.drop a).take (i - a)]) (i + 1) (i + 1)) := fun h => by
        subst h
        exact hrel2.out.last
      have HNC : Hid (s[i]? = some c → CutRel s c (out ++ [(s.drop a).take (i - a)]) (i + 1) (i + 1)) := fun h => hrel2.out.cut h
      have HNO : Hid (∀ b, s[i]? = some b → b ≠ c → CutRel s c out a (i + 1)) := fun b h1 h2 => hrel2.out.on h1 h2
      have hlP : (out ++ [(s.drop a).take (i - a)]).length = out.length + 1 := by simp
      generalize (s.drop a).take (i - a) = P at *
      have HLP := Lib.hid hlP
      clear hrun hown' hg hp' hso hle hlP
      by_cases hl : i = s.length
      · have t1 : ((i : Int) == (s.length : Int)) = true := by simp [hl]
        have HN := Lib.hid (HNL.out hl)
        clear HNL HNC HNO hrel2 hl
        go_wp2_with (at_builtin; refine wpList_append_run rfl _ _ _ rfl _ _ _ _ rfl rfl HR.out ?_)
        refine ⟨⟨i + 1, i + 1, out ++ [P], A', cap', by go_num, by go_num, by rw [HLP.out], by rw [HLP.out]; omega, HN.out, HO.out, HB2.out⟩, by simp [intOf]; omega⟩
      · have t1 : ((i : Int) == (s.length : Int)) = false := by rw [beq_eq_false_iff_ne]; omega
        obtain ⟨b, hb⟩ : ∃ b : UInt8, s[i]? = some b := ⟨_, List.getElem?_eq_getElem (by omega)⟩
        have hix := fun w => bs_byte hb w
        by_cases hbc : b = c
        · subst hbc
          have t2 : ((b.toNat : Int) == (b.toNat : Int)) = true := by simp
          have HN := Lib.hid (HNC.out hb)
          clear HNL HNC HNO hrel2 hb
          go_wp2_with (at_builtin; refine wpList_append_run rfl _ _ _ rfl _ _ _ _ rfl rfl HR.out ?_)
          refine ⟨⟨i + 1, i + 1, out ++ [P], A', cap', by go_num, by go_num, by rw [HLP.out], by rw [HLP.out]; omega, HN.out, HO.out, HB2.out⟩, by simp [intOf]; omega⟩
        · have t2 : ((b.toNat : Int) == (c.toNat : Int)) = false := by
            rw [beq_eq_false_iff_ne]
            intro e
            exact hbc (UInt8.toNat_inj.1 (by omega))
          have HN := Lib.hid (HNO.out b hb hbc)
          clear HNL HNC HNO hrel2 hb
          go_wp2_with fail
          refine ⟨⟨i + 1, a, out, A, cap, by go_num, rfl, rfl, by omega, HN.out, hown.out, HB.out⟩, by simp [intOf]; omega⟩
    · have hiI : ¬ (i : Int) ≤ (s.length : Int) := by omega
      have HF := Lib.hid (hrel2.out.fin hi)
      clear hrel2
      go_wp2_with fail
      go_ret
      refine ⟨A, cap, by rw [← HF.out]; rfl, ?_, HB.out⟩
      rw [← HF.out]
      exact hown.out
end Go.Proofs.YtakjiehncoankaaDoor
