/-
  Contract of entry.Text, its walk.
-/
import Derived.Test.YtbdhhfaelnnocaaGreatDoorEntryText
namespace Go.Proofs.YtbdhhfaelnnocaaGreatDoor
open Go.RowKit Go.Sort

theorem join_parts (l : List (List UInt8)) : (l.map bs).map (·.data.toList) = l := by
  rw [List.map_map]
  exact (List.map_congr_left fun x _ => bs_list x).trans (List.map_id _)
theorem join_any (l : List (List UInt8)) (g c N : Nat) (w : World) (hN : l.length = N) (hown : ∀ j x, l[j]? = some x → w.cell? ⟨g, j, none⟩ = some (.string (bs x))) (hg : g < w.heap.size) (hc : N ≤ c) (h1 : N ≤ 1000000) (h2 : (Lib.join l [32]).length ≤ 140737488355328) :
    Calls Tryz.prog 28 #[.slice (some ⟨g, 0, none⟩) N c, .string ⟨#[32]⟩] w fun e w' => e = .returned (.string (bs (Lib.join l [32]))) ∧ Below w.heap.size w w' := by
  have hlen : (l.map bs).length = N := by rw [List.length_map]; exact hN
  have e1 : (⟨#[32]⟩ : ByteArray).data.toList = [32] := rfl
  have := Tryz.strings_Join g 0 c (l.map bs) ⟨#[32]⟩ w (fun j x hx => by
    rw [List.getElem?_map] at hx
    cases hq : l[j]? with
    | none => rw [hq] at hx; cases hx
    | some y =>
      rw [hq] at hx
      simp at hx
      rw [Nat.zero_add, ← hx]
      exact hown j y hq) hg (by omega) (by omega) (by rw [join_parts, e1]; exact h2)
  rw [join_parts, e1, hlen] at this
  exact this

theorem text_bs (p : Int) (w : World) : Calls Tryz.prog 24 #[.int .i64 p] w fun e w' => e = .returned (.string (bs (textB p))) ∧ Below w.heap.size w w' := text_any p w

set_option maxRecDepth 100000 in
set_option maxHeartbeats 2000000 in
theorem entryText_any (j : Jrn) (A : Option Addr) (n c B : Nat) (w : World) (G : Glob w) (h : Rd w B 3 A n (lins j.lines)) (hB : B ≤ w.heap.size) (hn : n ≤ maxLen) (hs : j.ref.size ≤ maxLen) (h64 : j.ok64) :
    Calls Tryz.prog 8 #[j.val A n c] w fun e w' => e = .returned (.tuple #[.string (if checkE j = 0 then bs (textJ j) else ⟨#[]⟩), .int .i64 (checkE j)]) ∧ Below w.heap.size w w' := by
  have HL := Lib.hid h.lins_len
  obtain ⟨W1, hW⟩ : ∃ W1, w.alloc (.cells #[.int .i64 j.id, .int .i64 j.ent, .int .i64 j.per, .string j.ref, .slice A n c, .bool j.void] 24) = W1 := ⟨_, rfl⟩
  have hb1 : Below w.heap.size w W1 := by rw [← hW]; exact (Below.refl _ _).alloc (Nat.le_refl _) _
  have HW := Lib.hid hW
  have HB1 := Lib.hid hb1
  have kc := Lib.hid (check_any j A n c B W1 (h.far hb1 hB) (Nat.le_trans hB hb1.size) hn hs)
  have HG : Hid (∀ w1, Below W1.heap.size W1 w1 → Glob w1) := fun w1 hb => (G.below hb1).below hb
  have HR : Hid (∀ w1, Below W1.heap.size W1 w1 → Rd w1 B 3 A n (lins j.lines)) := fun w1 hb => h.far (hb1.trans (hb.mono hb1.size)) hB
  have HO := Lib.hid h64
  by_cases hE : checkE j = 0
  rotate_left
  · rw [if_neg hE]
    clear h64 G h hb1 hW
    unfold Jrn.val at *
    obtain ⟨id, ent, per, ref, L, void⟩ := j
    dsimp only at *
    generalize checkE ⟨id, ent, per, ref, L, void⟩ = E at *
    have t1 : (E != 0) = true := by simpa using hE
    clear hE
    go_enter Tryz.func8, Tryz.ntmps8
    go_wp2_with fail
    rw [HW.out]
    refine kc.out.mono ?_
    rintro e w1 ⟨rfl, hb⟩
    have HB2 := Lib.hid hb
    clear hb
    go_wp2_with fail
    go_ret2
    exact ⟨rfl, HB1.out.trans (HB2.out.mono HB1.out.size)⟩
  · rw [if_pos hE]
    rw [hE] at kc ⊢
    obtain ⟨hF, hLn, _, _⟩ := checkE_ok hE
    obtain ⟨hn2, hn8⟩ := linesOk_len hLn
    rw [HL.out] at hn2 hn8
    have HJ : Hid ((textJ j).length ≤ 140737488355328) := by
      have := join_le [32] (partsJ j) (parts_le h64 (checkE_ref hF))
      rw [partsJ_len, HL.out] at this
      unfold Hid textJ
      simp only [List.length_cons, List.length_nil] at this
      have h2 : (n + 5) * 66 ≤ 13 * 66 := Nat.mul_le_mul_right _ (by omega)
      omega
    obtain ⟨TX, hTX⟩ : ∃ TX, textJ j = TX := ⟨_, rfl⟩
    have HTX := Lib.hid hTX
    rw [hTX]
    have HP : Hid (∀ k x, j.lines[k]? = some x → (partsJ j).take (k + 1 + 5) = (partsJ j).take (k + 5) ++ [lineT x]) := fun k x hx => parts_take j hx
    have HP5 := Lib.hid (parts_five j)
    have HPL := Lib.hid (partsJ_len j)
    obtain ⟨PJ, hPJ⟩ : ∃ PJ, partsJ j = PJ := ⟨_, rfl⟩
    have hTX2 : Hid (Lib.join PJ [32] = TX) := by rw [← hPJ]; exact hTX
    rw [hPJ] at HP HP5 HPL
    rw [hTX] at HJ
    clear h64 G h hb1 hW hTX HTX hE hF hLn hPJ
    unfold Jrn.val at *
    obtain ⟨id, ent, per, ref, L, void⟩ := j
    dsimp only at *
    obtain ⟨⟨p1, p2⟩, ⟨p3, p4⟩, _, HOL⟩ := HO.out
    dsimp only at p1 p2 p3 p4 HOL
    have HOL := Lib.hid HOL
    have z0 : ((0 : Int) != 0) = false := rfl
    go_enter Tryz.func8, Tryz.ntmps8
    go_wp2_with fail
    rw [HW.out]
    refine kc.out.mono ?_
    rintro e w1 ⟨rfl, hb⟩
    have HB2 := Lib.hid hb
    clear hb
    go_wp2_with fail
    obtain ⟨b0, b1, b2, b3, b4, b5⟩ := box6 HW.out HB2.out
    have HS4 := Lib.hid b4
    have k0 := cell_regrown b0
    have k1 := cell_regrown b1
    have k2 := cell_regrown b2
    have k3 := cell_regrown b3
    have k5 := cell_regrown b5
    have Q1 := Lib.hid (regrown_calls (w := w1) fun w2 hb => itoa_any id w2 ((HG.out w1 HB2.out).below hb) p1 p2)
    have Q2 := Lib.hid (regrown_calls (w := w1) fun w2 hb => itoa_any ent w2 ((HG.out w1 HB2.out).below hb) p3 p4)
    have Q3 := Lib.hid (regrown_calls (w := w1) fun w2 _ => text_bs per w2)
    have Q4 := Lib.hid (regrown_calls (w := w1) fun w2 _ => (refText_any ref w2).mono fun e w' ⟨he, hw⟩ => ⟨he, hw ▸ Below.refl _ _⟩)
    have Q5 := Lib.hid (regrown_calls (w := w1) fun w2 _ => (stateText_any void w2).mono fun e w' ⟨he, hw⟩ => ⟨he, hw ▸ Below.refl _ _⟩)
    clear b0 b1 b2 b3 b4 b5
    refine wp_region_below_tail 15 (by kernel_rfl) (by kernel_rfl) ?_
    simp only [List.take_succ_cons, List.take_zero, List.drop_succ_cons, List.drop_zero]
    repeat (quiet_step (first | exact Q1.out _ _ | exact Q2.out _ _ | exact Q3.out _ _ | exact Q4.out _ _ | exact Q5.out _ _))
    refine wpQuiet_nil ?_
    intro w2 hw2
    have HB3 : Hid (Below w1.heap.size w1 w2) := by
      obtain ⟨p, rfl⟩ := hw2
      exact below_regrown _ _ _
    clear hw2 k0 k1 k2 k3 k5 Q1 Q2 Q3 Q4 Q5
    have hz2 := HB3.out.size
    have ho := World.ownsRow_lit (base := w1.heap.size) (e := 9) (size := 1) w2 #[.string (itoaS id), .string (itoaS ent), (.string (bs (textB per))), .string (bs (refT ref.data.toList)), .string (bs (stateT void))] 5 hz2 (by unfold maxLen; omega) rfl
    have hb4 : w2.cell? ⟨w.heap.size, 4, none⟩ = some (.slice A n c) := (HB3.out.cell (block_of_cell HS4.out)).trans HS4.out
    have hzw : w.heap.size < w2.heap.size := block_of_cell hb4
    have HB4 : Hid (Below w1.heap.size w1 (w2.alloc (.cells #[.string (itoaS id), .string (itoaS ent), (.string (bs (textB per))), .string (bs (refT ref.data.toList)), .string (bs (stateT void))] 9))) := HB3.out.alloc hz2 _
    have HOW := Lib.hid ho
    clear ho
    go_wp2_with fail
    clear hb4 hzw hz2
    generalize w2.alloc (.cells #[.string (itoaS id), .string (itoaS ent), (.string (bs (textB per))), .string (bs (refT ref.data.toList)), .string (bs (stateT void))] 9) = W3 at *
    go_loopw [32, 5, 7] (fun iv pv _ wr => ∃ k : Nat, k ≤ n ∧ iv = .int .i64 k ∧ wr.ownsRow w1.heap.size 9 1 pv (k + 5) (strs (PJ.take (k + 5))) ∧ Below w1.heap.size w1 wr) (fun iv _ _ _ => n - (intOf iv).toNat)
    case atStart =>
      refine ⟨0, Nat.zero_le _, rfl, ?_, HB4.out⟩
      rw [Nat.zero_add, HP5.out]
      exact HOW.out
    case round =>
      obtain ⟨k, hk, rfl, hown, hbel⟩ := hrel
      have hzr := hbel.size
      have HBr : Hid (Below W1.heap.size W1 wr) := HB2.out.trans (hbel.mono HB2.out.size)
      obtain ⟨A5, c5, rfl⟩ := own_form hown
      by_cases hlt : k < n
      · obtain ⟨ad, x, rfl, hbk, hx, q1, q2, q3⟩ := (HR.out wr HBr.out).lin hlt
        have hkn : (k : Int) < (n : Int) := by omega
        have q2' := cell_behind q2 (by omega)
        have q3' := cell_behind q3 (by omega)
        have HST := Lib.hid (HP.out k x hx)
        have hx64 := HOL.out x (List.mem_of_getElem? hx)
        have kl : Hid (∀ o, Calls Tryz.prog 27 #[x.val] (wr.alloc o) fun e w' => e = .returned (.string (bs (lineT x))) ∧ Below (wr.alloc o).heap.size (wr.alloc o) w') := fun o => lineText_any x (wr.alloc o) ((HG.out wr HBr.out).below ((Below.refl _ _).alloc (Nat.le_refl _) o)) hx64
        have HBE := Lib.hid hbel
        have HOW2 := Lib.hid hown
        clear hx q2 q3 hbel hown hx64
        unfold Lin.val at kl
        obtain ⟨x1, x2, x3⟩ := x
        dsimp only at *
        go_wp2_with fail
        refine (kl.out _).mono ?_
        rintro e w4 ⟨rfl, hb4⟩
        have hbw : Below wr.heap.size wr w4 := ((Below.refl _ _).alloc (Nat.le_refl _) _).trans (hb4.mono (by simp))
        have hz4 := hbw.size
        have hown4 := own_kept HOW2.out (w' := w4.alloc (.cells #[.string (bs (lineT ⟨x1, x2, x3⟩))] 9)) fun q hq _ => (Below.heap_alloc _ _ _ (by omega)).trans (hbw.block q hq)
        obtain ⟨v5, w5, hrun, hown5, hg5, _⟩ := append_fresh (P := Tryz.prog) (ty := 61) (c := 1) infoStr Tryz.underlying61 rfl (by omega) w1.heap.size _ (k + 5) _ hown4 (rd_one w4 (.string (bs (lineT ⟨x1, x2, x3⟩))) 9) (strs_one [lineT ⟨x1, x2, x3⟩]) (by unfold maxLen; omega) (by omega) (by simp; omega)
        have HR5 := Lib.hid hrun
        have HB5 : Hid (Below w1.heap.size w1 w5) := ((HBE.out.trans (hbw.mono hzr)).alloc (by omega) _).grown hg5 (by simp; omega) (own_ge hown4)
        have HOW5 : Hid (w5.ownsRow w1.heap.size 9 1 v5 (k + 1 + 5) (strs (PJ.take (k + 1 + 5)))) := by
          rw [HST.out, strs_append]
          rw [show k + 1 + 5 = k + 5 + 1 by omega]
          exact hown5
        clear hrun hown5 hg5 hown4 hbw hb4
        go_wp2_with (at_builtin; refine wpList_append_run rfl _ _ _ rfl _ _ _ _ rfl rfl HR5.out ?_)
        exact ⟨⟨k + 1, by omega, by go_num, HOW5.out, HB5.out⟩, by simp [intOf]; omega⟩
      · obtain rfl : k = n := by omega
        rw [List.take_of_length_le (by rw [HPL.out, HL.out]; omega)] at hown
        obtain ⟨g, c6, hv, hcap, hg⟩ := hown.form (by omega)
        injection hv with hv _ hcc
        subst hv hcc
        have hcp : k + 5 ≤ c5 := by
          rcases hown.2 with ⟨h1, _⟩ | ⟨g', cap', cur, h1, _, _, h2, _⟩
          · cases h1
          · injection h1 with _ _ h3
            rw [h3]; exact h2
        have kj := join_any PJ g c5 (k + 5) wr (by rw [HPL.out, HL.out]) (fun q y hy => own_cell hown (by simp [strs, hy])) hg hcp (by omega) (by rw [hTX2.out]; exact HJ.out)
        rw [hTX2.out] at kj
        have KJ := Lib.hid kj
        have HBE := Lib.hid hbel
        clear hown kj hbel
        go_wp2_with fail
        refine KJ.out.mono ?_
        rintro e w5 ⟨rfl, hb5⟩
        have HB5 := Lib.hid hb5
        clear hb5
        go_wp2_with fail
        go_ret2
        exact ⟨rfl, HB1.out.trans ((HBr.out.trans (HB5.out.mono HBr.out.size)).mono HB1.out.size)⟩
end Go.Proofs.YtbdhhfaelnnocaaGreatDoor
