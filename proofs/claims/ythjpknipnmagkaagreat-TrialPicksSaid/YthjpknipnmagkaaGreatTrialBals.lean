/-
  Contract of trial.Balances.
-/
import Derived.Test.YthjpknipnmagkaaGreatTrialGather
import Derived.Test.YthjpknipnmagkaaGreatTrialPlus
namespace Go.Proofs.YthjpknipnmagkaaGreat
open Go.RowKit
open Mo

def balOf (x : Lin) : Bal := ⟨x.acct, x.amt⟩
def balsOf (l : List Lin) : List Bal := l.map balOf
theorem made_bals (n : Nat) : (madeCells (Value.agg #[.int .i64 0, .int .i64 0]).cells (n * 2)).toList = bals (List.replicate n ⟨0, 0⟩) := by
  apply List.ext_getElem?
  intro i
  by_cases hi : i < n * 2
  · have h0 := bals_at (List.replicate n ⟨0, 0⟩) (i / 2) ⟨0, 0⟩ (by rw [List.getElem?_replicate, if_pos (by omega)])
    unfold madeCells
    rw [Array.getElem?_toList, Array.getElem?_map, Array.getElem?_range, if_pos hi]
    simp only [Value.cells, Option.map_some]
    have h2 : i % 2 = 0 ∨ i % 2 = 1 := by omega
    rcases h2 with h | h
    · have := h0.1
      rw [show i / 2 * 2 = i by omega] at this
      rw [this]
      simp [h]
    · have := h0.2
      rw [show i / 2 * 2 + 1 = i by omega] at this
      rw [this]
      simp [h]
  · rw [List.getElem?_eq_none (by rw [Array.length_toList, size_madeCells]; omega), List.getElem?_eq_none (by rw [bals_len]; simp; omega)]
theorem make_bals {q : IntKind} {n : Nat} (hn : n ≤ 1000000) (w : World) : (Instr.makeSlice 81 (.int q (n : Int)) (.int q (n : Int))).run Tryz.prog w = .ok (.slice (some ⟨w.heap.size, 0, none⟩) n n) (w.alloc (.cells (bals (List.replicate n ⟨0, 0⟩)).toArray 99)) := by
  obtain ⟨i, hi, hz, h1, h2⟩ := info_parts infoBal
  have := run_make (P := Tryz.prog) w 81 99 i _ Tryz.underlying81 hi hz q q n n (by omega) (by omega) (by rw [h2]; omega) (by omega)
  rw [this, h1]
  simp only [Int.toNat_natCast]
  rw [← made_bals, Array.toArray_toList]
theorem own_makeB (w : World) (n : Nat) (hn : n ≤ 1000000) : (w.alloc (.cells (bals (List.replicate n ⟨0, 0⟩)).toArray 99)).ownsRow w.heap.size 99 2 (.slice (some ⟨w.heap.size, 0, none⟩) n n) n (bals (List.replicate n ⟨0, 0⟩)) :=
  ⟨by rw [bals_len]; simp, .inr ⟨w.heap.size, n, _, rfl, Nat.le_refl _, heap_new _ _, Nat.le_refl _, by unfold maxLen; omega, by rw [List.size_toArray, bals_len]; simp, by rw [List.take_of_length_le (by rw [bals_len]; simp)]⟩⟩
/-- A place gets its cells. -/
theorem put_bal {w : World} {B g n c k : Nat} {P : List Bal} (x : Bal) (h : w.ownsRow B 99 2 (.slice (some ⟨g, 0, none⟩) n c) n (bals (P ++ List.replicate (n - k) ⟨0, 0⟩))) (hP : P.length = k) (hk : k < n) :
    ((w.setCell ⟨g, k * 2, none⟩ (.int .i64 x.acct)).setCell ⟨g, k * 2 + 1, none⟩ (.int .i64 x.amt)).ownsRow B 99 2 (.slice (some ⟨g, 0, none⟩) n c) n (bals ((P ++ [x]) ++ List.replicate (n - (k + 1)) ⟨0, 0⟩)) := by
  have h1 := own_setL [.int .i64 x.acct, .int .i64 x.amt] w (k * 2) _ h
  have e : setL (bals (P ++ List.replicate (n - k) ⟨0, 0⟩)) (k * 2) [.int .i64 x.acct, .int .i64 x.amt] = bals ((P ++ [x]) ++ List.replicate (n - (k + 1)) ⟨0, 0⟩) := by
    obtain ⟨r, hr⟩ : ∃ r, n - k = r + 1 := ⟨n - k - 1, by omega⟩
    rw [show n - (k + 1) = r by omega, hr, List.replicate_succ, bals_append, setL_off (bals P) _ _ (by rw [bals_len, hP]) (by rw [bals_len]; simp; omega)]
    rw [bals_append, bals_append]
    simp [bals, Bal.cells]
  rw [e] at h1
  exact h1
/-- What Balances gives. -/
def BalEnd (w : World) (o : OfT) (M : List Jrn) (e : Ending) (w' : World) : Prop :=
  (mayO o = false ∧ e = .returned (.tuple #[.slice none 0 0, .int .i64 1]) ∧ Below w.heap.size w w') ∨ (mayO o = true ∧ PlusEnd w (balsOf (gathL (pkL o) M)) e w')
theorem PlusEnd.on {w w1 w' : World} {l : List Bal} {e : Ending} (h : PlusEnd w1 l e w') (hb : Below w.heap.size w w1) : PlusEnd w l e w' := by
  obtain ⟨h1, h2⟩ := h
  refine ⟨hb.trans (h1.mono hb.size), ?_⟩
  rcases h2 with h2 | ⟨h2, A, c, R, h3, h4, h5⟩
  · exact .inl h2
  · exact .inr ⟨h2, A, c, R, h3, h4, own_base h5 hb.size⟩
theorem balsOf_len (l : List Lin) : (balsOf l).length = l.length := by simp [balsOf]
set_option maxRecDepth 100000 in
set_option maxHeartbeats 2000000 in
theorem balances_any (o : OfT) (B c : Nat) (v : Value) (l : List JR) (w : World) (h : TomeAt w B c v l) (hl : l.length ≤ 100) :
    Calls Tryz.prog 33 #[.pointer (some ⟨c, 0, none⟩), o.val] w (BalEnd w o (l.map JR.j)) := by
  obtain ⟨W, hW⟩ : ∃ W, w.alloc (.cells #[.int .i64 o.ent, .int .i64 o.frm, .int .i64 o.til] 80) = W := ⟨_, rfl⟩
  have hb : Below w.heap.size w W := by rw [← hW]; exact (Below.refl _ _).alloc (Nat.le_refl _) _
  have x0 : W.cell? ⟨w.heap.size, 0, none⟩ = some (.int .i64 o.ent) := by rw [← hW]; exact box_cell 0
  have x1 : W.cell? ⟨w.heap.size, 1, none⟩ = some (.int .i64 o.frm) := by rw [← hW]; exact box_cell 1
  have x2 : W.cell? ⟨w.heap.size, 2, none⟩ = some (.int .i64 o.til) := by rw [← hW]; exact box_cell 2
  have hz : W.heap.size = w.heap.size + 1 := by rw [← hW]; simp
  have KM := Lib.hid (mayBe_any' o W)
  have KG : Hid (∀ w1, Below w.heap.size w w1 → Calls Tryz.prog 115 #[.pointer (some ⟨c, 0, none⟩), .func (.func 116) #[o.val] #[]] w1 fun e w' => ∃ A' c', e = .returned (.slice A' (gathL (pkL o) (l.map JR.j)).length c') ∧ w'.ownsRow w1.heap.size 106 3 (.slice A' (gathL (pkL o) (l.map JR.j)).length c') (gathL (pkL o) (l.map JR.j)).length (lins (gathL (pkL o) (l.map JR.j))) ∧ Below w1.heap.size w1 w') := fun w1 h1 =>
    gather_any _ (.inl rfl) o (pkL o) B c v l w1 (h.below h1) (pickL o) fun j hj => pkL_le8 hj
  have hgl : (gathL (pkL o) (l.map JR.j)).length ≤ 800 := by
    have := gathL_len (pk := pkL o) (l := l.map JR.j) fun j hj => by
      obtain ⟨a, ha, rfl⟩ := List.mem_map.1 hj
      exact pkL_le8 (h.ok a ha)
    rw [List.length_map] at this
    omega
  have HW := Lib.hid hW; have HB := Lib.hid hb
  have HM : Hid (∀ e w', ((mayO o = false ∧ e = .returned (.tuple #[.slice none 0 0, .int .i64 1]) ∧ Below w.heap.size w w') ∨ (mayO o = true ∧ PlusEnd w (balsOf (gathL (pkL o) (l.map JR.j))) e w')) → BalEnd w o (l.map JR.j) e w') := fun _ _ h => h
  clear hW hb h
  generalize gathL (pkL o) (l.map JR.j) = G at *
  generalize BalEnd w o (l.map JR.j) = END at *
  generalize mayO o = may at *
  unfold OfT.val at *
  go_enter Tryz.func33, Tryz.ntmps33
  go_wp2_with fail
  rw [HW.out]
  refine KM.out.mono ?_
  rintro e w3 ⟨rfl, hb3⟩
  have HB3 := Lib.hid (HB.out.trans (hb3.mono HB.out.size))
  have y0 := (hb3.cell (p := ⟨w.heap.size, 0, none⟩) (by show w.heap.size < W.heap.size; omega)).trans x0
  have y1 := (hb3.cell (p := ⟨w.heap.size, 1, none⟩) (by show w.heap.size < W.heap.size; omega)).trans x1
  have y2 := (hb3.cell (p := ⟨w.heap.size, 2, none⟩) (by show w.heap.size < W.heap.size; omega)).trans x2
  clear hb3 KM x0 x1 x2
  cases may
  · go_wp2_with fail
    exact HM.out _ _ (.inl ⟨trivial, rfl, HB3.out⟩)
  · go_wp2_with fail
    refine (KG.out w3 HB3.out).mono ?_
    rintro e w4 ⟨A4, c4, rfl, hown, hb4⟩
    have HB4 := Lib.hid (HB3.out.trans (hb4.mono HB3.out.size))
    have HR4 : Hid (Rd w4 w4.heap.size 3 A4 G.length (lins G)) := rd_of_own hown
    obtain ⟨n, hn⟩ : ∃ n, G.length = n := ⟨_, rfl⟩
    rw [hn] at HR4 hgl ⊢
    have HN := Lib.hid hn
    have hmk := make_bals (q := .i64) (n := n) (by omega) w4
    obtain ⟨W5, hW5⟩ : ∃ W5, w4.alloc (.cells (bals (List.replicate n ⟨0, 0⟩)).toArray 99) = W5 := ⟨_, rfl⟩
    have HO5 : Hid (W5.ownsRow w4.heap.size 99 2 (.slice (some ⟨w4.heap.size, 0, none⟩) n n) n (bals (List.replicate n ⟨0, 0⟩))) := by rw [← hW5]; exact own_makeB w4 n (by omega)
    have hb5 : Below w4.heap.size w4 W5 := by rw [← hW5]; exact (Below.refl _ _).alloc (Nat.le_refl _) _
    have HB5 := Lib.hid hb5
    have hz4 := HB4.out.size
    rw [hW5] at hmk
    clear hown hb4 KG hn hW5 hb5 y0 y1 y2
    go_wp2_with fail
    go_loopw [26] (fun iv wr => ∃ k : Nat, k ≤ n ∧ iv = .int .i64 k ∧ wr.ownsRow w4.heap.size 99 2 (.slice (some ⟨w4.heap.size, 0, none⟩) n n) n (bals (balsOf (G.take k) ++ List.replicate (n - k) ⟨0, 0⟩)) ∧ Below w4.heap.size w4 wr) (fun iv _ => n - (intOf iv).toNat)
    case atStart => exact ⟨0, Nat.zero_le _, rfl, HO5.out, HB5.out⟩
    case round =>
      obtain ⟨k, hk, rfl, hown, hbel⟩ := hrel
      have hzr := hbel.size
      by_cases hlt : k < n
      · obtain ⟨ad, x, rfl, hb0, hx, p0, p1, p2⟩ := (HR4.out.below hbel).lin hlt
        have p1' := cell_behind (j := 1) p1 (by omega)
        have p2' := cell_behind (j := 2) p2 (by omega)
        have hkI : (k : Int) < (n : Int) := by omega
        have HO := Lib.hid hown; have HBE := Lib.hid hbel
        have HX := Lib.hid hx
        have hlt0 := own_lt hown w4.heap.size rfl
        obtain ⟨q0, hq0⟩ : ∃ u, wr.cell? ⟨w4.heap.size, k * 2, none⟩ = some u := ⟨_, own_cell hown (List.getElem?_eq_getElem (by rw [bals_len]; simp [balsOf]; have := HN.out; omega))⟩
        obtain ⟨q1, hq1⟩ : ∃ u, wr.cell? ⟨w4.heap.size, k * 2 + 1, none⟩ = some u := ⟨_, own_cell hown (List.getElem?_eq_getElem (by rw [bals_len]; simp [balsOf]; have := HN.out; omega))⟩
        have f0 := own_warm hown (k * 2)
        have f1 := own_warm hown (k * 2 + 1)
        clear hx p1 p2 hb0 hown hbel
        go_wp2_with fail
        have hG : balsOf (G.take (k + 1)) = balsOf (G.take k) ++ [balOf x] := by
          obtain ⟨hk2, rfl⟩ := List.getElem?_eq_some_iff.1 HX.out
          unfold balsOf
          rw [List.take_succ_eq_append_getElem hk2, List.map_append]
          rfl
        have hput := put_bal (balOf x) HO.out (by rw [balsOf_len, List.length_take, HN.out]; omega) hlt
        rw [← hG] at hput
        refine ⟨⟨k + 1, by omega, by go_num, own_kept hput fun q hq _ => Below.heap_alloc _ _ _ hq, ((HBE.out.setCell (Nat.le_refl _) _).setCell (Nat.le_refl _) _).alloc (by simp; omega) _⟩, by simp [intOf]; omega⟩
      · obtain rfl : k = n := by omega
        have e : G.take k = G := List.take_of_length_le (by rw [HN.out]; omega)
        rw [e, Nat.sub_self, List.replicate_zero, List.append_nil] at hown
        have kp := plus_any (balsOf G) [] (some ⟨w4.heap.size, 0, none⟩) none k 0 k 0 wr.heap.size wr (rd_of_own hown) Rd.nil_ (Nat.le_refl _) (by omega)
        rw [List.append_nil] at kp
        have KP := Lib.hid kp
        have HBE := Lib.hid (HB4.out.trans (hbel.mono hz4))
        clear hown hbel e kp
        go_wp2_with fail
        refine KP.out.mono ?_
        rintro e w6 hpe
        have HPE := Lib.hid (PlusEnd.on hpe HBE.out)
        clear hpe KP
        obtain ⟨e1, he1, he2⟩ : ∃ v1 v2, e = .returned (.tuple #[v1, v2]) := by
          obtain ⟨_, ⟨_, h⟩ | ⟨_, A, c, R, _, h, _⟩⟩ := HPE.out
          · exact ⟨_, _, h⟩
          · exact ⟨_, _, h⟩
        subst he2
        go_wp2_with fail
        exact HM.out _ _ (.inr ⟨trivial, HPE.out⟩)
end Go.Proofs.YthjpknipnmagkaaGreat

