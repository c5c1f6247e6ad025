/-
  Contract of trial.Partners.
-/
import Derived.Test.YtjlokkjbdgcooaaGreatMany20
import Derived.Test.YtjlokkjbdgcooaaGreatMany7
import Derived.BigQuiet
namespace Go.Proofs.YtjlokkjbdgcooaaGreat
open Go.RowKit
open Mo

/-- What is with a partner. -/
def partSum (p : Nat) : List Lin → Int
  | [] => 0
  | x :: r => (if x.part = p then x.amt else 0) + partSum p r
theorem partSum_append (p : Nat) : ∀ l m : List Lin, partSum p (l ++ m) = partSum p l + partSum p m
  | [], m => by simp [partSum]
  | x :: r, m => by simp only [List.cons_append, partSum, partSum_append p r m]; omega
theorem partSum_step {p : Nat} {l : List Lin} {k : Nat} {x : Lin} (h : l[k]? = some x) : partSum p (l.take (k + 1)) = partSum p (l.take k) + if x.part = p then x.amt else 0 := by
  obtain ⟨hk, rfl⟩ := List.getElem?_eq_some_iff.1 h
  rw [List.take_succ_eq_append_getElem hk, partSum_append]
  simp [partSum]
theorem partSum_bound {p : Nat} : ∀ {l : List Lin}, (∀ x ∈ l, -1000000000000000 ≤ x.amt ∧ x.amt ≤ 1000000000000000) → -(1000000000000000 * (l.length : Int)) ≤ partSum p l ∧ partSum p l ≤ 1000000000000000 * (l.length : Int)
  | [], _ => by simp [partSum]
  | x :: r, h => by
    have h1 := partSum_bound (p := p) fun y hy => h y (List.mem_cons_of_mem _ hy)
    have h2 := h x (List.mem_cons_self ..)
    rw [partSum, List.length_cons]
    split <;> omega
def prsK (f : Nat → Int) (k : Nat) : List Pair := ((List.range k).filter fun j => f j != 0).map fun j : Nat => ⟨(j : Int), f j⟩
theorem prsK_step (f : Nat → Int) (k : Nat) : prsK f (k + 1) = prsK f k ++ if f k = 0 then [] else [⟨(k : Int), f k⟩] := by
  unfold prsK
  rw [List.range_succ, List.filter_append, List.map_append]
  by_cases h : f k = 0 <;> simp [h]
theorem prsK_len (f : Nat → Int) (k : Nat) : (prsK f k).length ≤ k := by
  unfold prsK
  rw [List.length_map]
  exact Nat.le_trans (List.length_filter_le _ _) (by simp)
def PartEnd (w : World) (o : OfT) (M : List Jrn) (e : Ending) (w' : World) : Prop :=
  Below w.heap.size w w' ∧ ((mayO o = false ∧ e = .returned (.tuple #[.slice none 0 0, .int .i64 1])) ∨ (mayO o = true ∧ plusB (balsOf (gathL (pkL o) M)) = false ∧ e = .returned (.tuple #[.slice none 0 0, .int .i64 2])) ∨
    (mayO o = true ∧ plusB (balsOf (gathL (pkL o) M)) = true ∧ ∃ A c R, R = prsK (fun p => partSum p (gathL (pkP o) M)) 10 ∧ e = .returned (.tuple #[.slice A (List.length R) c, .int .i64 0]) ∧ w'.ownsRow w.heap.size 177 2 (.slice A (List.length R) c) (List.length R) (pairs R)))

theorem pairsOne (l : List Pair) : ∀ u ∈ pairs l, u.oneCell' = true := by
  intro u hu
  obtain ⟨a, _, hu⟩ := List.mem_flatMap.1 hu
  simp [Pair.cells] at hu
  rcases hu with rfl | rfl <;> rfl
/-- Pairs appended to pairs of one's own. -/
theorem append_pairs {w : World} {base m n c B : Nat} {v : Value} {A : Option Addr} {L l : List Pair} (h : w.ownsRow base 177 2 v m (pairs L)) (h2 : Rd w B 2 A n (pairs l)) (hb : base ≤ w.heap.size) (hm : m + n ≤ 2000000) :
    ∃ v' w', (∀ ty, (Builtin.append_ #[85, 85] ty #[v, .slice A n c]).run Tryz.prog w = .ok v' w') ∧ w'.ownsRow base 177 2 v' (m + n) (pairs (L ++ l)) ∧ Below base w w' := by
  obtain ⟨v', w', hrun, hown, hg, hp⟩ := append_fresh (P := Tryz.prog) (ty := 0) (c := c) infoPair Tryz.underlying85 rfl (by omega) base v m (pairs L) h h2 (pairsOne _) (by unfold maxLen; omega) (by omega) hb
  exact ⟨v', w', fun ty => hrun, by rw [pairs_append]; exact hown, (Below.refl _ _).grown hg hb (own_ge h)⟩
theorem partE_of {w : World} {o : OfT} {M : List Jrn} {e : Ending} {w' : World} (h : BalEnd w o M e w') : ∃ v E, e = .returned (.tuple #[v, .int .i64 E]) ∧ Below w.heap.size w w' ∧ ((mayO o = false ∧ E = 1) ∨ (mayO o = true ∧ plusB (balsOf (gathL (pkL o) M)) = false ∧ E = 2) ∨ (mayO o = true ∧ plusB (balsOf (gathL (pkL o) M)) = true ∧ E = 0)) := by
  rcases h with ⟨h1, rfl, h3⟩ | ⟨h1, h2, ⟨h3, rfl⟩ | ⟨h3, A, c, R, _, rfl, _⟩⟩
  · exact ⟨_, _, rfl, h3, .inl ⟨h1, rfl⟩⟩
  · exact ⟨_, _, rfl, h2, .inr (.inl ⟨h1, h3, rfl⟩)⟩
  · exact ⟨_, _, rfl, h2, .inr (.inr ⟨h1, h3, rfl⟩)⟩
set_option maxRecDepth 100000 in
theorem index_ten (f : Nat → Int) (k : Nat) (hk : k < 10) (w : World) : (Instr.index 176 (.agg #[.int .i64 (f 0), .int .i64 (f 1), .int .i64 (f 2), .int .i64 (f 3), .int .i64 (f 4), .int .i64 (f 5), .int .i64 (f 6), .int .i64 (f 7), .int .i64 (f 8), .int .i64 (f 9)]) (.int .i64 (k : Int))).run Tryz.prog w = .ok (.int .i64 (f k)) w := by
  have : k = 0 ∨ k = 1 ∨ k = 2 ∨ k = 3 ∨ k = 4 ∨ k = 5 ∨ k = 6 ∨ k = 7 ∨ k = 8 ∨ k = 9 := by omega
  rcases this with rfl | rfl | rfl | rfl | rfl | rfl | rfl | rfl | rfl | rfl <;> rfl

theorem ten_new (w : World) (T : TypeId) : NRow T .i64 (w.alloc (.cells #[.int .i64 0, .int .i64 0, .int .i64 0, .int .i64 0, .int .i64 0, .int .i64 0, .int .i64 0, .int .i64 0, .int .i64 0, .int .i64 0] T)) w.heap.size 10 (fun _ => 0) := by
  refine ⟨_, heap_new w _, rfl, fun j hj => ?_⟩
  have : j = 0 ∨ j = 1 ∨ j = 2 ∨ j = 3 ∨ j = 4 ∨ j = 5 ∨ j = 6 ∨ j = 7 ∨ j = 8 ∨ j = 9 := by omega
  rcases this with rfl | rfl | rfl | rfl | rfl | rfl | rfl | rfl | rfl | rfl <;> rfl
/-- What holds of the lines of a book's journals. -/
theorem gath_fits {pk : Jrn → List Lin} {M : List Jrn} (hp : ∀ j, ∀ x ∈ pk j, x ∈ j.lines) (hok : ∀ j ∈ M, checkE j = 0) : ∀ x ∈ gathL pk M, (-1000000000000000 ≤ x.amt ∧ x.amt ≤ 1000000000000000) ∧ (0 ≤ x.part ∧ x.part ≤ 9) ∧ (1 ≤ x.acct ∧ x.acct ≤ 9999) := by
  intro x hx
  obtain ⟨j, hj, hxj⟩ := List.mem_flatMap.1 hx
  have h := hok j hj
  have hxl := hp j x hxj
  unfold checkE at h
  split at h
  · rename_i h1
    split at h
    · rename_i h2
      rw [Bool.and_eq_true] at h1
      have h3 := h1.2
      unfold linesOk linesAll at h3
      rw [Bool.and_eq_true] at h3
      have h4 := List.all_eq_true.1 h3.2 x hxl
      unfold lineOk at h4
      simp only [Bool.and_eq_true] at h4
      exact ⟨fits1_iff.1 (List.all_eq_true.1 h2 x hxl), inB_iff.1 h4.1.2, inB_iff.1 h4.1.1.1⟩
    · cases h
  · cases h
theorem rd_butP {w w' : World} {B0 size n : Nat} {A : Option Addr} {xs : List Value} {S : Nat → Prop} (h : Rd w B0 size A n xs) (hb : But S w w') (hB : B0 ≤ w.heap.size) (hd : 0 < n → ∀ ad, A = some ad → ¬ S ad.block) : Rd w' B0 size A n xs :=
  ⟨h.1, fun hn => by
    obtain ⟨ad, e, h1, h2⟩ := h.2 hn
    refine ⟨ad, e, h1, fun j u hu => ?_⟩
    rw [← h2 j u hu]
    exact World.cell?_of_block (by rw [add_block]; exact hb.block _ (by omega) (hd hn ad e))⟩
theorem but_setP {S : Nat → Prop} {w : World} {b i : Nat} {v : Value} (h : S b) : But S w (w.setCell ⟨b, i, none⟩ v) := ⟨rfl, rfl, rfl, by simp, fun k _ hk => Below.heap_setCell _ _ _ _ (by show k ≠ b; intro e; exact hk (e ▸ h))⟩
theorem pkL_sub (o : OfT) (j : Jrn) : ∀ x ∈ pkL o j, x ∈ j.lines := by
  intro x hx
  unfold pkL at hx
  split at hx
  · exact hx
  · cases hx
theorem pkP_sub (o : OfT) (j : Jrn) : ∀ x ∈ pkP o j, x ∈ j.lines := fun x hx => pkL_sub o j x (List.mem_filter.1 hx).1
set_option maxRecDepth 100000 in
set_option maxHeartbeats 4000000 in
theorem partners_any (o : OfT) (B c : Nat) (v : Value) (l : List JR) (w : World) (h : TomeAt w B c v l) (hl : l.length ≤ 100) :
    Calls Tryz.prog 35 #[.pointer (some ⟨c, 0, none⟩), o.val] w (PartEnd w o (l.map JR.j)) := by
  obtain ⟨W, hW⟩ : ∃ W, w.alloc (.cells #[.int .i64 o.ent, .int .i64 o.frm, .int .i64 o.til] 80) = W := ⟨_, rfl⟩
  have hb : Below w.heap.size w W := by rw [← hW]; exact (Below.refl _ _).alloc (Nat.le_refl _) _
  have x0 : W.cell? ⟨w.heap.size, 0, none⟩ = some (.int .i64 o.ent) := by rw [← hW]; exact box_cell 0
  have x1 : W.cell? ⟨w.heap.size, 1, none⟩ = some (.int .i64 o.frm) := by rw [← hW]; exact box_cell 1
  have x2 : W.cell? ⟨w.heap.size, 2, none⟩ = some (.int .i64 o.til) := by rw [← hW]; exact box_cell 2
  have hz : W.heap.size = w.heap.size + 1 := by rw [← hW]; simp
  have KB := Lib.hid (balances_any o B c v l W (h.below hb) hl)
  have KG : Hid (∀ w1, Below w.heap.size w w1 → Calls Tryz.prog 118 #[.pointer (some ⟨c, 0, none⟩), .func (.func 121) #[o.val] #[]] w1 fun e w' => ∃ A' c', e = .returned (.slice A' (gathL (pkP o) (l.map JR.j)).length c') ∧ w'.ownsRow w1.heap.size 113 3 (.slice A' (gathL (pkP o) (l.map JR.j)).length c') (gathL (pkP o) (l.map JR.j)).length (lins (gathL (pkP o) (l.map JR.j))) ∧ Below w1.heap.size w1 w') := fun w1 h1 =>
    gather_any _ (.inr rfl) o (pkP o) B c v l w1 (h.below h1) (pickP o) fun j hj => pkP_le8 hj
  have hok : ∀ j ∈ l.map JR.j, checkE j = 0 := fun j hj => by
    obtain ⟨a, ha, rfl⟩ := List.mem_map.1 hj
    exact h.ok a ha
  have hgl : (gathL (pkP o) (l.map JR.j)).length ≤ 800 := by
    have := gathL_len (pk := pkP o) (l := l.map JR.j) fun j hj => pkP_le8 (hok j hj)
    rw [List.length_map] at this
    omega
  have HF := Lib.hid (gath_fits (pkP_sub o) hok)
  have HW := Lib.hid hW; have HB := Lib.hid hb
  have HM : Hid (∀ e w', PartEnd w o (l.map JR.j) e w' = PartEnd w o (l.map JR.j) e w') := fun _ _ => rfl
  obtain ⟨M, hM⟩ : ∃ M, l.map JR.j = M := ⟨_, rfl⟩
  rw [hM] at KB KG hgl HF ⊢
  obtain ⟨G, hG⟩ : ∃ G, gathL (pkP o) M = G := ⟨_, rfl⟩
  have HG := Lib.hid hG
  rw [hG] at KG hgl HF
  obtain ⟨END, hEND⟩ : ∃ END, PartEnd w o M = END := ⟨_, rfl⟩
  have HEND := Lib.hid hEND
  rw [hEND]
  clear hW hb h hok hM hG hEND HM
  unfold OfT.val at *
  go_enter Tryz.func35, Tryz.ntmps35
  go_wp2_with fail
  rw [HW.out]
  refine KB.out.mono ?_
  rintro e w3 hbe
  obtain ⟨v3, E3, rfl, hb3, hcase⟩ := partE_of hbe
  have HB3 := Lib.hid (HB.out.trans (hb3.mono HB.out.size))
  have y0 := (hb3.cell (p := ⟨w.heap.size, 0, none⟩) (by show w.heap.size < W.heap.size; omega)).trans x0
  have y1 := (hb3.cell (p := ⟨w.heap.size, 1, none⟩) (by show w.heap.size < W.heap.size; omega)).trans x1
  have y2 := (hb3.cell (p := ⟨w.heap.size, 2, none⟩) (by show w.heap.size < W.heap.size; omega)).trans x2
  clear hb3 hbe KB x0 x1 x2
  rcases hcase with ⟨hc1, rfl⟩ | ⟨hc1, hc2, rfl⟩ | ⟨hc1, hc2, rfl⟩
  · have HC1 := Lib.hid hc1
    clear hc1
    go_wp2_with fail
    rw [← HEND.out]
    exact ⟨HB3.out, .inl ⟨HC1.out, rfl⟩⟩
  · have HC1 := Lib.hid hc1; have HC2 := Lib.hid hc2
    clear hc1 hc2
    go_wp2_with fail
    rw [← HEND.out]
    exact ⟨HB3.out, .inr (.inl ⟨HC1.out, HC2.out, rfl⟩)⟩
  · have HC1 := Lib.hid hc1; have HC2 := Lib.hid hc2
    clear hc1 hc2
    have hwl : w.heap.size < w3.heap.size := block_of_cell y0
    obtain ⟨W4, hW4⟩ : ∃ W4, w3.alloc (.cells #[.int .i64 0, .int .i64 0, .int .i64 0, .int .i64 0, .int .i64 0, .int .i64 0, .int .i64 0, .int .i64 0, .int .i64 0, .int .i64 0] 176) = W4 := ⟨_, rfl⟩
    have HN4 : Hid (NRow 176 .i64 W4 w3.heap.size 10 (fun _ => 0)) := by rw [← hW4]; exact ten_new w3 _
    have hb4 : Below w3.heap.size w3 W4 := by rw [← hW4]; exact (Below.refl _ _).alloc (Nat.le_refl _) _
    have HB4 := Lib.hid (HB3.out.trans (hb4.mono HB3.out.size))
    have hz4 : W4.heap.size = w3.heap.size + 1 := by rw [← hW4]; simp
    have HW4 := Lib.hid hW4
    have KG4 := Lib.hid (KG.out W4 HB4.out)
    clear hW4 hb4 KG
    go_wp2_with fail
    rw [HW4.out]
    refine KG4.out.mono ?_
    rintro e w5 ⟨A5, c5, rfl, hown, hb5⟩
    have HB5 := Lib.hid (HB4.out.trans (hb5.mono HB4.out.size))
    have HN5 := Lib.hid (HN4.out.below hb5 (show w3.heap.size < W4.heap.size by omega))
    have HR5 : Hid (Rd w5 w5.heap.size 3 A5 G.length (lins G)) := rd_of_own hown
    have HGE : Hid (∀ ad, A5 = some ad → W4.heap.size ≤ ad.block) := fun ad e => own_ge hown ad.block (by rw [e]; rfl)
    have hz5 := hb5.size
    have hz05 := HB5.out.size
    obtain ⟨n, hn⟩ : ∃ n, G.length = n := ⟨_, rfl⟩
    rw [hn] at HR5 hgl ⊢
    have HNN := Lib.hid hn
    clear hown hb5 KG4 hn y0 y1 y2
    go_wp2_with fail
    go_loopw [28] (fun iv wr => ∃ k : Nat, k ≤ n ∧ iv = .int .i64 k ∧ NRow 176 .i64 wr w3.heap.size 10 (fun p => partSum p (G.take k)) ∧ But (fun q => q = w3.heap.size) w5 wr) (fun iv _ => n - (intOf iv).toNat)
    case atStart => exact ⟨0, Nat.zero_le _, rfl, HN5.out.congr fun p _ => by simp [partSum], But.refl _ _⟩
    case round =>
      obtain ⟨k, hk, rfl, hrow, hbut⟩ := hrel
      have hzr := hbut.size
      have hR : Rd wr w5.heap.size 3 A5 n (lins G) := rd_butP HR5.out hbut (Nat.le_refl _) fun _ ad e hS => by have := HGE.out ad e; omega
      have hlt0 := hrow.lt
      by_cases hlt : k < n
      · obtain ⟨ad, x, rfl, hb0, hx, p0, p1, p2⟩ := hR.lin hlt
        have p1' := cell_behind (j := 1) p1 (by omega)
        have p2' := cell_behind (j := 2) p2 (by omega)
        have hkI : (k : Int) < (n : Int) := by omega
        obtain ⟨hxa, hxp, _⟩ := HF.out x (List.mem_of_getElem? hx)
        have HST := Lib.hid (fun p => partSum_step (p := p) hx)
        obtain ⟨x1, x2, x3⟩ := x
        dsimp only at *
        obtain ⟨q, rfl⟩ : ∃ q : Nat, x3 = (q : Int) := ⟨x3.toNat, by omega⟩
        have hq : q < 10 := by omega
        have hqI : (q : Int) < 10 := by omega
        have hc := hrow.cell (j := q) hq
        have hwm := hrow.warm q
        have hpb := partSum_bound (p := q) (l := G.take k) fun y hy => (HF.out y (List.mem_of_mem_take hy)).1
        have hlk : (G.take k).length ≤ 800 := by rw [List.length_take]; omega
        obtain ⟨F, hF⟩ : ∃ F, partSum q (G.take k) = F := ⟨_, rfl⟩
        rw [hF] at hpb hc
        have hwF : wrap64 (F + x2) = F + x2 := by unfold wrap64; omega
        have HROW := Lib.hid hrow; have HBUT := Lib.hid hbut; have HFF := Lib.hid hF
        obtain ⟨W6, hW6⟩ : ∃ W6, wr.alloc (.cells #[.int .i64 x1, .int .i64 x2, .int .i64 q] 113) = W6 := ⟨_, rfl⟩
        have b1 : W6.cell? ⟨wr.heap.size, 1, none⟩ = some (.int .i64 x2) := by rw [← hW6]; exact box_cell 1
        have b2 : W6.cell? ⟨wr.heap.size, 2, none⟩ = some (.int .i64 q) := by rw [← hW6]; exact box_cell 2
        have hb6 : Below wr.heap.size wr W6 := by rw [← hW6]; exact (Below.refl _ _).alloc (Nat.le_refl _) _
        have hrow6 := hrow.below hb6 hlt0
        have hc6 := hrow6.cell (j := q) hq
        have hwm6 := hrow6.warm q
        rw [hF] at hc6
        have HROW6 := Lib.hid hrow6
        have HBUT6 := Lib.hid (hbut.trans (But.of_below hb6))
        have HW6 := Lib.hid hW6
        clear hx p1 p2 hb0 hpb hF hrow hbut hxa hR hb6 hrow6 hW6
        go_wp2_with fail
        rw [HW6.out]
        clear p0 p1' p2' hc hwm
        refine wp_region_drew_tail 8 (by kernel_rfl) (by kernel_rfl) ?_
        simp only [List.take_succ_cons, List.take_zero, List.drop_succ_cons, List.drop_zero]
        repeat (go_big_quiet_step (fail))
        refine wpQuiet_nil ?_
        intro w' hw'
        obtain ⟨z, rfl⟩ := hw'
        go_wp2_with fail
        have hrow7 : NRow 176 .i64 ((W6.drewN z).setCell ⟨w3.heap.size, q, none⟩ (.int .i64 (F + x2))) w3.heap.size 10 (fun p => partSum p (G.take (k + 1))) := by
          refine ((HROW6.out.kept (w' := W6.drewN z) rfl).set q (F + x2)).congr fun p hp => ?_
          rw [HST.out p]
          by_cases e : p = q
          · subst e
            rw [if_pos rfl, if_pos rfl, HFF.out]
          · rw [if_neg e, if_neg (fun h => e (by omega))]
            omega
        exact ⟨⟨k + 1, by omega, by go_num, hrow7, (HBUT6.out.trans (But.of_below (below_drewN (Below.refl _ _) z))).trans (but_setP rfl)⟩, by simp [intOf]; omega⟩
      · obtain rfl : k = n := by omega
        have e : G.take k = G := List.take_of_length_le (by rw [HNN.out]; omega)
        rw [e] at hrow
        have t0 := hrow.cell (j := 0) (by omega); have t1 := hrow.cell (j := 1) (by omega); have t2 := hrow.cell (j := 2) (by omega); have t3 := hrow.cell (j := 3) (by omega); have t4 := hrow.cell (j := 4) (by omega)
        have t5 := hrow.cell (j := 5) (by omega); have t6 := hrow.cell (j := 6) (by omega); have t7 := hrow.cell (j := 7) (by omega); have t8 := hrow.cell (j := 8) (by omega); have t9 := hrow.cell (j := 9) (by omega)
        have HBR : Hid (Below w.heap.size w wr) := HB5.out.trans (hbut.below (fun q _ hq => by omega) (by omega))
        obtain ⟨f, hf⟩ : ∃ f : Nat → Int, (fun p => partSum p G) = f := ⟨_, rfl⟩
        have e0 : partSum 0 G = f 0 := congrFun hf 0
        have e1 : partSum 1 G = f 1 := congrFun hf 1
        have e2 : partSum 2 G = f 2 := congrFun hf 2
        have e3 : partSum 3 G = f 3 := congrFun hf 3
        have e4 : partSum 4 G = f 4 := congrFun hf 4
        have e5 : partSum 5 G = f 5 := congrFun hf 5
        have e6 : partSum 6 G = f 6 := congrFun hf 6
        have e7 : partSum 7 G = f 7 := congrFun hf 7
        have e8 : partSum 8 G = f 8 := congrFun hf 8
        have e9 : partSum 9 G = f 9 := congrFun hf 9
        rw [e0] at t0; rw [e1] at t1; rw [e2] at t2; rw [e3] at t3; rw [e4] at t4; rw [e5] at t5; rw [e6] at t6; rw [e7] at t7; rw [e8] at t8; rw [e9] at t9
        have HFX := Lib.hid hf
        have hzw := HBR.out.size
        clear hrow hbut hR e e0 e1 e2 e3 e4 e5 e6 e7 e8 e9 hf
        rename World => wm
        go_wp2_with fail
        clear t0 t1 t2 t3 t4 t5 t6 t7 t8 t9
        go_loopw [11, 42] (fun lv iv wq => ∃ q : Nat, q ≤ 10 ∧ iv = .int .i64 q ∧ (∃ A' c', lv = .slice A' (prsK f q).length c' ∧ wq.ownsRow wm.heap.size 177 2 (.slice A' (prsK f q).length c') (prsK f q).length (pairs (prsK f q))) ∧ Below wm.heap.size wm wq) (fun _ iv _ => 10 - (intOf iv).toNat)
        case atStart => exact ⟨0, by omega, rfl, ⟨none, 0, rfl, World.ownsRow_nil _ _ _ _⟩, Below.refl _ _⟩
        case round =>
          obtain ⟨q, hq, rfl, ⟨A', c', rfl, hown⟩, hbel⟩ := hrel
          have HBE := Lib.hid hbel
          have hzr2 := hbel.size
          by_cases hlt2 : q < 10
          · have hqI : (q : Int) < 10 := by omega
            have hidx := index_ten f q hlt2 wr
            have HST := Lib.hid (prsK_step f q)
            have hlen := prsK_len f q
            have HO := Lib.hid hown
            clear hown hbel
            obtain ⟨V, hV⟩ : ∃ V, f q = V := ⟨_, rfl⟩
            have HST2 := Lib.hid hV
            rw [hV] at hidx
            by_cases hV0 : V = 0
            · have HST3 : Hid (prsK f (q + 1) = prsK f q) := by rw [Hid, HST.out, hV, if_pos hV0, List.append_nil]
              have hvb : (V != 0) = false := by simp [hV0]
              clear hV HST hV0
              go_wp2_with fail
              refine ⟨⟨q + 1, by omega, by go_num, ⟨A', c', ?_, ?_⟩, HBE.out⟩, by simp [intOf]; omega⟩
              · rw [HST3.out]
              · rw [HST3.out]; exact HO.out
            · have HST3 : Hid (prsK f (q + 1) = prsK f q ++ [⟨(q : Int), V⟩]) := by rw [Hid, HST.out, hV, if_neg hV0]
              have hvb : (V != 0) = true := by simpa using hV0
              have hown6 : (wr.alloc (.cells #[.int .i64 q, .int .i64 V] 177)).ownsRow wm.heap.size 177 2 (.slice A' (prsK f q).length c') (prsK f q).length (pairs (prsK f q)) := own_kept HO.out fun z hz _ => Below.heap_alloc wr _ _ hz
              have hrd6 : Rd (wr.alloc (.cells #[.int .i64 q, .int .i64 V] 177)) (wr.heap.size + 1) 2 (some ⟨wr.heap.size, 0, none⟩) 1 (pairs [⟨(q : Int), V⟩]) := ⟨rfl, fun _ => ⟨_, rfl, by simp, cells_new wr (pairs [⟨(q : Int), V⟩]) 177⟩⟩
              obtain ⟨v7, w7, hrun, hown7, hb7⟩ := append_pairs (c := 1) hown6 hrd6 (by simp; omega) (by omega)
              obtain ⟨A7, c7, rfl⟩ := own_form hown7
              have HO7 := Lib.hid hown7
              have HB7 := Lib.hid (HBE.out.trans (((Below.refl _ _).alloc hzr2 _).trans hb7))
              have HL7 : Hid ((prsK f q ++ [(⟨(q : Int), V⟩ : Pair)]).length = (prsK f q).length + 1) := by simp [Hid]
              clear hown6 hrd6 hown7 hb7 hV HST hV0
              go_wp2_with (at_builtin; refine Lib.wpList_append_run _ rfl _ _ _ _ rfl _ _ rfl rfl _ _ (hrun _) ?_)
              refine ⟨⟨q + 1, by omega, by go_num, ⟨A7, c7, ?_, ?_⟩, HB7.out⟩, by simp [intOf]; omega⟩
              · rw [HST3.out, HL7.out]
              · rw [HST3.out, HL7.out]; exact HO7.out
          · obtain rfl : q = 10 := by omega
            have HO := Lib.hid (own_base hown hzw)
            have HBZ := Lib.hid (HBR.out.trans (hbel.mono hzw))
            clear hown hbel
            go_wp2_with fail
            rw [← HEND.out]
            exact ⟨HBZ.out, .inr (.inr ⟨HC1.out, HC2.out, A', c', prsK f 10, by rw [HG.out, HFX.out], rfl, HO.out⟩)⟩
end Go.Proofs.YtjlokkjbdgcooaaGreat

