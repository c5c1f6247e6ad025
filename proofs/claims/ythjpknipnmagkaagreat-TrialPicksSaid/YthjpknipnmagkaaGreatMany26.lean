/-
  Several texts, one behind the other: what each holds stands ahead of it.
-/
import Derived.Test.YthjpknipnmagkaaGreatMany1
import Derived.ArgAppend
import Derived.Test.YthjpknipnmagkaaGreatMany2

/-
  append onto a row of one's own, said so that rows which share its block are known to stay.
-/
namespace Go.Proofs.YthjpknipnmagkaaGreat
open Go.RowKit

theorem setCells_here {g : Nat} {e : TypeId} : ∀ (vs : List Value) (o : Nat) (w : World) (cur : Array Value), w.heap[g]? = some (.cells cur e (0, 0)) →
    ∃ cur', (w.setCells g o vs).heap[g]? = some (.cells cur' e (0, 0)) ∧ cur'.size = cur.size ∧ ∀ j, j < o → cur'[j]? = cur[j]?
  | [], _, _, cur, h => ⟨cur, h, rfl, fun _ _ => rfl⟩
  | v :: r, o, w, cur, h => by
    obtain ⟨cur', h1, h2, h3⟩ := setCells_here r (o + 1) (w.setCell ⟨g, o, none⟩ v) _ (set_here h)
    refine ⟨cur', h1, by simpa using h2, fun j hj => ?_⟩
    rw [h3 j (by omega), Array.getElem?_setIfInBounds_ne (by omega)]

/-- A row that shares the block of another one, and is no longer than it. -/
def StaysUnder (w w' : World) (e : TypeId) (size : Nat) (v : Value) (n : Nat) : Prop :=
  ∀ (B0 : Nat) (v0 : Value) (n0 : Nat) (xs0 : List Value), w.ownsRow B0 e size v0 n0 xs0 → n0 ≤ n → v0.ownBlock = v.ownBlock → w'.ownsRow B0 e size v0 n0 xs0

theorem append_strong {P : Program} {w : World} {t ty e : TypeId} {z : Value} {size bytes : Nat} (h : (P.info? e).map (fun i => (i.zero, i.size, i.bytes)) = some (some z, size, bytes)) (ht : P.underlying t = some (.slice e)) (hzs : z.cells.size = size) (hsz : 0 < size)
    (base : Nat) (v : Value) (n : Nat) (xs : List Value) (hown : w.ownsRow base e size v n xs)
    {B : Nat} {A : Option Addr} {m c : Nat} {news : List Value} (hr : Rd w B size A m news) (h1 : ∀ u ∈ news, u.oneCell' = true)
    (h63 : n + m ≤ maxLen) (hbytes : (n + m) * bytes ≤ 140737488355328) (hbase : base ≤ w.heap.size) :
    ∃ v' w', (Builtin.append_ #[t, t] ty #[v, .slice A m c]).run P w = .ok v' w' ∧ w'.ownsRow base e size v' (n + m) (xs ++ news) ∧ w.grownBy w' v.ownBlock ∧ (v'.ownBlock = v.ownBlock ∨ v'.ownBlock = some w.heap.size) ∧ StaysUnder w w' e size v n := by
  obtain ⟨v', w', hrun, h2, h3, h4⟩ := append_fresh (ty := ty) (c := c) h ht hzs hsz base v n xs hown hr h1 h63 hbytes hbase
  refine ⟨v', w', hrun, h2, h3, h4, ?_⟩
  intro B0 v0 n0 xs0 h0 hn0 hsame
  rcases h0.2 with ⟨rfl, rfl⟩ | ⟨g, cap0, cur0, rfl, hB0, hh0, hc1, hc2, hc3, hc4⟩
  · exact ⟨h0.1, .inl ⟨rfl, rfl⟩⟩
  rcases hown.2 with ⟨rfl, rfl⟩ | ⟨g', cap, cur, rfl, hB, hh, hd1, hd2, hd3, hd4⟩
  · cases hsame
  have hg : g = g' := by simpa [Value.ownBlock] using hsame
  subst hg
  rw [hh0] at hh
  injection hh with hh
  injection hh with hh
  subst hh
  -- the block behind the call
  have key : ∃ cur', w'.heap[g]? = some (.cells cur' e (0, 0)) ∧ cur'.size = cur0.size ∧ ∀ j, j < n * size → cur'[j]? = cur0[j]? := by
    obtain ⟨i, hi, hz, hi2, hi3⟩ := info_parts h
    rcases A with _ | ad
    · have hm : m = 0 := by
        rcases Nat.eq_zero_or_pos m with h0 | h0
        · exact h0
        · obtain ⟨ad, h, _⟩ := hr.2 h0
          cases h
      subst hm
      have hrun2 : (Builtin.append_ #[t, t] ty #[.slice (some ⟨g, 0, none⟩) n cap, .slice none 0 c]).run P w = .ok (.slice (some ⟨g, 0, none⟩) n cap) w := by
        simp [Builtin.append_, run_underlying ht, sizeOf, typeInfo, hi, Builtin.lenOf, Builtin.firstCells, hd1, storeCells]
      rw [hrun2] at hrun
      injection hrun with _ hw
      subst hw
      exact ⟨cur0, hh0, rfl, fun _ _ => rfl⟩
    · have hcells : ∀ j u, news[j]? = some u → w.cell? (ad.add j) = some u := by
        intro j u hu
        rcases Nat.eq_zero_or_pos m with h0 | h0
        · subst h0
          have hn : news = [] := List.eq_nil_of_length_eq_zero (by simpa using hr.1)
          subst hn
          simp at hu
        · obtain ⟨ad', h, _, hc⟩ := hr.2 h0
          injection h with h
          subst h
          exact hc j u hu
      have hnl : news.length = m * size := hr.1
      by_cases hroom : n + m ≤ cap
      · have hlt : ∀ j, j < news.length → n * size + j < cur0.size := by
          intro j hj
          have : (n + m) * size ≤ cap * size := Nat.mul_le_mul_right _ hroom
          rw [Nat.add_mul] at this
          omega
        have hrun2 := run_append_room_cells (P := P) w t ty e i ht hi g 0 n cap ad m c news (by rw [hi2]; exact hnl) hcells h1 hroom
          (fun j hj => by rw [hi2, Nat.zero_add, cell_of hh0, Array.getElem?_eq_getElem (hlt j hj)]; rfl)
          (fun j hj => warm_of hh0 _)
        rw [hrun2] at hrun
        injection hrun with _ hw
        subst hw
        rw [hi2, Nat.zero_add]
        exact setCells_here news (n * size) w cur0 hh0
      · have holds : ∀ j u, xs[j]? = some u → w.cell? (Addr.add ⟨g, 0, none⟩ j) = some u := hown.cells (g := g) rfl
        obtain ⟨v2, w2, hrun2, _, hg2⟩ := run_append_arg_grows (P := P) w t ty e i z size bytes ht hi hz hi2 hi3 hzs hsz ⟨g, 0, none⟩ n cap xs hown.1 holds ad m c news hnl hcells (by omega) h63 hbytes
        rw [hrun2] at hrun
        injection hrun with _ hw
        subst hw
        exact ⟨cur0, (hg2.block g (lt_of_blk hh0) (by simp)).trans hh0, rfl, fun _ _ => rfl⟩
  obtain ⟨cur', k1, k2, k3⟩ := key
  refine ⟨h0.1, .inr ⟨g, cap0, cur', rfl, hB0, k1, hc1, hc2, by omega, ?_⟩⟩
  rw [← hc4]
  apply List.ext_getElem?
  intro j
  by_cases hj : j < n0 * size
  · have : n0 * size ≤ n * size := Nat.mul_le_mul_right _ hn0
    rw [List.getElem?_take_of_lt hj, List.getElem?_take_of_lt hj, Array.getElem?_toList, Array.getElem?_toList, k3 j (by omega)]
  · rw [List.getElem?_eq_none (by rw [List.length_take]; omega), List.getElem?_eq_none (by rw [List.length_take]; omega)]
end Go.Proofs.YthjpknipnmagkaaGreat

/-
  Contracts of LentBalances, StaysBalances.
-/
namespace Go.Proofs.YthjpknipnmagkaaGreat
open Go.RowKit

set_option maxRecDepth 100000 in
set_option maxHeartbeats 400000 in
theorem copyBalsL_any (l : List Bal) (A : Option Addr) (n c B : Nat) (w : World) (h : Rd w B 2 A n (bals l)) (hn : n ≤ 1000000) :
    Calls Tryz.prog 119 #[.slice A n c] w fun e w' => ∃ A' c', e = .returned (.slice A' n c') ∧ w'.ownsRow w.heap.size 99 2 (.slice A' n c') n (bals l) ∧ Below w.heap.size w w' := by
  obtain ⟨v', w', hrun, hown, hg, _⟩ := append_fresh (P := Tryz.prog) (w := w) (ty := 81) (c := c) infoBal Tryz.underlying81 rfl (by omega) w.heap.size (.slice none 0 0) 0 [] (World.ownsRow_nil _ _ _ _) h (balsOne _) (by unfold maxLen; omega) (by omega) (Nat.le_refl _)
  rw [Nat.zero_add, List.nil_append] at hown
  obtain ⟨A', c', rfl⟩ := own_form hown
  have HO := Lib.hid hown
  have HG := Lib.hid hg
  have HR := Lib.hid hrun
  clear hown hg h hn hrun
  go_enter Tryz.func119, Tryz.ntmps119
  go_wp2_with (at_builtin; refine wpList_append_run rfl _ _ _ rfl _ _ _ _ rfl rfl HR.out ?_)
  go_ret
  exact ⟨A', c', rfl, HO.out, (Below.refl _ _).grown HG.out (Nat.le_refl _) (fun k h => by cases h)⟩

/-- A list that was lent: its elements, the mark behind them. -/
def LentBals (w : World) (base g cap : Nat) (l : List Bal) : Prop := w.ownsRow base 99 2 (.slice (some ⟨g, 0, none⟩) (l.length + 1) cap) (l.length + 1) (bals (l ++ [⟨77, 0⟩]))

theorem LentBals.cap_ge {w : World} {base g cap : Nat} {l : List Bal} (h : LentBals w base g cap l) : l.length + 1 ≤ cap ∧ base ≤ g ∧ g < w.heap.size := by
  rcases h.2 with ⟨h1, _⟩ | ⟨g', cap', cur, h1, hB, hh, h2, _⟩
  · cases h1
  · injection h1 with h1 _ hc
    injection h1 with h1
    injection h1 with h1
    subst h1 hc
    exact ⟨h2, hB, lt_of_blk hh⟩
theorem LentBals.rd {w : World} {base g cap : Nat} {l : List Bal} (h : LentBals w base g cap l) : Rd w w.heap.size 2 (some ⟨g, 0, none⟩) l.length (bals l) := by
  refine ⟨by rw [bals_len], fun _ => ⟨_, rfl, h.cap_ge.2.2, fun j u hu => ?_⟩⟩
  rw [Addr.add_lit, Nat.zero_add]
  refine own_cell h ?_
  rw [bals_append, List.getElem?_append_left (List.getElem?_eq_some_iff.1 hu).1]
  exact hu
theorem LentBals.mark {w : World} {base g cap : Nat} {l : List Bal} (h : LentBals w base g cap l) : w.cell? ⟨g, l.length * 2, none⟩ = some (.int .i64 77) := by
  refine own_cell h ?_
  rw [bals_append, List.getElem?_append_right (by rw [bals_len]; exact Nat.le_refl _), bals_len, Nat.sub_self]
  rfl
theorem LentBals.below {w w' : World} {base g cap : Nat} {l : List Bal} (h : LentBals w base g cap l) (hb : Below w.heap.size w w') : LentBals w' base g cap l :=
  own_kept h fun k hk _ => hb.block k hk

set_option maxRecDepth 100000 in
set_option maxHeartbeats 1000000 in
theorem lentBalances_any (l : List Bal) (A : Option Addr) (n c B : Nat) (w : World) (h : Rd w B 2 A n (bals l)) (hn : n ≤ 900000) :
    Calls Tryz.prog 41 #[.slice A n c] w fun e w' => ∃ g cap, e = .returned (.slice (some ⟨g, 0, none⟩) n cap) ∧ LentBals w' w.heap.size g cap l ∧ Below w.heap.size w w' := by
  have HL := Lib.hid h.bals_len
  go_enter Tryz.func41, Tryz.ntmps41
  go_wp2_with fail
  refine (copyBalsL_any l A n c B w h (by omega)).mono ?_
  rintro e w1 ⟨A', c', rfl, hown, hb⟩
  have hsz := hb.size
  have hr : Rd (w1.alloc (.cells #[.int .i64 77, .int .i64 0] 99)) (w1.heap.size + 1) 2 (some ⟨w1.heap.size, 0, none⟩) 1 (bals [⟨77, 0⟩]) := ⟨rfl, fun _ => ⟨_, rfl, by simp, cells_new w1 [.int .i64 77, .int .i64 0] _⟩⟩
  obtain ⟨v2, w2, hrun, hown2, hg2, _⟩ := append_fresh (P := Tryz.prog) (ty := 81) (c := 1) infoBal Tryz.underlying81 rfl (by omega) w.heap.size _ n _ (own_kept hown fun k hk _ => Below.heap_alloc _ _ _ hk) hr (balsOne _) (by unfold maxLen; omega) (by omega) (by simp; omega)
  rw [← bals_append] at hown2
  obtain ⟨g, cap, rfl⟩ : ∃ g cap, v2 = .slice (some ⟨g, 0, none⟩) (n + 1) cap := by
    rcases hown2.2 with ⟨_, h0⟩ | ⟨g, cap, cur, h1, _⟩
    · omega
    · exact ⟨g, cap, h1⟩
  have hL : LentBals w2 w.heap.size g cap l := by
    unfold LentBals
    rw [HL.out]
    exact hown2
  have hcap := hL.cap_ge.1
  rw [HL.out] at hcap
  have hcap' : n ≤ cap := by omega
  have hB2 : Hid (Below w.heap.size w w2) := (hb.trans ((Below.refl _ _).alloc (by omega) _)).grown hg2 (by simp; omega) (own_ge hown)
  have HLL := Lib.hid hL
  have HR := Lib.hid hrun
  clear hL hown2 hg2 hown hb hrun hr
  go_wp2_with (at_builtin; refine wpList_append_run rfl _ _ _ rfl _ _ _ _ rfl rfl HR.out ?_)
  go_ret
  exact ⟨g, cap, rfl, HLL.out, hB2.out⟩

set_option maxRecDepth 100000 in
set_option maxHeartbeats 1000000 in
theorem staysBalances_any (l m : List Bal) (A : Option Addr) (n1 n c base B g cap : Nat) (w : World) (hl : LentBals w base g cap m) (hlen : m.length = n1) (h : Rd w B 2 A n (bals l)) (hn : n ≤ 1000000) (hn1 : n1 ≤ 900000) :
    Calls Tryz.prog 44 #[.slice (some ⟨g, 0, none⟩) n1 cap, .slice A n c] w fun e w' => e = .returned (.bool (m == l)) ∧ Drew w w' := by
  obtain ⟨hcap, _, _⟩ := hl.cap_ge
  have hmark := hl.mark
  have hrd := hl.rd
  rw [hlen] at hcap hmark hrd
  have hcap' : n1 ≤ cap := by omega
  have hcI : (n1 : Int) + 1 ≤ (cap : Int) := by omega
  clear hlen
  cases hs : (m == l)
  · have HS := Lib.hid hs
    clear hs
    go_enter Tryz.func44, Tryz.ntmps44
    go_wp2_with fail
    refine (sameBalances_any m l _ A n1 n cap c _ B w hrd h (by omega) hn).mono ?_
    rintro e w' ⟨rfl, q, rfl⟩
    rw [HS.out]
    go_wp2
    go_ret
    exact ⟨rfl, q, rfl⟩
  · have HS := Lib.hid hs
    clear hs
    go_enter Tryz.func44, Tryz.ntmps44
    go_wp2_with fail
    refine (sameBalances_any m l _ A n1 n cap c _ B w hrd h (by omega) hn).mono ?_
    rintro e w' ⟨rfl, q, rfl⟩
    rw [HS.out]
    go_wp2
    go_ret
    exact ⟨rfl, q, rfl⟩
end Go.Proofs.YthjpknipnmagkaaGreat
