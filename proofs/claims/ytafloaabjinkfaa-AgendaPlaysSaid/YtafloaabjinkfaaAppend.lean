/-
  append onto a row of one's own, said so that rows which share its block are known to stay.
-/
import Derived.Test.YtafloaabjinkfaaBase
import Derived.ArgAppend
namespace Go.Proofs.Ytafloaabjinkfaa
open Go.RowKit

theorem setCells_here {g : Nat} {e : TypeId} : ∀ (vs : List Value) (o : Nat) (w : World) (cur : Array Value), w.heap[g]? = some (.cells cur e (0, 0)) →
    ∃ cur', (w.setCells g o vs).heap[g]? = some (.cells cur' e (0, 0)) ∧ cur'.size = cur.size ∧ ∀ j, j < o → cur'[j]? = cur[j]?
  | [], _, _, cur, h => ⟨cur, h, rfl, fun _ _ => rfl⟩
  | v :: r, o, w, cur, h => by
    obtain ⟨cur', h1, h2, h3⟩ := setCells_here r (o + 1) (w.setCell ⟨g, o, none⟩ v) _ (set_here h)
    refine ⟨cur', h1, by simpa using h2, fun j hj => ?_⟩
    rw [h3 j (by omega), Array.getElem?_setIfInBounds_ne (by omega)]

/-- A row that shares the block of another one, and is no longer than it. -/
def StaysUnder (w w' : World) (e : TypeId) (size : Nat) (v : Value) (n : Nat) : Prop :=
  ∀ (B0 : Nat) (v0 : Value) (n0 : Nat) (xs0 : List Value), w.ownsRow B0 e size v0 n0 xs0 → n0 ≤ n → v0.ownBlock = v.ownBlock → w'.ownsRow B0 e size v0 n0 xs0

theorem append_strong {P : Program} {w : World} {t ty e : TypeId} {z : Value} {size bytes : Nat} (h : (P.info? e).map (fun i => (i.zero, i.size, i.bytes)) = some (some z, size, bytes)) (ht : P.underlying t = some (.slice e)) (hzs : z.cells.size = size) (hsz : 0 < size)
    (base : Nat) (v : Value) (n : Nat) (xs : List Value) (hown : w.ownsRow base e size v n xs)
    {B : Nat} {A : Option Addr} {m c : Nat} {news : List Value} (hr : Rd w B size A m news) (h1 : ∀ u ∈ news, u.oneCell' = true)
    (h63 : n + m ≤ maxLen) (hbytes : (n + m) * bytes ≤ 140737488355328) (hbase : base ≤ w.heap.size) :
    ∃ v' w', (Builtin.append_ #[t, t] ty #[v, .slice A m c]).run P w = .ok v' w' ∧ w'.ownsRow base e size v' (n + m) (xs ++ news) ∧ w.grownBy w' v.ownBlock ∧ (v'.ownBlock = v.ownBlock ∨ v'.ownBlock = some w.heap.size) ∧ StaysUnder w w' e size v n := by
  obtain ⟨v', w', hrun, h2, h3, h4⟩ := append_fresh (ty := ty) (c := c) h ht hzs hsz base v n xs hown hr h1 h63 hbytes hbase
  refine ⟨v', w', hrun, h2, h3, h4, ?_⟩
  intro B0 v0 n0 xs0 h0 hn0 hsame
  rcases h0.2 with ⟨rfl, rfl⟩ | ⟨g, cap0, cur0, rfl, hB0, hh0, hc1, hc2, hc3, hc4⟩
  · exact ⟨h0.1, .inl ⟨rfl, rfl⟩⟩
  rcases hown.2 with ⟨rfl, rfl⟩ | ⟨g', cap, cur, rfl, hB, hh, hd1, hd2, hd3, hd4⟩
  · cases hsame
  have hg : g = g' := by simpa [Value.ownBlock] using hsame
  subst hg
  rw [hh0] at hh
  injection hh with hh
  injection hh with hh
  subst hh
  -- the block behind the call
  have key : ∃ cur', w'.heap[g]? = some (.cells cur' e (0, 0)) ∧ cur'.size = cur0.size ∧ ∀ j, j < n * size → cur'[j]? = cur0[j]? := by
    obtain ⟨i, hi, hz, hi2, hi3⟩ := info_parts h
    rcases A with _ | ad
    · have hm : m = 0 := by
        rcases Nat.eq_zero_or_pos m with h0 | h0
        · exact h0
        · obtain ⟨ad, h, _⟩ := hr.2 h0
          cases h
      subst hm
      have hrun2 : (Builtin.append_ #[t, t] ty #[.slice (some ⟨g, 0, none⟩) n cap, .slice none 0 c]).run P w = .ok (.slice (some ⟨g, 0, none⟩) n cap) w := by
        simp [Builtin.append_, run_underlying ht, sizeOf, typeInfo, hi, Builtin.lenOf, Builtin.firstCells, hd1, storeCells]
      rw [hrun2] at hrun
      injection hrun with _ hw
      subst hw
      exact ⟨cur0, hh0, rfl, fun _ _ => rfl⟩
    · have hcells : ∀ j u, news[j]? = some u → w.cell? (ad.add j) = some u := by
        intro j u hu
        rcases Nat.eq_zero_or_pos m with h0 | h0
        · subst h0
          have hn : news = [] := List.eq_nil_of_length_eq_zero (by simpa using hr.1)
          subst hn
          simp at hu
        · obtain ⟨ad', h, _, hc⟩ := hr.2 h0
          injection h with h
          subst h
          exact hc j u hu
      have hnl : news.length = m * size := hr.1
      by_cases hroom : n + m ≤ cap
      · have hlt : ∀ j, j < news.length → n * size + j < cur0.size := by
          intro j hj
          have : (n + m) * size ≤ cap * size := Nat.mul_le_mul_right _ hroom
          rw [Nat.add_mul] at this
          omega
        have hrun2 := run_append_room_cells (P := P) w t ty e i ht hi g 0 n cap ad m c news (by rw [hi2]; exact hnl) hcells h1 hroom
          (fun j hj => by rw [hi2, Nat.zero_add, cell_of hh0, Array.getElem?_eq_getElem (hlt j hj)]; rfl)
          (fun j hj => warm_of hh0 _)
        rw [hrun2] at hrun
        injection hrun with _ hw
        subst hw
        rw [hi2, Nat.zero_add]
        exact setCells_here news (n * size) w cur0 hh0
      · have holds : ∀ j u, xs[j]? = some u → w.cell? (Addr.add ⟨g, 0, none⟩ j) = some u := hown.cells (g := g) rfl
        obtain ⟨v2, w2, hrun2, _, hg2⟩ := run_append_arg_grows (P := P) w t ty e i z size bytes ht hi hz hi2 hi3 hzs hsz ⟨g, 0, none⟩ n cap xs hown.1 holds ad m c news hnl hcells (by omega) h63 hbytes
        rw [hrun2] at hrun
        injection hrun with _ hw
        subst hw
        exact ⟨cur0, (hg2.block g (lt_of_blk hh0) (by simp)).trans hh0, rfl, fun _ _ => rfl⟩
  obtain ⟨cur', k1, k2, k3⟩ := key
  refine ⟨h0.1, .inr ⟨g, cap0, cur', rfl, hB0, k1, hc1, hc2, by omega, ?_⟩⟩
  rw [← hc4]
  apply List.ext_getElem?
  intro j
  by_cases hj : j < n0 * size
  · have : n0 * size ≤ n * size := Nat.mul_le_mul_right _ hn0
    rw [List.getElem?_take_of_lt hj, List.getElem?_take_of_lt hj, Array.getElem?_toList, Array.getElem?_toList, k3 j (by omega)]
  · rw [List.getElem?_eq_none (by rw [List.length_take]; omega), List.getElem?_eq_none (by rw [List.length_take]; omega)]
end Go.Proofs.Ytafloaabjinkfaa
