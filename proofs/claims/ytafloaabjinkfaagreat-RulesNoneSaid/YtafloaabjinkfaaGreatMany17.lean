/-
  Several texts, one behind the other: what each holds stands ahead of it.
-/
import Derived.Test.YtafloaabjinkfaaGreatMany16
import Derived.Test.YtafloaabjinkfaaGreatMany4
import Derived.Test.YtafloaabjinkfaaGreatMany2

/-
  Gates in memory; (*Gates).place.
-/
namespace Go.Proofs.YtafloaabjinkfaaGreat
open Go.RowKit

/-- Gates: their variable, and their rows in a row of its own. -/
structure GatesAt (w : World) (B c : Nat) (v : Value) (l : List Trio) : Prop where
  blk : w.heap[c]? = some (.cells #[v] 60 (0, 0))
  low : B ≤ c
  own : w.ownsRow B 75 3 v l.length (trios l)
  good : GoodT l
/-- The blocks of gates. -/
def InGates (c : Nat) (v : Value) (k : Nat) : Prop := k = c ∨ v.ownBlock = some k
section
variable {w w' : World} {B c : Nat} {v : Value} {l : List Trio}
theorem GatesAt.cell (h : GatesAt w B c v l) : w.cell? ⟨c, 0, none⟩ = some v := by rw [cell_of h.blk]; rfl
theorem GatesAt.warm (h : GatesAt w B c v l) : w.frozen? ⟨c, 0, none⟩ = false := warm_of h.blk 0
theorem GatesAt.lt (h : GatesAt w B c v l) : c < w.heap.size := lt_of_blk h.blk
theorem GatesAt.kept (h : GatesAt w B c v l) (hk : ∀ k, k < w.heap.size → InGates c v k → w'.heap[k]? = w.heap[k]?) : GatesAt w' B c v l :=
  ⟨(hk c h.lt (.inl rfl)).trans h.blk, h.low, own_kept h.own fun k hk1 hk2 => hk k hk1 (.inr hk2), h.good⟩
theorem GatesAt.below (h : GatesAt w B c v l) (hb : Below w.heap.size w w') : GatesAt w' B c v l := h.kept fun k hk _ => hb.block k hk
theorem GatesAt.but {S : Nat → Prop} (h : GatesAt w B c v l) (hb : But S w w') (hs : ∀ k, InGates c v k → ¬ S k) : GatesAt w' B c v l := h.kept fun k hk hi => hb.block k hk (hs k hi)
theorem GatesAt.form (h : GatesAt w B c v l) : ∃ A cap, v = .slice A l.length cap := own_form h.own
theorem GatesAt.ge (h : GatesAt w B c v l) : ∀ k, InGates c v k → B ≤ k := by
  rintro k (rfl | hk)
  · exact h.low
  · exact own_ge h.own k hk
theorem GatesAt.ltB (h : GatesAt w B c v l) : ∀ k, InGates c v k → k < w.heap.size := by
  rintro k (rfl | hk)
  · exact h.lt
  · exact own_lt h.own k hk
theorem GatesAt.apart (h : GatesAt w B c v l) : v.ownBlock ≠ some c := own_ne h.own h.blk (by decide)
end

set_option maxRecDepth 100000 in
theorem place_anyGt (B c : Nat) (v : Value) (l : List Trio) (en pe : Int) (w : World) (h : GatesAt w B c v l) (ho : okT en pe = true) :
    Calls Tryz.prog 108 #[.pointer (some ⟨c, 0, none⟩), .int .i64 en, .int .i64 pe] w fun e w' => e = .returned (.tuple #[.int .i64 (posT l (en * 2000 + pe) : Nat), .bool (findT l (en * 2000 + pe)).isSome]) ∧ Below w.heap.size w w' := by
  have hc := h.cell
  obtain ⟨A, cap, rfl⟩ := h.form
  have ks := search_anyGt l en pe ho A l.length cap _ w (rd_of_own h.own) (Nat.le_refl _) (by have := h.good.len; omega) h.good
  have HG := Lib.hid h
  clear h ho
  generalize (posT l (en * 2000 + pe)) = P at *
  generalize (findT l (en * 2000 + pe)).isSome = S at *
  go_enter Tryz.func108, Tryz.ntmps108
  go_wp2_with fail
  refine ks.mono ?_
  rintro e w' ⟨rfl, hb⟩
  go_wp2
  go_ret2
  exact ⟨rfl, hb⟩
end Go.Proofs.YtafloaabjinkfaaGreat

/-
  Contracts of gates' known, (*Gates).State, May.
-/
namespace Go.Proofs.YtafloaabjinkfaaGreat
open Go.RowKit

theorem okT_lo {e p : Int} (h : e < 1) : okT e p = false := by simp [okT]; omega
theorem okT_hi {e p : Int} (h : 9 < e) : okT e p = false := by simp [okT]; omega
theorem okT_p {e p : Int} (h1 : ¬ e < 1) (h2 : ¬ 9 < e) : okT e p = okP p := by
  unfold okT okP
  rw [Bool.eq_iff_iff]
  simp
  omega

set_option maxRecDepth 100000 in
set_option maxHeartbeats 400000 in
theorem known_anyGt (en pe : Int) (w : World) : Calls Tryz.prog 80 #[.int .i64 en, .int .i64 pe] w fun e w' => e = .returned (.bool (okT en pe)) ∧ Below w.heap.size w w' := by
  by_cases h1 : en < 1
  · rw [okT_lo h1]
    go_enter Tryz.func80, Tryz.ntmps80
    go_wp2_with fail
    go_ret
    exact ⟨rfl, Below.refl _ _⟩
  by_cases h2 : 9 < en
  · rw [okT_hi h2]
    go_enter Tryz.func80, Tryz.ntmps80
    go_wp2_with fail
    go_ret
    exact ⟨rfl, Below.refl _ _⟩
  rw [okT_p h1 h2]
  have kv := Lib.hid (valid_one pe w (T := 3))
  generalize okP pe = b at *
  go_enter Tryz.func80, Tryz.ntmps80
  go_wp2_with fail
  refine kv.out.mono ?_
  rintro e w' ⟨rfl, rfl⟩
  go_wp2_with fail
  go_ret
  exact ⟨rfl, (Below.refl _ _).alloc (Nat.le_refl _) _⟩

/-- A row at a place, as a walk reads it. -/
theorem GatesAt.at {w : World} {B c p : Nat} {v : Value} {l : List Trio} {a : Trio} (h : GatesAt w B c v l) (hp : l[p]? = some a) : ∃ g cap, v = .slice (some ⟨g, 0, none⟩) l.length cap ∧ p < l.length ∧ g < w.heap.size ∧ B ≤ g ∧
    w.cell? ⟨g, p * 3, none⟩ = some (.int .i64 a.x) ∧ w.cell? ⟨g, p * 3 + 1, none⟩ = some (.int .i64 a.y) ∧ w.cell? ⟨g, p * 3 + 2, none⟩ = some (.int .i64 a.z) ∧ ∀ j, w.frozen? ⟨g, j, none⟩ = false := by
  have hl := (List.getElem?_eq_some_iff.1 hp).1
  rcases h.own.2 with ⟨_, h1⟩ | ⟨g, cap, cur, rfl, hB, hh, _⟩
  · omega
  · obtain ⟨h1, h2, h3⟩ := trios_at l p a hp
    exact ⟨g, cap, rfl, hl, lt_of_blk hh, hB, own_cell h.own h1, own_cell h.own h2, own_cell h.own h3, fun j => warm_of hh j⟩

set_option maxRecDepth 100000 in
set_option maxHeartbeats 400000 in
theorem state_any (B c : Nat) (v : Value) (l : List Trio) (en pe : Int) (w : World) (h : GatesAt w B c v l) :
    Calls Tryz.prog 81 #[.pointer (some ⟨c, 0, none⟩), .int .i64 en, .int .i64 pe] w fun e w' => e = .returned (.int .i64 (stT l en pe)) ∧ Below w.heap.size w w' := by
  have HC := Lib.hid h
  have hclt := h.lt
  have kk := known_anyGt en pe w
  cases ho : okT en pe
  · rw [show stT l en pe = 2 by simp [stT, ho]]
    rw [ho] at kk
    clear ho h
    go_enter Tryz.func81, Tryz.ntmps81
    go_wp2_with fail
    refine kk.mono ?_
    rintro e w1 ⟨rfl, hb⟩
    go_wp2_with fail
    go_ret
    exact ⟨rfl, hb⟩
  · rw [ho] at kk
    have kp := Lib.hid (fun w1 (hb : Below w.heap.size w w1) => place_anyGt B c v l en pe w1 (HC.out.below hb) ho)
    rw [show stT l en pe = zOf (findT l (en * 2000 + pe)) by simp [stT, ho]]
    cases hf : findT l (en * 2000 + pe) with
    | none =>
      rw [hf] at kp
      clear ho h hf
      unfold zOf
      go_enter Tryz.func81, Tryz.ntmps81
      go_wp2_with fail
      refine kk.mono ?_
      rintro e w1 ⟨rfl, hb⟩
      go_wp2_with fail
      refine (kp.out w1 hb).mono ?_
      rintro e w2 ⟨rfl, hb2⟩
      have HB : Hid (Below w.heap.size w w2) := hb.trans (hb2.mono hb.size)
      clear hb hb2
      go_wp2_with fail
      go_ret
      exact ⟨rfl, HB.out⟩
    | some a =>
      rw [hf] at kp
      obtain ⟨hat, _⟩ := find_some_atGt h.good.1 hf
      have HAT := Lib.hid hat
      have hlen := h.good.len
      clear ho h hf hat
      unfold zOf
      generalize posT l (en * 2000 + pe) = p at *
      go_enter Tryz.func81, Tryz.ntmps81
      go_wp2_with fail
      refine kk.mono ?_
      rintro e w1 ⟨rfl, hb⟩
      go_wp2_with fail
      refine (kp.out w1 hb).mono ?_
      rintro e w2 ⟨rfl, hb2⟩
      have HB : Hid (Below w.heap.size w w2) := hb.trans (hb2.mono hb.size)
      have hC2 := HC.out.below HB.out
      have hcc := hC2.cell
      obtain ⟨g, cap, rfl, hpl, hgl, _, hc0, hc1, hc2, _⟩ := hC2.at HAT.out
      have hpI : (p : Int) < (l.length : Int) := by omega
      clear hb hb2 hC2
      go_wp2_with fail
      go_ret
      exact ⟨rfl, HB.out⟩
set_option maxRecDepth 100000 in
theorem state_nil (en pe : Int) (w : World) : Calls Tryz.prog 81 #[.pointer none, .int .i64 en, .int .i64 pe] w fun e w' => e = .returned (.int .i64 2) ∧ w = w' := by
  go_enter Tryz.func81, Tryz.ntmps81
  go_wp2_with fail
  go_ret
  exact ⟨rfl, rfl⟩

set_option maxRecDepth 100000 in
set_option maxHeartbeats 400000 in
theorem may_any (B c : Nat) (v : Value) (l : List Trio) (en pe : Int) (w : World) (h : GatesAt w B c v l) :
    Calls Tryz.prog 91 #[.pointer (some ⟨c, 0, none⟩), .int .i64 en, .int .i64 pe] w fun e w' => e = .returned (.int .i64 (mayT l en pe)) ∧ Below w.heap.size w w' := by
  have kk := known_anyGt en pe w
  have ks := Lib.hid (fun w1 (hb : Below w.heap.size w w1) => state_any B c v l en pe w1 (h.below hb))
  cases ho : okT en pe
  · rw [show mayT l en pe = 1 by simp [mayT, ho]]
    rw [ho] at kk
    clear ho h
    go_enter Tryz.func91, Tryz.ntmps91
    go_wp2_with fail
    refine kk.mono ?_
    rintro e w1 ⟨rfl, hb⟩
    go_wp2_with fail
    go_ret
    exact ⟨rfl, hb⟩
  · rw [ho] at kk
    have HM : Hid (mayT l en pe = if stT l en pe = 0 then 0 else 6) := by show mayT l en pe = _; simp [mayT, ho]
    clear ho h
    generalize stT l en pe = s at *
    generalize mayT l en pe = m at *
    by_cases hs : s = 0
    · subst hs
      obtain rfl : m = 0 := by rw [HM.out]; simp
      go_enter Tryz.func91, Tryz.ntmps91
      go_wp2_with fail
      refine kk.mono ?_
      rintro e w1 ⟨rfl, hb⟩
      go_wp2_with fail
      refine (ks.out w1 hb).mono ?_
      rintro e w2 ⟨rfl, hb2⟩
      go_wp2_with fail
      go_ret
      exact ⟨rfl, hb.trans (hb2.mono hb.size)⟩
    · obtain rfl : m = 6 := by rw [HM.out]; simp [hs]
      have ht : (s != 0) = true := by simp [hs]
      go_enter Tryz.func91, Tryz.ntmps91
      go_wp2_with fail
      refine kk.mono ?_
      rintro e w1 ⟨rfl, hb⟩
      go_wp2_with fail
      refine (ks.out w1 hb).mono ?_
      rintro e w2 ⟨rfl, hb2⟩
      go_wp2_with fail
      go_ret
      exact ⟨rfl, hb.trans (hb2.mono hb.size)⟩
set_option maxRecDepth 100000 in
theorem may_nil (en pe : Int) (w : World) : Calls Tryz.prog 91 #[.pointer none, .int .i64 en, .int .i64 pe] w fun e w' => e = .returned (.int .i64 1) ∧ w = w' := by
  go_enter Tryz.func91, Tryz.ntmps91
  go_wp2_with fail
  go_ret
  exact ⟨rfl, rfl⟩
end Go.Proofs.YtafloaabjinkfaaGreat

/-
  Contract of slices.Insert over rows, of one element.
-/
namespace Go.Proofs.YtafloaabjinkfaaGreat
open Go.RowKit

theorem trios_take : ∀ (l : List Trio) (i : Nat), (trios l).take (i * 3) = trios (l.take i)
  | [], i => by simp [trios]
  | a :: l, 0 => by simp [trios]
  | a :: l, i + 1 => by
    have := trios_take l i
    unfold trios at this ⊢
    rw [List.take_succ_cons, List.flatMap_cons, List.flatMap_cons, ← this, show (i + 1) * 3 = (Trio.cells a).length + i * 3 by simp [Trio.cells]; omega, List.take_length_add_append]
theorem trios_drop : ∀ (l : List Trio) (i : Nat), (trios l).drop (i * 3) = trios (l.drop i)
  | [], i => by simp [trios]
  | a :: l, 0 => by simp [trios]
  | a :: l, i + 1 => by
    have := trios_drop l i
    unfold trios at this ⊢
    rw [List.drop_succ_cons, List.flatMap_cons, ← this, show (i + 1) * 3 = (Trio.cells a).length + i * 3 by simp [Trio.cells]; omega, List.drop_length_add_append]
theorem trios_ins (l : List Trio) (i : Nat) (a : Trio) : trios (l.take i ++ a :: l.drop i) = (trios l).take (i * 3) ++ (a.cells ++ (trios l).drop (i * 3)) := by
  rw [trios_take, trios_drop, trios_append]
  rfl
theorem trios_one (l : List Trio) : ∀ u ∈ trios l, u.oneCell' = true := by
  intro u hu
  obtain ⟨a, _, hu⟩ := List.mem_flatMap.1 hu
  simp [Trio.cells] at hu
  rcases hu with rfl | rfl | rfl <;> rfl
theorem cells_oneT (a : Trio) : ∀ u ∈ a.cells, u.oneCell' = true := by
  intro u hu
  simp [Trio.cells] at hu
  rcases hu with rfl | rfl | rfl <;> rfl
theorem rd_atGt {w : World} {b : Nat} {cs : List Value} {T : TypeId} (h : w.heap[b]? = some (.cells cs.toArray T (0, 0))) : ∀ j u, cs[j]? = some u → w.cell? ((⟨b, 0, none⟩ : Addr).add j) = some u := by
  intro j u hu
  rw [Addr.add_lit, Nat.zero_add, cell_of h]
  simpa using hu

/-- What comes of an insertion. -/
def InsertedGt (w : World) (B : Nat) (v : Value) (l : List Trio) (v' : Value) (w' : World) : Prop :=
  w'.ownsRow B 75 3 v' l.length (trios l) ∧ But (fun k => v.ownBlock = some k) w w' ∧ (v'.ownBlock = v.ownBlock ∨ v'.ownBlock = some w.heap.size)

set_option maxRecDepth 100000 in
set_option maxHeartbeats 1000000 in
theorem insert_endGt (l : List Trio) (a : Trio) (B vb n c : Nat) (A : Option Addr) (w : World) (hn : l.length = n) (hown : w.ownsRow B 75 3 (.slice A n c) n (trios l)) (hvb : w.heap[vb]? = some (.cells a.cells.toArray 75 (0, 0))) (hn2 : n ≤ 1000000) (hB : B ≤ w.heap.size) :
    Calls Tryz.prog 110 #[.slice A n c, .int .i64 n, .slice (some ⟨vb, 0, none⟩) 1 1] w fun e w' => ∃ v', e = .returned v' ∧ InsertedGt w B (.slice A n c) (l ++ [a]) v' w' := by
  have hr : Rd w (vb + 1) 3 (some ⟨vb, 0, none⟩) 1 a.cells := ⟨rfl, fun _ => ⟨_, rfl, by simp, rd_atGt hvb⟩⟩
  obtain ⟨v', w', hrun, hown', hg, hp⟩ := append_fresh (P := Tryz.prog) (ty := 23) (c := 1) infoTrio Tryz.underlying23 rfl (by omega) B _ n _ hown hr (cells_oneT a) (by unfold maxLen; omega) (by omega) hB
  have HI : Hid (InsertedGt w B (.slice A n c) (l ++ [a]) v' w') := by
    refine ⟨?_, But.of_grown hg, hp⟩
    rw [trios_append, List.length_append, hn]
    exact hown'
  have HR := Lib.hid hrun
  have hcap : n ≤ c := by
    rcases hown.2 with ⟨h1, rfl⟩ | ⟨g, cap, cur, h1, _, _, h2, _⟩
    · injection h1 with _ _ h3; omega
    · injection h1 with _ _ h3; omega
  have hc63 : c ≤ 9223372036854775807 := by
    rcases hown.2 with ⟨h1, rfl⟩ | ⟨g, cap, cur, h1, _, _, h2, h3, _⟩
    · injection h1 with _ _ h3; omega
    · injection h1 with _ _ h4; subst h4; unfold maxLen at h3; omega
  clear hown hvb hr hown' hg hp hn hrun
  obtain ⟨A', c', n', rfl⟩ : ∃ A' c' n', v' = .slice A' n' c' := by
    obtain ⟨A', c', e⟩ := own_form HI.out.1
    exact ⟨A', c', _, e⟩
  rcases A with _ | ad
  all_goals
    by_cases hcn : c = n
    all_goals
      go_enter Tryz.func110, Tryz.ntmps110
      go_wp2_with (at_builtin; refine wpList_append_run rfl _ _ _ rfl _ _ _ _ rfl rfl HR.out ?_)
      go_ret
      exact ⟨_, rfl, HI.out⟩

set_option maxRecDepth 100000 in
set_option maxHeartbeats 4000000 in
theorem insert_growGt (l : List Trio) (a : Trio) (B vb g i n c : Nat) (w : World) (hn : l.length = n) (hown : w.ownsRow B 75 3 (.slice (some ⟨g, 0, none⟩) n c) n (trios l)) (hvb : w.heap[vb]? = some (.cells a.cells.toArray 75 (0, 0))) (hn2 : n ≤ 1000000) (hB : B ≤ w.heap.size) (hi : i < n) (hroom : c < n + 1) :
    Calls Tryz.prog 110 #[.slice (some ⟨g, 0, none⟩) n c, .int .i64 i, .slice (some ⟨vb, 0, none⟩) 1 1] w fun e w' => ∃ v', e = .returned v' ∧ InsertedGt w B (.slice (some ⟨g, 0, none⟩) n c) (l.take i ++ a :: l.drop i) v' w' := by
  obtain ⟨cur, hh, hBg, hnc, hcm, hcs, hcl⟩ := own_blk hown
  obtain rfl : c = n := by omega
  obtain ⟨i0, hi0, hz0, hz1, hz2⟩ := info_parts infoTrio
  have hcells := hown.cells (g := g) rfl
  have hxl : (trios l).length = c * 3 := hown.1
  -- append(s[:i], make(..)...)
  have hold : (Builtin.firstCells i0.size i (.slice (some ⟨g, 0, none⟩) i c)).run Tryz.prog w.drew = .ok ((trios l).take (i * 3)).toArray w.drew := by
    rw [hz1]
    refine run_firstCells_some w.drew 3 i ⟨g, 0, none⟩ i c _ (by simp [hxl]; omega) (fun j v hj => ?_)
    rw [List.getElem?_take] at hj
    split at hj
    · exact hcells j v hj
    · cases hj
  have hrz : ∀ ty, (Builtin.append_ #[23, 3] ty #[.slice (some ⟨g, 0, none⟩) i c, .int .i64 ((c + 1 - i : Nat) : Int)]).run Tryz.prog w = _ := fun ty =>
    Lib.run_append_grow_zeros w 23 3 ty 75 i0 _ .i64 .i64 Tryz.underlying23 Tryz.underlying3 hi0 hz0 (some ⟨g, 0, none⟩) i c _ hold (c + 1 - i) (by omega) (by omega) (by omega) (by omega) (by rw [hz2]; omega) (by rw [hz2, show i + (c + 1 - i) = c + 1 by omega]; exact growslice_fits (by omega) (by omega))
  rw [show i + (c + 1 - i) = c + 1 by omega] at hrz
  generalize hG : grownCap w (c + 1) c 75 = G at hrz
  have hGn : c + 1 ≤ G := by rw [← hG]; exact grownCap_ge w _ _ _
  have hG63 : G ≤ maxLen := by rw [← hG]; exact grownCap_le_maxLen w (c + 1) c _ (by unfold maxLen; omega)
  generalize hZ : (Builtin.zeroCells (Value.agg #[.int .i64 0, .int .i64 0, .int .i64 0]).cells (c + 1 - i)) = Z at hrz
  have hZl : Z.size = (c + 1 - i) * 3 := by rw [← hZ, size_zeroCells]; rfl
  generalize hY : (Builtin.zeroCells (Value.agg #[.int .i64 0, .int .i64 0, .int .i64 0]).cells (G - (c + 1))) = Y at hrz
  have hYl : Y.size = (G - (c + 1)) * 3 := by rw [← hY, size_zeroCells]; rfl
  have hown0 : (w.drew.alloc (.cells (((trios l).take (i * 3)).toArray ++ Z ++ Y) 75)).ownsRow B 75 3 (.slice (some ⟨w.heap.size, 0, none⟩) (c + 1) G) (c + 1) ((trios l).take (i * 3) ++ Z.toList) := by
    have hlen : ((trios l).take (i * 3) ++ Z.toList).length = (c + 1) * 3 := by simp [hxl, hZl]; omega
    refine ⟨hlen, .inr ⟨w.heap.size, G, _, rfl, hB, heap_new w.drew _, hGn, hG63, by simp [hxl, hZl, hYl]; omega, ?_⟩⟩
    rw [Array.toList_append, Array.toList_append, ← hlen]
    exact List.take_left
  generalize hW0 : w.drew.alloc (.cells (((trios l).take (i * 3)).toArray ++ Z ++ Y) 75) = W0 at hrz hown0
  have hk0 : ∀ k, k < w.heap.size → W0.heap[k]? = w.heap[k]? := fun k hk => by rw [← hW0]; exact Below.heap_alloc w.drew _ _ hk
  have hz0' : W0.heap.size = w.heap.size + 1 := by rw [← hW0]; simp
  have hinfo : (Tryz.prog.info? 75).map (·.size) = some 3 := by rw [hi0]; simp [hz1]
  have hvlt := lt_of_blk hvb
  have hglt := lt_of_blk hh
  -- copy(s2[i:], v)
  have hcp1 : ∀ ty dc, _ := fun ty dc => copy_own (P := Tryz.prog) (ty := ty) hown0 Tryz.underlying23 hinfo i 1 (c + 1 - i) dc 1 1 ⟨vb, 0, none⟩ a.cells (by simp only [Nat.min_def]; split <;> omega) rfl (by omega) (rd_atGt ((hk0 vb hvlt).trans hvb)) (cells_oneT a)
  have hown1 := (hcp1 0 0).2
  generalize hW1 : W0.setCells w.heap.size (i * 3) a.cells = W1 at hcp1 hown1
  have hk1 : ∀ k, k < w.heap.size → W1.heap[k]? = w.heap[k]? := fun k hk => by rw [← hW1, setCells_other _ _ _ _ (by omega)]; exact hk0 k hk
  -- copy(s2[i+1:], s[i:])
  have hsrc : ∀ j u, ((trios l).drop (i * 3))[j]? = some u → W1.cell? ((⟨g, i * 3, none⟩ : Addr).add j) = some u := by
    intro j u hu
    rw [List.getElem?_drop] at hu
    have := hcells _ u hu
    rw [Addr.add_lit] at this ⊢
    rw [Nat.zero_add] at this
    rw [← this]
    unfold World.cell?
    rw [hk1 g hglt]
  have hcp2 : ∀ ty dc sc, _ := fun ty dc sc => copy_own (P := Tryz.prog) (w := W1.drew) (ty := ty) hown1 Tryz.underlying23 hinfo (i + 1) (c - i) (c + 1 - (i + 1)) dc (c - i) sc ⟨g, i * 3, none⟩ ((trios l).drop (i * 3)) (by simp only [Nat.min_def]; split <;> omega) (by simp [hxl]; omega) (by omega) hsrc (fun u hu => trios_one l u (List.mem_of_mem_drop hu))
  have hown2 := (hcp2 0 0 0).2
  rw [ins_new hxl (by omega) (by simp [hZl]) rfl, ← trios_ins] at hown2
  generalize hW2 : W1.drew.setCells w.heap.size ((i + 1) * 3) ((trios l).drop (i * 3)) = W2 at hcp2 hown2
  have hkk : (c : Int) + 1 - (i : Int) = ((c + 1 - i : Nat) : Int) := by omega
  have HI : Hid (InsertedGt w B (.slice (some ⟨g, 0, none⟩) c c) (l.take i ++ a :: l.drop i) (.slice (some ⟨w.heap.size, 0, none⟩) (c + 1) G) W2) := by
    refine ⟨?_, ⟨?_, ?_, ?_, ?_, fun k hk _ => ?_⟩, .inr rfl⟩
    · rw [show (l.take i ++ a :: l.drop i).length = c + 1 by simp; omega]; exact hown2
    · rw [← hW2, (setCells_below (B := 0) (Nat.zero_le _) _ _ _).os, show W1.drew.os = W1.os from rfl, ← hW1, (setCells_below (B := 0) (Nat.zero_le _) _ _ _).os, ← hW0]; rfl
    · rw [← hW2, (setCells_below (B := 0) (Nat.zero_le _) _ _ _).tape, show W1.drew.tape = W1.tape from rfl, ← hW1, (setCells_below (B := 0) (Nat.zero_le _) _ _ _).tape, ← hW0]; rfl
    · rw [← hW2, (setCells_below (B := 0) (Nat.zero_le _) _ _ _).output, show W1.drew.output = W1.output from rfl, ← hW1, (setCells_below (B := 0) (Nat.zero_le _) _ _ _).output, ← hW0]; rfl
    · have h1 := (setCells_below (B := 0) (g := w.heap.size) (Nat.zero_le _) ((trios l).drop (i * 3)) W1.drew ((i + 1) * 3)).size
      have h2 := (setCells_below (B := 0) (g := w.heap.size) (Nat.zero_le _) a.cells W0 (i * 3)).size
      rw [hW2] at h1
      rw [hW1] at h2
      have h3 : W1.drew.heap.size = W1.heap.size := rfl
      omega
    · rw [← hW2, setCells_other _ _ _ _ (by omega)]
      exact hk1 k hk
  have HRZ := Lib.hid hrz; have HC1 := Lib.hid hcp1; have HC2 := Lib.hid hcp2
  have hG63' : G ≤ 9223372036854775807 := by unfold maxLen at hG63; omega
  clear hrz hcp1 hcp2 hown hown0 hown1 hown2 hcells hsrc hold hh hcs hcl hG hZ hZl hY hYl hz0 hz1 hz2 hi0 hinfo hxl hn hvb hk0 hk1 hz0' hW0 hW1 hW2 hG63 hcm hnc
  have hw1 : IntKind.i64.wrap ((i : Int) + 1) = (i : Int) + 1 := by rw [IntKind.wrap_i64]; omega
  have hb1 : (0 : Int) ≤ (i : Int) + 1 := by omega
  have htn : ((i : Int) + 1).toNat = i + 1 := by omega
  have hGi : ¬ (G = i) := by omega
  have hGim : ¬ (G = i + 1) := by omega
  have hci : ¬ (c = i) := by omega
  have hin : i ≤ c := by omega
  go_enter Tryz.func110, Tryz.ntmps110
  have hc1 := (HC1.out 3 (G - i)).1
  go_wp2_with (at_builtin; refine wpList_append_run2 rfl _ _ _ _ rfl _ _ _ _ rfl rfl (HRZ.out _) ?_)
  go_region_law (refine step_copy_run rfl _ _ _ _ rfl (.slice (some ⟨w.heap.size, (i + 1) * 3, none⟩) (c + 1 - (i + 1)) (G - (i + 1))) (.slice (some ⟨g, i * 3, none⟩) (c - i) (c - i)) _ _ (by simp [Act.eval, Act.put]) (by simp [Act.eval, Act.put]) (HC2.out _ _ _).1 ?_)
  go_wp2
  go_ret
  exact ⟨_, rfl, HI.out⟩
end Go.Proofs.YtafloaabjinkfaaGreat
