/-
  Several texts, one behind the other: what each holds stands ahead of it.
-/
import Derived.Test.YtjlokkjbdgcooaaGreatMany22
import Derived.Test.YtjlokkjbdgcooaaGreatMany3
import Derived.Test.YtjlokkjbdgcooaaGreatMany4

/-
  Contracts of cmp.Compare, slices.BinarySearchFunc over accounts by code, (*Chart).place.
-/
namespace Go.Proofs.YtjlokkjbdgcooaaGreat
open Go.RowKit

def cmpICh (a b : Int) : Int := if a < b then -1 else if b < a then 1 else 0

set_option maxRecDepth 100000 in
theorem isNaN_anyCh (a : Int) (w : World) : Calls Tryz.prog 199 #[.int .i64 a] w fun e w' => e = .returned (.bool false) ∧ w = w' := by
  have h : (a != a) = false := by simp
  go_enter Tryz.func199, Tryz.ntmps199
  go_wp2
  go_ret
  exact ⟨rfl, rfl⟩

set_option maxRecDepth 100000 in
theorem compare_anyCh (a b : Int) (w : World) : Calls Tryz.prog 162 #[.int .i64 a, .int .i64 b] w fun e w' => e = .returned (.int .i64 (cmpICh a b)) ∧ w = w' := by
  have hx : (a < b ∧ cmpICh a b = -1) ∨ (¬ a < b ∧ b < a ∧ cmpICh a b = 1) ∨ (¬ a < b ∧ ¬ b < a ∧ cmpICh a b = 0) := by
    unfold cmpICh
    by_cases h1 : a < b
    · exact .inl ⟨h1, by simp [h1]⟩
    · by_cases h2 : b < a
      · exact .inr (.inl ⟨h1, h2, by simp [h1, h2]⟩)
      · exact .inr (.inr ⟨h1, h2, by simp [h1, h2]⟩)
  rcases hx with ⟨h1, h3⟩ | ⟨h1, h2, h3⟩ | ⟨h1, h2, h3⟩
  all_goals
    rw [h3]
    clear h3
    go_enter Tryz.func162, Tryz.ntmps162
    go_wp2_with (go_at_call 199; refine (isNaN_anyCh _ _).mono ?_; rintro e w' ⟨rfl, rfl⟩)
    go_ret
    exact ⟨rfl, rfl⟩

set_option maxRecDepth 100000 in
theorem placeCmp_anyCh (a : Acc) (x : Int) (w : World) : Calls Tryz.prog 250 #[.agg #[.int .i64 a.code, .int .i64 a.kind, .bool a.ret], .int .i64 x] w fun e w' => e = .returned (.int .i64 (cmpICh a.code x)) ∧ Below w.heap.size w w' := by
  obtain ⟨c, k, r⟩ := a
  go_enter Tryz.func250, Tryz.ntmps250
  go_wp2_with (go_at_call 162; refine (compare_anyCh _ _ _).mono ?_; rintro e w' ⟨rfl, rfl⟩)
  go_ret
  exact ⟨rfl, (Below.refl _ _).alloc (Nat.le_refl _) _⟩

theorem cmpI_ltCh {a b : Int} : decide (cmpICh a b < 0) = decide (a < b) := by
  rw [Bool.eq_iff_iff]
  simp only [decide_eq_true_eq]
  unfold cmpICh
  split
  · constructor <;> intro <;> omega
  · split <;> constructor <;> intro <;> omega
theorem cmpI_eqCh {a b : Int} : (cmpICh a b == 0) = (a == b) := by
  rw [Bool.eq_iff_iff]
  simp only [beq_iff_eq]
  unfold cmpICh
  split
  · constructor <;> intro <;> omega
  · split <;> constructor <;> intro <;> omega

/-- At the head of the search: what lies before i is less, what lies from j on is not. -/
def SeekRelCh (w : World) (l : List Acc) (x : Int) (i j : Nat) (wr : World) : Prop :=
  i ≤ j ∧ j ≤ l.length ∧ (∀ (k : Nat) (a : Acc), k < i → l[k]? = some a → a.code < x) ∧ (∀ (k : Nat) (a : Acc), j ≤ k → l[k]? = some a → x ≤ a.code) ∧ Below w.heap.size w wr

set_option maxRecDepth 100000 in
set_option maxHeartbeats 1000000 in
theorem search_anyCh (l : List Acc) (x : Int) (A : Option Addr) (n c B : Nat) (w : World) (h : Rd w B 3 A n (accs l)) (hB : B ≤ w.heap.size) (hn : n ≤ 1000000) (hs : l.Pairwise fun a b => a.code < b.code) :
    Calls Tryz.prog 249 #[.slice A n c, .int .i64 x, .func (.func 250) #[] #[]] w fun e w' => e = .returned (.tuple #[.int .i64 (posn l x : Nat), .bool (findA l x).isSome]) ∧ Below w.heap.size w w' := by
  have HL := Lib.hid h.accs_len
  have HR := Lib.hid h
  have HS := Lib.hid hs
  clear h hs
  go_enter Tryz.func249, Tryz.ntmps249
  go_wp2_with fail
  go_loopw [9, 10] (fun iv jv wr => ∃ i j : Nat, iv = .int .i64 i ∧ jv = .int .i64 j ∧ SeekRelCh w l x i j wr) (fun iv jv _ => (intOf jv).toNat - (intOf iv).toNat)
  case atStart => exact ⟨0, n, rfl, rfl, Nat.zero_le _, by rw [HL.out]; exact Nat.le_refl _, (fun k a hk => by omega), (fun k a hk ha => by have := (List.getElem?_eq_some_iff.1 ha).1; have := HL.out; omega), Below.refl _ _⟩
  case round =>
    obtain ⟨i, j, rfl, rfl, hrel⟩ := hrel
    obtain ⟨hij, hjl, hlo, hhi, hbel⟩ := hrel
    have hjn : j ≤ n := by have := HL.out; omega
    have hzr := hbel.size
    have HRr := Lib.hid (HR.out.below (hbel.mono hB))
    have HLO := Lib.hid hlo; have HHI := Lib.hid hhi; have HB := Lib.hid hbel
    clear hlo hhi hbel hjl
    by_cases hlt : i < j
    · obtain ⟨m, hmd⟩ : ∃ m, m = (i + j) / 2 := ⟨_, rfl⟩
      have him : i ≤ m := by omega
      have hmj : m < j := by omega
      have hm : ((i : Int) + (j : Int)) / 2 = (m : Int) := by omega
      clear hmd
      obtain ⟨ad, a, rfl, hb1, hx, p1, p2, p3⟩ := HRr.out.acc (i := m) (by omega)
      have p2' := cell_behind p2 (by omega)
      have p3' := cell_behind p3 (by omega)
      have hmn : (m : Int) < (n : Int) := by omega
      have kc := placeCmp_anyCh a x wr
      have hlt2 := cmpI_ltCh (a := a.code) (b := x)
      have HX := Lib.hid hx
      clear p2 p3 hx
      generalize cmpICh a.code x = cv at *
      go_wp2_with fail
      refine kc.mono ?_
      rintro e w' ⟨rfl, hb2⟩
      have HB2 : Hid (Below w.heap.size w w') := HB.out.trans (hb2.mono hzr)
      clear hb2 kc p1 p2' p3'
      by_cases hc : a.code < x
      · have hd : cv < 0 := by simpa [hc] using hlt2
        clear hlt2
        go_wp2
        refine ⟨⟨m + 1, j, by go_num, rfl, by omega, by have := HL.out; omega, ?_, HHI.out, HB2.out⟩, by simp [intOf]; omega⟩
        intro k b hk hkb
        rcases Nat.lt_or_ge k m with h1 | h1
        · have := rise_ltCh HS.out h1 hkb HX.out; omega
        · obtain rfl : k = m := by omega
          rw [HX.out] at hkb
          injection hkb with hkb
          rw [← hkb]; exact hc
      · have hd : ¬ cv < 0 := by simpa [hc] using hlt2
        clear hlt2
        go_wp2
        refine ⟨⟨i, m, rfl, rfl, by omega, by have := HL.out; omega, HLO.out, ?_, HB2.out⟩, by simp [intOf]; omega⟩
        intro k b hk hkb
        have := rise_leCh HS.out hk HX.out hkb
        omega
    · obtain rfl : i = j := by omega
      have hpos : posn l x = i := posn_eq (by have := HL.out; omega) HLO.out fun a ha => HHI.out i a (Nat.le_refl _) ha
      have hfind := find_atCh HS.out x
      rw [hpos] at hfind
      have HF := Lib.hid hfind
      have HP := Lib.hid hpos
      clear hpos hfind
      by_cases hin : i < n
      · obtain ⟨ad, a, rfl, hb1, hx, p1, p2, p3⟩ := HRr.out.acc hin
        have p2' := cell_behind p2 (by omega)
        have p3' := cell_behind p3 (by omega)
        have hinI : (i : Int) < (n : Int) := by omega
        have kc := placeCmp_anyCh a x wr
        have hfs : (findA l x).isSome = (cmpICh a.code x == 0) := by
          rw [HF.out, hx, cmpI_eqCh]
          by_cases e : a.code = x <;> simp [e]
        have HFS := Lib.hid hfs
        clear p2 p3 hx hfs
        generalize cmpICh a.code x = cv at *
        go_wp2_with fail
        refine kc.mono ?_
        rintro e w' ⟨rfl, hb2⟩
        have HB2 : Hid (Below w.heap.size w w') := HB.out.trans (hb2.mono hzr)
        clear hb2 kc p1 p2' p3'
        go_wp2
        go_ret2
        exact ⟨by rw [HP.out, HFS.out]; rfl, HB2.out⟩
      · have hfs : (findA l x).isSome = false := by
          rw [HF.out, List.getElem?_eq_none (by have := HL.out; omega)]; rfl
        have HFS := Lib.hid hfs
        clear hfs
        go_wp2
        go_ret2
        exact ⟨by rw [HP.out, HFS.out]; rfl, HB.out⟩
end Go.Proofs.YtjlokkjbdgcooaaGreat

/-
  A chart in memory; (*Chart).place.
-/
namespace Go.Proofs.YtjlokkjbdgcooaaGreat
open Go.RowKit

/-- A chart: its variable, and its accounts in a row of its own. -/
structure ChartAt (w : World) (B c : Nat) (v : Value) (l : List Acc) : Prop where
  blk : w.heap[c]? = some (.cells #[v] 275 (0, 0))
  low : B ≤ c
  own : w.ownsRow B 165 3 v l.length (accs l)
  good : GoodA l
/-- The blocks of a chart. -/
def InChart (c : Nat) (v : Value) (k : Nat) : Prop := k = c ∨ v.ownBlock = some k
section
variable {w w' : World} {B c : Nat} {v : Value} {l : List Acc}
theorem ChartAt.cell (h : ChartAt w B c v l) : w.cell? ⟨c, 0, none⟩ = some v := by rw [cell_of h.blk]; rfl
theorem ChartAt.warm (h : ChartAt w B c v l) : w.frozen? ⟨c, 0, none⟩ = false := warm_of h.blk 0
theorem ChartAt.lt (h : ChartAt w B c v l) : c < w.heap.size := lt_of_blk h.blk
theorem ChartAt.kept (h : ChartAt w B c v l) (hk : ∀ k, k < w.heap.size → InChart c v k → w'.heap[k]? = w.heap[k]?) : ChartAt w' B c v l :=
  ⟨(hk c h.lt (.inl rfl)).trans h.blk, h.low, own_kept h.own fun k hk1 hk2 => hk k hk1 (.inr hk2), h.good⟩
theorem ChartAt.below (h : ChartAt w B c v l) (hb : Below w.heap.size w w') : ChartAt w' B c v l := h.kept fun k hk _ => hb.block k hk
theorem ChartAt.but {S : Nat → Prop} (h : ChartAt w B c v l) (hb : But S w w') (hs : ∀ k, InChart c v k → ¬ S k) : ChartAt w' B c v l := h.kept fun k hk hi => hb.block k hk (hs k hi)
theorem ChartAt.form (h : ChartAt w B c v l) : ∃ A cap, v = .slice A l.length cap := own_form h.own
theorem ChartAt.ge (h : ChartAt w B c v l) : ∀ k, InChart c v k → B ≤ k := by
  rintro k (rfl | hk)
  · exact h.low
  · exact own_ge h.own k hk
theorem ChartAt.ltB (h : ChartAt w B c v l) : ∀ k, InChart c v k → k < w.heap.size := by
  rintro k (rfl | hk)
  · exact h.lt
  · exact own_lt h.own k hk
theorem ChartAt.apart (h : ChartAt w B c v l) : v.ownBlock ≠ some c := own_ne h.own h.blk (by decide)
end

set_option maxRecDepth 100000 in
theorem place_anyCh (B c : Nat) (v : Value) (l : List Acc) (x : Int) (w : World) (h : ChartAt w B c v l) :
    Calls Tryz.prog 225 #[.pointer (some ⟨c, 0, none⟩), .int .i64 x] w fun e w' => e = .returned (.tuple #[.int .i64 (posn l x : Nat), .bool (findA l x).isSome]) ∧ Below w.heap.size w w' := by
  have hc := h.cell
  obtain ⟨A, cap, rfl⟩ := h.form
  have ks := search_anyCh l x A l.length cap _ w (rd_of_own h.own) (Nat.le_refl _) (by have := h.good.len; omega) h.good.1
  have HG := Lib.hid h
  clear h
  generalize (posn l x) = P at *
  generalize (findA l x).isSome = S at *
  go_enter Tryz.func225, Tryz.ntmps225
  go_wp2_with fail
  refine ks.mono ?_
  rintro e w' ⟨rfl, hb⟩
  go_wp2
  go_ret2
  exact ⟨rfl, hb⟩
end Go.Proofs.YtjlokkjbdgcooaaGreat

/-
  Contract of slices.Insert over accounts, of one element.
-/
namespace Go.Proofs.YtjlokkjbdgcooaaGreat
open Go.RowKit

theorem accs_take : ∀ (l : List Acc) (i : Nat), (accs l).take (i * 3) = accs (l.take i)
  | [], i => by simp [accs]
  | a :: l, 0 => by simp [accs]
  | a :: l, i + 1 => by
    have := accs_take l i
    unfold accs at this ⊢
    rw [List.take_succ_cons, List.flatMap_cons, List.flatMap_cons, ← this, show (i + 1) * 3 = (Acc.cells a).length + i * 3 by simp [Acc.cells]; omega, List.take_length_add_append]
theorem accs_drop : ∀ (l : List Acc) (i : Nat), (accs l).drop (i * 3) = accs (l.drop i)
  | [], i => by simp [accs]
  | a :: l, 0 => by simp [accs]
  | a :: l, i + 1 => by
    have := accs_drop l i
    unfold accs at this ⊢
    rw [List.drop_succ_cons, List.flatMap_cons, ← this, show (i + 1) * 3 = (Acc.cells a).length + i * 3 by simp [Acc.cells]; omega, List.drop_length_add_append]
theorem accs_ins (l : List Acc) (i : Nat) (a : Acc) : accs (l.take i ++ a :: l.drop i) = (accs l).take (i * 3) ++ (a.cells ++ (accs l).drop (i * 3)) := by
  rw [accs_take, accs_drop, accs_append]
  rfl
theorem accs_one (l : List Acc) : ∀ u ∈ accs l, u.oneCell' = true := by
  intro u hu
  obtain ⟨a, _, hu⟩ := List.mem_flatMap.1 hu
  simp [Acc.cells] at hu
  rcases hu with rfl | rfl | rfl <;> rfl
theorem cells_oneA (a : Acc) : ∀ u ∈ a.cells, u.oneCell' = true := by
  intro u hu
  simp [Acc.cells] at hu
  rcases hu with rfl | rfl | rfl <;> rfl
theorem rd_atCh {w : World} {b : Nat} {cs : List Value} {T : TypeId} (h : w.heap[b]? = some (.cells cs.toArray T (0, 0))) : ∀ j u, cs[j]? = some u → w.cell? ((⟨b, 0, none⟩ : Addr).add j) = some u := by
  intro j u hu
  rw [Addr.add_lit, Nat.zero_add, cell_of h]
  simpa using hu

/-- What comes of an insertion. -/
def InsertedCh (w : World) (B : Nat) (v : Value) (l : List Acc) (v' : Value) (w' : World) : Prop :=
  w'.ownsRow B 165 3 v' l.length (accs l) ∧ But (fun k => v.ownBlock = some k) w w' ∧ (v'.ownBlock = v.ownBlock ∨ v'.ownBlock = some w.heap.size)

set_option maxRecDepth 100000 in
set_option maxHeartbeats 1000000 in
theorem insert_endCh (l : List Acc) (a : Acc) (B vb n c : Nat) (A : Option Addr) (w : World) (hn : l.length = n) (hown : w.ownsRow B 165 3 (.slice A n c) n (accs l)) (hvb : w.heap[vb]? = some (.cells a.cells.toArray 165 (0, 0))) (hn2 : n ≤ 1000000) (hB : B ≤ w.heap.size) :
    Calls Tryz.prog 226 #[.slice A n c, .int .i64 n, .slice (some ⟨vb, 0, none⟩) 1 1] w fun e w' => ∃ v', e = .returned v' ∧ InsertedCh w B (.slice A n c) (l ++ [a]) v' w' := by
  have hr : Rd w (vb + 1) 3 (some ⟨vb, 0, none⟩) 1 a.cells := ⟨rfl, fun _ => ⟨_, rfl, by simp, rd_atCh hvb⟩⟩
  obtain ⟨v', w', hrun, hown', hg, hp⟩ := append_fresh (P := Tryz.prog) (ty := 76) (c := 1) infoAcc Tryz.underlying76 rfl (by omega) B _ n _ hown hr (cells_oneA a) (by unfold maxLen; omega) (by omega) hB
  have HI : Hid (InsertedCh w B (.slice A n c) (l ++ [a]) v' w') := by
    refine ⟨?_, But.of_grown hg, hp⟩
    rw [accs_append, List.length_append, hn]
    exact hown'
  have HR := Lib.hid hrun
  have hcap : n ≤ c := by
    rcases hown.2 with ⟨h1, rfl⟩ | ⟨g, cap, cur, h1, _, _, h2, _⟩
    · injection h1 with _ _ h3; omega
    · injection h1 with _ _ h3; omega
  have hc63 : c ≤ 9223372036854775807 := by
    rcases hown.2 with ⟨h1, rfl⟩ | ⟨g, cap, cur, h1, _, _, h2, h3, _⟩
    · injection h1 with _ _ h3; omega
    · injection h1 with _ _ h4; subst h4; unfold maxLen at h3; omega
  clear hown hvb hr hown' hg hp hn hrun
  obtain ⟨A', c', n', rfl⟩ : ∃ A' c' n', v' = .slice A' n' c' := by
    obtain ⟨A', c', e⟩ := own_form HI.out.1
    exact ⟨A', c', _, e⟩
  rcases A with _ | ad
  all_goals
    by_cases hcn : c = n
    all_goals
      go_enter Tryz.func226, Tryz.ntmps226
      go_wp2_with (at_builtin; refine wpList_append_run rfl _ _ _ rfl _ _ _ _ rfl rfl HR.out ?_)
      go_ret
      exact ⟨_, rfl, HI.out⟩

set_option maxRecDepth 100000 in
set_option maxHeartbeats 4000000 in
theorem insert_growCh (l : List Acc) (a : Acc) (B vb g i n c : Nat) (w : World) (hn : l.length = n) (hown : w.ownsRow B 165 3 (.slice (some ⟨g, 0, none⟩) n c) n (accs l)) (hvb : w.heap[vb]? = some (.cells a.cells.toArray 165 (0, 0))) (hn2 : n ≤ 1000000) (hB : B ≤ w.heap.size) (hi : i < n) (hroom : c < n + 1) :
    Calls Tryz.prog 226 #[.slice (some ⟨g, 0, none⟩) n c, .int .i64 i, .slice (some ⟨vb, 0, none⟩) 1 1] w fun e w' => ∃ v', e = .returned v' ∧ InsertedCh w B (.slice (some ⟨g, 0, none⟩) n c) (l.take i ++ a :: l.drop i) v' w' := by
  obtain ⟨cur, hh, hBg, hnc, hcm, hcs, hcl⟩ := own_blk hown
  obtain rfl : c = n := by omega
  obtain ⟨i0, hi0, hz0, hz1, hz2⟩ := info_parts infoAcc
  have hcells := hown.cells (g := g) rfl
  have hxl : (accs l).length = c * 3 := hown.1
  -- append(s[:i], make(..)...)
  have hold : (Builtin.firstCells i0.size i (.slice (some ⟨g, 0, none⟩) i c)).run Tryz.prog w.drew = .ok ((accs l).take (i * 3)).toArray w.drew := by
    rw [hz1]
    refine run_firstCells_some w.drew 3 i ⟨g, 0, none⟩ i c _ (by simp [hxl]; omega) (fun j v hj => ?_)
    rw [List.getElem?_take] at hj
    split at hj
    · exact hcells j v hj
    · cases hj
  have hrz : ∀ ty, (Builtin.append_ #[76, 3] ty #[.slice (some ⟨g, 0, none⟩) i c, .int .i64 ((c + 1 - i : Nat) : Int)]).run Tryz.prog w = _ := fun ty =>
    Lib.run_append_grow_zeros w 76 3 ty 165 i0 _ .i64 .i64 Tryz.underlying76 Tryz.underlying3 hi0 hz0 (some ⟨g, 0, none⟩) i c _ hold (c + 1 - i) (by omega) (by omega) (by omega) (by omega) (by rw [hz2]; omega) (by rw [hz2, show i + (c + 1 - i) = c + 1 by omega]; exact growslice_fits (by omega) (by omega))
  rw [show i + (c + 1 - i) = c + 1 by omega] at hrz
  generalize hG : grownCap w (c + 1) c 165 = G at hrz
  have hGn : c + 1 ≤ G := by rw [← hG]; exact grownCap_ge w _ _ _
  have hG63 : G ≤ maxLen := by rw [← hG]; exact grownCap_le_maxLen w (c + 1) c _ (by unfold maxLen; omega)
  generalize hZ : (Builtin.zeroCells (Value.agg #[.int .i64 0, .int .i64 0, .bool false]).cells (c + 1 - i)) = Z at hrz
  have hZl : Z.size = (c + 1 - i) * 3 := by rw [← hZ, size_zeroCells]; rfl
  generalize hY : (Builtin.zeroCells (Value.agg #[.int .i64 0, .int .i64 0, .bool false]).cells (G - (c + 1))) = Y at hrz
  have hYl : Y.size = (G - (c + 1)) * 3 := by rw [← hY, size_zeroCells]; rfl
  have hown0 : (w.drew.alloc (.cells (((accs l).take (i * 3)).toArray ++ Z ++ Y) 165)).ownsRow B 165 3 (.slice (some ⟨w.heap.size, 0, none⟩) (c + 1) G) (c + 1) ((accs l).take (i * 3) ++ Z.toList) := by
    have hlen : ((accs l).take (i * 3) ++ Z.toList).length = (c + 1) * 3 := by simp [hxl, hZl]; omega
    refine ⟨hlen, .inr ⟨w.heap.size, G, _, rfl, hB, heap_new w.drew _, hGn, hG63, by simp [hxl, hZl, hYl]; omega, ?_⟩⟩
    rw [Array.toList_append, Array.toList_append, ← hlen]
    exact List.take_left
  generalize hW0 : w.drew.alloc (.cells (((accs l).take (i * 3)).toArray ++ Z ++ Y) 165) = W0 at hrz hown0
  have hk0 : ∀ k, k < w.heap.size → W0.heap[k]? = w.heap[k]? := fun k hk => by rw [← hW0]; exact Below.heap_alloc w.drew _ _ hk
  have hz0' : W0.heap.size = w.heap.size + 1 := by rw [← hW0]; simp
  have hinfo : (Tryz.prog.info? 165).map (·.size) = some 3 := by rw [hi0]; simp [hz1]
  have hvlt := lt_of_blk hvb
  have hglt := lt_of_blk hh
  -- copy(s2[i:], v)
  have hcp1 : ∀ ty dc, _ := fun ty dc => copy_own (P := Tryz.prog) (ty := ty) hown0 Tryz.underlying76 hinfo i 1 (c + 1 - i) dc 1 1 ⟨vb, 0, none⟩ a.cells (by simp only [Nat.min_def]; split <;> omega) rfl (by omega) (rd_atCh ((hk0 vb hvlt).trans hvb)) (cells_oneA a)
  have hown1 := (hcp1 0 0).2
  generalize hW1 : W0.setCells w.heap.size (i * 3) a.cells = W1 at hcp1 hown1
  have hk1 : ∀ k, k < w.heap.size → W1.heap[k]? = w.heap[k]? := fun k hk => by rw [← hW1, setCells_other _ _ _ _ (by omega)]; exact hk0 k hk
  -- copy(s2[i+1:], s[i:])
  have hsrc : ∀ j u, ((accs l).drop (i * 3))[j]? = some u → W1.cell? ((⟨g, i * 3, none⟩ : Addr).add j) = some u := by
    intro j u hu
    rw [List.getElem?_drop] at hu
    have := hcells _ u hu
    rw [Addr.add_lit] at this ⊢
    rw [Nat.zero_add] at this
    rw [← this]
    unfold World.cell?
    rw [hk1 g hglt]
  have hcp2 : ∀ ty dc sc, _ := fun ty dc sc => copy_own (P := Tryz.prog) (w := W1.drew) (ty := ty) hown1 Tryz.underlying76 hinfo (i + 1) (c - i) (c + 1 - (i + 1)) dc (c - i) sc ⟨g, i * 3, none⟩ ((accs l).drop (i * 3)) (by simp only [Nat.min_def]; split <;> omega) (by simp [hxl]; omega) (by omega) hsrc (fun u hu => accs_one l u (List.mem_of_mem_drop hu))
  have hown2 := (hcp2 0 0 0).2
  rw [ins_new hxl (by omega) (by simp [hZl]) rfl, ← accs_ins] at hown2
  generalize hW2 : W1.drew.setCells w.heap.size ((i + 1) * 3) ((accs l).drop (i * 3)) = W2 at hcp2 hown2
  have hkk : (c : Int) + 1 - (i : Int) = ((c + 1 - i : Nat) : Int) := by omega
  have HI : Hid (InsertedCh w B (.slice (some ⟨g, 0, none⟩) c c) (l.take i ++ a :: l.drop i) (.slice (some ⟨w.heap.size, 0, none⟩) (c + 1) G) W2) := by
    refine ⟨?_, ⟨?_, ?_, ?_, ?_, fun k hk _ => ?_⟩, .inr rfl⟩
    · rw [show (l.take i ++ a :: l.drop i).length = c + 1 by simp; omega]; exact hown2
    · rw [← hW2, (setCells_below (B := 0) (Nat.zero_le _) _ _ _).os, show W1.drew.os = W1.os from rfl, ← hW1, (setCells_below (B := 0) (Nat.zero_le _) _ _ _).os, ← hW0]; rfl
    · rw [← hW2, (setCells_below (B := 0) (Nat.zero_le _) _ _ _).tape, show W1.drew.tape = W1.tape from rfl, ← hW1, (setCells_below (B := 0) (Nat.zero_le _) _ _ _).tape, ← hW0]; rfl
    · rw [← hW2, (setCells_below (B := 0) (Nat.zero_le _) _ _ _).output, show W1.drew.output = W1.output from rfl, ← hW1, (setCells_below (B := 0) (Nat.zero_le _) _ _ _).output, ← hW0]; rfl
    · have h1 := (setCells_below (B := 0) (g := w.heap.size) (Nat.zero_le _) ((accs l).drop (i * 3)) W1.drew ((i + 1) * 3)).size
      have h2 := (setCells_below (B := 0) (g := w.heap.size) (Nat.zero_le _) a.cells W0 (i * 3)).size
      rw [hW2] at h1
      rw [hW1] at h2
      have h3 : W1.drew.heap.size = W1.heap.size := rfl
      omega
    · rw [← hW2, setCells_other _ _ _ _ (by omega)]
      exact hk1 k hk
  have HRZ := Lib.hid hrz; have HC1 := Lib.hid hcp1; have HC2 := Lib.hid hcp2
  have hG63' : G ≤ 9223372036854775807 := by unfold maxLen at hG63; omega
  clear hrz hcp1 hcp2 hown hown0 hown1 hown2 hcells hsrc hold hh hcs hcl hG hZ hZl hY hYl hz0 hz1 hz2 hi0 hinfo hxl hn hvb hk0 hk1 hz0' hW0 hW1 hW2 hG63 hcm hnc
  have hw1 : IntKind.i64.wrap ((i : Int) + 1) = (i : Int) + 1 := by rw [IntKind.wrap_i64]; omega
  have hb1 : (0 : Int) ≤ (i : Int) + 1 := by omega
  have htn : ((i : Int) + 1).toNat = i + 1 := by omega
  have hGi : ¬ (G = i) := by omega
  have hGim : ¬ (G = i + 1) := by omega
  have hci : ¬ (c = i) := by omega
  have hin : i ≤ c := by omega
  go_enter Tryz.func226, Tryz.ntmps226
  have hc1 := (HC1.out 3 (G - i)).1
  go_wp2_with (at_builtin; refine wpList_append_run2 rfl _ _ _ _ rfl _ _ _ _ rfl rfl (HRZ.out _) ?_)
  go_region_law (refine step_copy_run rfl _ _ _ _ rfl (.slice (some ⟨w.heap.size, (i + 1) * 3, none⟩) (c + 1 - (i + 1)) (G - (i + 1))) (.slice (some ⟨g, i * 3, none⟩) (c - i) (c - i)) _ _ (by simp [Act.eval, Act.put]) (by simp [Act.eval, Act.put]) (HC2.out _ _ _).1 ?_)
  go_wp2
  go_ret
  exact ⟨_, rfl, HI.out⟩
end Go.Proofs.YtjlokkjbdgcooaaGreat
