/-
  Several texts, one behind the other: what each holds stands ahead of it.
-/
import Derived.Test.YthjpknipnmagkaaGreatChartMath
import Derived.Test.YthjpknipnmagkaaGreatMany2

/-
  Contracts of cmp.Compare, slices.BinarySearchFunc over accounts by code, (*Chart).place.
-/
namespace Go.Proofs.YthjpknipnmagkaaGreat
open Go.RowKit

def cmpICh (a b : Int) : Int := if a < b then -1 else if b < a then 1 else 0

set_option maxRecDepth 100000 in
theorem isNaN_anyCh (a : Int) (w : World) : Calls Tryz.prog 196 #[.int .i64 a] w fun e w' => e = .returned (.bool false) ∧ w = w' := by
  have h : (a != a) = false := by simp
  go_enter Tryz.func196, Tryz.ntmps196
  go_wp2
  go_ret
  exact ⟨rfl, rfl⟩

set_option maxRecDepth 100000 in
theorem compare_anyCh (a b : Int) (w : World) : Calls Tryz.prog 158 #[.int .i64 a, .int .i64 b] w fun e w' => e = .returned (.int .i64 (cmpICh a b)) ∧ w = w' := by
  have hx : (a < b ∧ cmpICh a b = -1) ∨ (¬ a < b ∧ b < a ∧ cmpICh a b = 1) ∨ (¬ a < b ∧ ¬ b < a ∧ cmpICh a b = 0) := by
    unfold cmpICh
    by_cases h1 : a < b
    · exact .inl ⟨h1, by simp [h1]⟩
    · by_cases h2 : b < a
      · exact .inr (.inl ⟨h1, h2, by simp [h1, h2]⟩)
      · exact .inr (.inr ⟨h1, h2, by simp [h1, h2]⟩)
  rcases hx with ⟨h1, h3⟩ | ⟨h1, h2, h3⟩ | ⟨h1, h2, h3⟩
  all_goals
    rw [h3]
    clear h3
    go_enter Tryz.func158, Tryz.ntmps158
    go_wp2_with (go_at_call 196; refine (isNaN_anyCh _ _).mono ?_; rintro e w' ⟨rfl, rfl⟩)
    go_ret
    exact ⟨rfl, rfl⟩

set_option maxRecDepth 100000 in
theorem placeCmp_anyCh (a : Acc) (x : Int) (w : World) : Calls Tryz.prog 249 #[.agg #[.int .i64 a.code, .int .i64 a.kind, .bool a.ret], .int .i64 x] w fun e w' => e = .returned (.int .i64 (cmpICh a.code x)) ∧ Below w.heap.size w w' := by
  obtain ⟨c, k, r⟩ := a
  go_enter Tryz.func249, Tryz.ntmps249
  go_wp2_with (go_at_call 158; refine (compare_anyCh _ _ _).mono ?_; rintro e w' ⟨rfl, rfl⟩)
  go_ret
  exact ⟨rfl, (Below.refl _ _).alloc (Nat.le_refl _) _⟩

theorem cmpI_ltCh {a b : Int} : decide (cmpICh a b < 0) = decide (a < b) := by
  rw [Bool.eq_iff_iff]
  simp only [decide_eq_true_eq]
  unfold cmpICh
  split
  · constructor <;> intro <;> omega
  · split <;> constructor <;> intro <;> omega
theorem cmpI_eqCh {a b : Int} : (cmpICh a b == 0) = (a == b) := by
  rw [Bool.eq_iff_iff]
  simp only [beq_iff_eq]
  unfold cmpICh
  split
  · constructor <;> intro <;> omega
  · split <;> constructor <;> intro <;> omega

/-- At the head of the search: what lies before i is less, what lies from j on is not. -/
def SeekRelCh (w : World) (l : List Acc) (x : Int) (i j : Nat) (wr : World) : Prop :=
  i ≤ j ∧ j ≤ l.length ∧ (∀ (k : Nat) (a : Acc), k < i → l[k]? = some a → a.code < x) ∧ (∀ (k : Nat) (a : Acc), j ≤ k → l[k]? = some a → x ≤ a.code) ∧ Below w.heap.size w wr

set_option maxRecDepth 100000 in
set_option maxHeartbeats 1000000 in
theorem search_anyCh (l : List Acc) (x : Int) (A : Option Addr) (n c B : Nat) (w : World) (h : Rd w B 3 A n (accs l)) (hB : B ≤ w.heap.size) (hn : n ≤ 1000000) (hs : l.Pairwise fun a b => a.code < b.code) :
    Calls Tryz.prog 248 #[.slice A n c, .int .i64 x, .func (.func 249) #[] #[]] w fun e w' => e = .returned (.tuple #[.int .i64 (posn l x : Nat), .bool (findA l x).isSome]) ∧ Below w.heap.size w w' := by
  have HL := Lib.hid h.accs_len
  have HR := Lib.hid h
  have HS := Lib.hid hs
  clear h hs
  go_enter Tryz.func248, Tryz.ntmps248
  go_wp2_with fail
  go_loopw [9, 10] (fun iv jv wr => ∃ i j : Nat, iv = .int .i64 i ∧ jv = .int .i64 j ∧ SeekRelCh w l x i j wr) (fun iv jv _ => (intOf jv).toNat - (intOf iv).toNat)
  case atStart => exact ⟨0, n, rfl, rfl, Nat.zero_le _, by rw [HL.out]; exact Nat.le_refl _, (fun k a hk => by omega), (fun k a hk ha => by have := (List.getElem?_eq_some_iff.1 ha).1; have := HL.out; omega), Below.refl _ _⟩
  case round =>
    obtain ⟨i, j, rfl, rfl, hrel⟩ := hrel
    obtain ⟨hij, hjl, hlo, hhi, hbel⟩ := hrel
    have hjn : j ≤ n := by have := HL.out; omega
    have hzr := hbel.size
    have HRr := Lib.hid (HR.out.below (hbel.mono hB))
    have HLO := Lib.hid hlo; have HHI := Lib.hid hhi; have HB := Lib.hid hbel
    clear hlo hhi hbel hjl
    by_cases hlt : i < j
    · obtain ⟨m, hmd⟩ : ∃ m, m = (i + j) / 2 := ⟨_, rfl⟩
      have him : i ≤ m := by omega
      have hmj : m < j := by omega
      have hm : ((i : Int) + (j : Int)) / 2 = (m : Int) := by omega
      clear hmd
      obtain ⟨ad, a, rfl, hb1, hx, p1, p2, p3⟩ := HRr.out.acc (i := m) (by omega)
      have p2' := cell_behind p2 (by omega)
      have p3' := cell_behind p3 (by omega)
      have hmn : (m : Int) < (n : Int) := by omega
      have kc := placeCmp_anyCh a x wr
      have hlt2 := cmpI_ltCh (a := a.code) (b := x)
      have HX := Lib.hid hx
      clear p2 p3 hx
      generalize cmpICh a.code x = cv at *
      go_wp2_with fail
      refine kc.mono ?_
      rintro e w' ⟨rfl, hb2⟩
      have HB2 : Hid (Below w.heap.size w w') := HB.out.trans (hb2.mono hzr)
      clear hb2 kc p1 p2' p3'
      by_cases hc : a.code < x
      · have hd : cv < 0 := by simpa [hc] using hlt2
        clear hlt2
        go_wp2
        refine ⟨⟨m + 1, j, by go_num, rfl, by omega, by have := HL.out; omega, ?_, HHI.out, HB2.out⟩, by simp [intOf]; omega⟩
        intro k b hk hkb
        rcases Nat.lt_or_ge k m with h1 | h1
        · have := rise_ltCh HS.out h1 hkb HX.out; omega
        · obtain rfl : k = m := by omega
          rw [HX.out] at hkb
          injection hkb with hkb
          rw [← hkb]; exact hc
      · have hd : ¬ cv < 0 := by simpa [hc] using hlt2
        clear hlt2
        go_wp2
        refine ⟨⟨i, m, rfl, rfl, by omega, by have := HL.out; omega, HLO.out, ?_, HB2.out⟩, by simp [intOf]; omega⟩
        intro k b hk hkb
        have := rise_leCh HS.out hk HX.out hkb
        omega
    · obtain rfl : i = j := by omega
      have hpos : posn l x = i := posn_eq (by have := HL.out; omega) HLO.out fun a ha => HHI.out i a (Nat.le_refl _) ha
      have hfind := find_atCh HS.out x
      rw [hpos] at hfind
      have HF := Lib.hid hfind
      have HP := Lib.hid hpos
      clear hpos hfind
      by_cases hin : i < n
      · obtain ⟨ad, a, rfl, hb1, hx, p1, p2, p3⟩ := HRr.out.acc hin
        have p2' := cell_behind p2 (by omega)
        have p3' := cell_behind p3 (by omega)
        have hinI : (i : Int) < (n : Int) := by omega
        have kc := placeCmp_anyCh a x wr
        have hfs : (findA l x).isSome = (cmpICh a.code x == 0) := by
          rw [HF.out, hx, cmpI_eqCh]
          by_cases e : a.code = x <;> simp [e]
        have HFS := Lib.hid hfs
        clear p2 p3 hx hfs
        generalize cmpICh a.code x = cv at *
        go_wp2_with fail
        refine kc.mono ?_
        rintro e w' ⟨rfl, hb2⟩
        have HB2 : Hid (Below w.heap.size w w') := HB.out.trans (hb2.mono hzr)
        clear hb2 kc p1 p2' p3'
        go_wp2
        go_ret2
        exact ⟨by rw [HP.out, HFS.out]; rfl, HB2.out⟩
      · have hfs : (findA l x).isSome = false := by
          rw [HF.out, List.getElem?_eq_none (by have := HL.out; omega)]; rfl
        have HFS := Lib.hid hfs
        clear hfs
        go_wp2
        go_ret2
        exact ⟨by rw [HP.out, HFS.out]; rfl, HB.out⟩
end Go.Proofs.YthjpknipnmagkaaGreat

/-
  A chart in memory; (*Chart).place.
-/
namespace Go.Proofs.YthjpknipnmagkaaGreat
open Go.RowKit

/-- A chart: its variable, and its accounts in a row of its own. -/
structure ChartAt (w : World) (B c : Nat) (v : Value) (l : List Acc) : Prop where
  blk : w.heap[c]? = some (.cells #[v] 237 (0, 0))
  low : B ≤ c
  own : w.ownsRow B 158 3 v l.length (accs l)
  good : GoodA l
/-- The blocks of a chart. -/
def InChart (c : Nat) (v : Value) (k : Nat) : Prop := k = c ∨ v.ownBlock = some k
section
variable {w w' : World} {B c : Nat} {v : Value} {l : List Acc}
theorem ChartAt.cell (h : ChartAt w B c v l) : w.cell? ⟨c, 0, none⟩ = some v := by rw [cell_of h.blk]; rfl
theorem ChartAt.warm (h : ChartAt w B c v l) : w.frozen? ⟨c, 0, none⟩ = false := warm_of h.blk 0
theorem ChartAt.lt (h : ChartAt w B c v l) : c < w.heap.size := lt_of_blk h.blk
theorem ChartAt.kept (h : ChartAt w B c v l) (hk : ∀ k, k < w.heap.size → InChart c v k → w'.heap[k]? = w.heap[k]?) : ChartAt w' B c v l :=
  ⟨(hk c h.lt (.inl rfl)).trans h.blk, h.low, own_kept h.own fun k hk1 hk2 => hk k hk1 (.inr hk2), h.good⟩
theorem ChartAt.below (h : ChartAt w B c v l) (hb : Below w.heap.size w w') : ChartAt w' B c v l := h.kept fun k hk _ => hb.block k hk
theorem ChartAt.but {S : Nat → Prop} (h : ChartAt w B c v l) (hb : But S w w') (hs : ∀ k, InChart c v k → ¬ S k) : ChartAt w' B c v l := h.kept fun k hk hi => hb.block k hk (hs k hi)
theorem ChartAt.form (h : ChartAt w B c v l) : ∃ A cap, v = .slice A l.length cap := own_form h.own
theorem ChartAt.ge (h : ChartAt w B c v l) : ∀ k, InChart c v k → B ≤ k := by
  rintro k (rfl | hk)
  · exact h.low
  · exact own_ge h.own k hk
theorem ChartAt.ltB (h : ChartAt w B c v l) : ∀ k, InChart c v k → k < w.heap.size := by
  rintro k (rfl | hk)
  · exact h.lt
  · exact own_lt h.own k hk
theorem ChartAt.apart (h : ChartAt w B c v l) : v.ownBlock ≠ some c := own_ne h.own h.blk (by decide)
end

set_option maxRecDepth 100000 in
theorem place_anyCh (B c : Nat) (v : Value) (l : List Acc) (x : Int) (w : World) (h : ChartAt w B c v l) :
    Calls Tryz.prog 223 #[.pointer (some ⟨c, 0, none⟩), .int .i64 x] w fun e w' => e = .returned (.tuple #[.int .i64 (posn l x : Nat), .bool (findA l x).isSome]) ∧ Below w.heap.size w w' := by
  have hc := h.cell
  obtain ⟨A, cap, rfl⟩ := h.form
  have ks := search_anyCh l x A l.length cap _ w (rd_of_own h.own) (Nat.le_refl _) (by have := h.good.len; omega) h.good.1
  have HG := Lib.hid h
  clear h
  generalize (posn l x) = P at *
  generalize (findA l x).isSome = S at *
  go_enter Tryz.func223, Tryz.ntmps223
  go_wp2_with fail
  refine ks.mono ?_
  rintro e w' ⟨rfl, hb⟩
  go_wp2
  go_ret2
  exact ⟨rfl, hb⟩
end Go.Proofs.YthjpknipnmagkaaGreat
