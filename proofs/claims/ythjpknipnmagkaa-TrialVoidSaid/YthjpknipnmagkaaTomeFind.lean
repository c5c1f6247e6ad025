/-
  Contracts of cmp.Compare, slices.BinarySearchFunc over journals by their numbers, (*Book).place.
-/
import Derived.Test.YthjpknipnmagkaaMany4
import Derived.Test.YthjpknipnmagkaaQuietTail
namespace Go.Proofs.Ythjpknipnmagkaa
open Go.RowKit

def cmpI (a b : Int) : Int := if a < b then -1 else if b < a then 1 else 0

set_option maxRecDepth 100000 in
theorem isNaN_any (a : Int) (w : World) : Calls Try.prog 77 #[.int .i64 a] w fun e w' => e = .returned (.bool false) ∧ w = w' := by
  have h : (a != a) = false := by simp
  go_enter Try.func77, Try.ntmps77
  go_wp2
  go_ret
  exact ⟨rfl, rfl⟩

set_option maxRecDepth 100000 in
theorem compare_any (a b : Int) (w : World) : Calls Try.prog 51 #[.int .i64 a, .int .i64 b] w fun e w' => e = .returned (.int .i64 (cmpI a b)) ∧ w = w' := by
  have hx : (a < b ∧ cmpI a b = -1) ∨ (¬ a < b ∧ b < a ∧ cmpI a b = 1) ∨ (¬ a < b ∧ ¬ b < a ∧ cmpI a b = 0) := by
    unfold cmpI
    by_cases h1 : a < b
    · exact .inl ⟨h1, by simp [h1]⟩
    · by_cases h2 : b < a
      · exact .inr (.inl ⟨h1, h2, by simp [h1, h2]⟩)
      · exact .inr (.inr ⟨h1, h2, by simp [h1, h2]⟩)
  rcases hx with ⟨h1, h3⟩ | ⟨h1, h2, h3⟩ | ⟨h1, h2, h3⟩
  all_goals
    rw [h3]
    clear h3
    go_enter Try.func51, Try.ntmps51
    go_wp2_with (go_at_call 77; refine (isNaN_any _ _).mono ?_; rintro e w' ⟨rfl, rfl⟩)
    go_ret
    exact ⟨rfl, rfl⟩
theorem cmpI_lt (a b : Int) : decide (cmpI a b < 0) = decide (a < b) := by
  unfold cmpI
  rw [Bool.eq_iff_iff]
  simp only [decide_eq_true_eq]
  split
  · constructor <;> intro <;> omega
  · split <;> constructor <;> intro <;> omega
theorem cmpI_eq (a b : Int) : (cmpI a b == 0) = (a == b) := by
  unfold cmpI
  rw [Bool.eq_iff_iff]
  simp only [beq_iff_eq]
  split
  · constructor <;> intro <;> omega
  · split <;> constructor <;> intro <;> omega

set_option maxRecDepth 100000 in
theorem placeCmp_any (a : JR) (x : Int) (w : World) : Calls Try.prog 129 #[.agg #[.int .i64 a.j.id, .int .i64 a.j.ent, .int .i64 a.j.per, .string a.j.ref, .slice a.A a.j.lines.length a.c, .bool a.j.void], .int .i64 x] w fun e w' => e = .returned (.int .i64 (cmpI a.j.id x)) ∧ Below w.heap.size w w' := by
  obtain ⟨⟨id, ent, per, ref, L, void⟩, A, c⟩ := a
  dsimp only
  generalize L.length = n
  have kc : Hid (∀ w, Calls Try.prog 51 #[.int .i64 id, .int .i64 x] w fun e w' => e = .returned (.int .i64 (cmpI id x)) ∧ w = w') := fun w => compare_any id x w
  have HB : Hid (∀ o, Below w.heap.size w (w.alloc o)) := fun o => (Below.refl _ _).alloc (Nat.le_refl _) o
  generalize cmpI id x = cv at *
  go_enter Try.func129, Try.ntmps129
  go_wp2_with fail
  refine (kc.out _).mono ?_
  rintro e w1 ⟨rfl, rfl⟩
  go_wp2_with fail
  go_ret
  exact ⟨rfl, HB.out _⟩

/-- At the head of the search: what lies before i is less, what lies from j on is not. -/
def SeekRel (w : World) (l : List JR) (x : Int) (i j : Nat) (wr : World) : Prop :=
  i ≤ j ∧ j ≤ l.length ∧ (∀ (k : Nat) (a : JR), k < i → l[k]? = some a → JR.id a < x) ∧ (∀ (k : Nat) (a : JR), j ≤ k → l[k]? = some a → x ≤ JR.id a) ∧ Below w.heap.size w wr

set_option maxRecDepth 100000 in
set_option maxHeartbeats 1000000 in
theorem search_any (l : List JR) (x : Int) (A : Option Addr) (n c B : Nat) (w : World) (h : Rd w B 6 A n (jrs l)) (hB : B ≤ w.heap.size) (hn : n ≤ 1000000) (hg : Rise JR.id l) :
    Calls Try.prog 128 #[.slice A n c, .int .i64 x, .func (.func 129) #[] #[]] w fun e w' => e = .returned (.tuple #[.int .i64 (posK JR.id l x : Nat), .bool (findK JR.id l x).isSome]) ∧ Below w.heap.size w w' := by
  have HL := Lib.hid h.jrs_len
  have HR := Lib.hid h
  have HS := Lib.hid hg
  clear h hg
  go_enter Try.func128, Try.ntmps128
  go_wp2_with fail
  go_loopw [9, 10] (fun iv jv wr => ∃ i j : Nat, iv = .int .i64 i ∧ jv = .int .i64 j ∧ SeekRel w l x i j wr) (fun iv jv _ => (intOf jv).toNat - (intOf iv).toNat)
  case atStart => exact ⟨0, n, rfl, rfl, Nat.zero_le _, by rw [HL.out]; exact Nat.le_refl _, (fun k a hk => by omega), (fun k a hk ha => by have := (List.getElem?_eq_some_iff.1 ha).1; have := HL.out; omega), Below.refl _ _⟩
  case round =>
    obtain ⟨i, j, rfl, rfl, hrel⟩ := hrel
    obtain ⟨hij, hjl, hlo, hhi, hbel⟩ := hrel
    have hjn : j ≤ n := by have := HL.out; omega
    have hzr := hbel.size
    have HRr := Lib.hid (HR.out.far hbel hB)
    have HLO := Lib.hid hlo; have HHI := Lib.hid hhi; have HB := Lib.hid hbel
    clear hlo hhi hbel hjl
    by_cases hlt : i < j
    · obtain ⟨m, hmd⟩ : ∃ m, m = (i + j) / 2 := ⟨_, rfl⟩
      have him : i ≤ m := by omega
      have hmj : m < j := by omega
      have hm : ((i : Int) + (j : Int)) / 2 = (m : Int) := by omega
      clear hmd
      obtain ⟨ad, a, rfl, hb1, hx, p1, p2, p3, p4, p5, p6⟩ := HRr.out.jr (i := m) (by omega)
      have hmn : (m : Int) < (n : Int) := by omega
      have Q := Lib.hid (placeCmp_any a x wr)
      have hlt2 : decide (cmpI a.j.id x < 0) = decide (JR.id a < x) := cmpI_lt _ _
      have HX := Lib.hid hx
      clear hx
      generalize cmpI a.j.id x = cv at *
      go_wp2_with fail
      refine Q.out.mono ?_
      rintro e w' ⟨rfl, hb2⟩
      have HB2 : Hid (Below w.heap.size w w') := HB.out.trans (hb2.mono hzr)
      clear hb2 Q p1 p2 p3 p4 p5 p6
      by_cases hc : JR.id a < x
      · have hd : cv < 0 := by simpa [hc] using hlt2
        clear hlt2
        go_wp2
        refine ⟨⟨m + 1, j, by go_num, rfl, by omega, by have := HL.out; omega, ?_, HHI.out, HB2.out⟩, by simp [intOf]; omega⟩
        intro k b hk hkb
        rcases Nat.lt_or_ge k m with h1 | h1
        · have := HS.out.lt h1 hkb HX.out; omega
        · obtain rfl : k = m := by omega
          rw [HX.out] at hkb
          injection hkb with hkb
          rw [← hkb]; exact hc
      · have hd : ¬ cv < 0 := by simpa [hc] using hlt2
        clear hlt2
        go_wp2
        refine ⟨⟨i, m, rfl, rfl, by omega, by have := HL.out; omega, HLO.out, ?_, HB2.out⟩, by simp [intOf]; omega⟩
        intro k b hk hkb
        have := HS.out.le hk HX.out hkb
        omega
    · obtain rfl : i = j := by omega
      have hpos : posK JR.id l x = i := posK_eq (by have := HL.out; omega) HLO.out fun a ha => HHI.out i a (Nat.le_refl _) ha
      have hfind := findK_at HS.out x
      rw [hpos] at hfind
      have HF := Lib.hid hfind
      have HP := Lib.hid hpos
      clear hpos hfind
      by_cases hin : i < n
      · obtain ⟨ad, a, rfl, hb1, hx, p1, p2, p3, p4, p5, p6⟩ := HRr.out.jr hin
        have hinI : (i : Int) < (n : Int) := by omega
        have Q := Lib.hid (placeCmp_any a x wr)
        have hfs : (findK JR.id l x).isSome = (cmpI a.j.id x == 0) := by
          rw [HF.out, hx, cmpI_eq]
          by_cases e : a.j.id = x <;> simp [e, JR.id]
        have HFS := Lib.hid hfs
        clear hx hfs
        generalize cmpI a.j.id x = cv at *
        go_wp2_with fail
        refine Q.out.mono ?_
        rintro e w' ⟨rfl, hb2⟩
        have HB2 : Hid (Below w.heap.size w w') := HB.out.trans (hb2.mono hzr)
        clear hb2 Q p1 p2 p3 p4 p5 p6
        go_wp2
        go_ret2
        exact ⟨by rw [HP.out, HFS.out]; rfl, HB2.out⟩
      · have hfs : (findK JR.id l x).isSome = false := by
          rw [HF.out, List.getElem?_eq_none (by have := HL.out; omega)]; rfl
        have HFS := Lib.hid hfs
        clear hfs
        have hinI : ¬ (i : Int) < (n : Int) := by omega
        go_wp2_with fail
        go_ret2
        exact ⟨by rw [HP.out, HFS.out]; rfl, HB.out⟩

set_option maxRecDepth 100000 in
theorem place_any (B c : Nat) (v : Value) (l : List JR) (x : Int) (w : World) (h : TomeAt w B c v l) :
    Calls Try.prog 108 #[.pointer (some ⟨c, 0, none⟩), .int .i64 x] w fun e w' => e = .returned (.tuple #[.int .i64 (posK JR.id l x : Nat), .bool (findK JR.id l x).isSome]) ∧ Below w.heap.size w w' := by
  have hc := h.cell
  obtain ⟨A, cap, rfl⟩ := h.form
  have ks := search_any l x A l.length cap _ w (rd_of_own h.own) (Nat.le_refl _) (by have := h.len; omega) h.rise
  have HG := Lib.hid h
  clear h
  generalize (posK JR.id l x) = P at *
  generalize (findK JR.id l x).isSome = S at *
  go_enter Try.func108, Try.ntmps108
  go_wp2_with fail
  refine ks.mono ?_
  rintro e w' ⟨rfl, hb⟩
  go_wp2
  go_ret2
  exact ⟨rfl, hb⟩
set_option maxRecDepth 100000 in
theorem place_nil (x : Int) (w : World) : Calls Try.prog 108 #[.pointer none, .int .i64 x] w fun e w' => e = .returned (.tuple #[.int .i64 0, .bool false]) ∧ w = w' := by
  go_enter Try.func108, Try.ntmps108
  go_wp2
  go_ret2
  exact ⟨rfl, rfl⟩
end Go.Proofs.Ythjpknipnmagkaa

