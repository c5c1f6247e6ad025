/-
  Contracts of search.holds, claim.leavesRef, (*Book).holds of claims, refTaken, slices.IndexFunc, Ref.
-/
import Derived.Test.YthjpknipnmagkaaGreatMany12
namespace Go.Proofs.YthjpknipnmagkaaGreat
open Go.RowKit

set_option maxRecDepth 100000 in
set_option maxHeartbeats 400000 in
theorem searchHolds_any (s : ByteArray) (b : Jrn) (A : Option Addr) (n c : Nat) (w : World) :
    Calls Tryz.prog 256 #[.string s, b.val A n c] w fun e w' => e = .returned (.bool (holdsRef s b)) ∧ Below w.heap.size w w' := by
  obtain ⟨b1, b2, b3, b4, b5, b6⟩ := b
  unfold Jrn.val holdsRef
  dsimp only
  have HB : Hid (∀ o, Below w.heap.size w (w.alloc o)) := fun o => (Below.refl _ _).alloc (Nat.le_refl _) o
  cases t1 : (s.toList == [])
  · cases b6
    · cases t2 : (b4.toList == s.toList)
      all_goals
        go_enter Tryz.func256, Tryz.ntmps256
        go_wp2_with fail
        go_ret
        exact ⟨rfl, HB.out _⟩
    · go_enter Tryz.func256, Tryz.ntmps256
      go_wp2_with fail
      go_ret
      exact ⟨rfl, HB.out _⟩
  · go_enter Tryz.func256, Tryz.ntmps256
    go_wp2_with fail
    go_ret
    exact ⟨rfl, HB.out _⟩

set_option maxRecDepth 100000 in
set_option maxHeartbeats 400000 in
theorem leavesRef_any (a b : Jrn) (A1 A2 : Option Addr) (n1 n2 c1 c2 : Nat) (w : World) :
    Calls Tryz.prog 245 #[a.val A1 n1 c1, b.val A2 n2 c2] w fun e w' => e = .returned (.bool (leavesRef a b)) ∧ Below w.heap.size w w' := by
  have kh : Hid (∀ w, Calls Tryz.prog 256 #[.string a.ref, b.val A2 n2 c2] w fun e w' => e = .returned (.bool (holdsRef a.ref b)) ∧ Below w.heap.size w w') := fun w => searchHolds_any a.ref b A2 n2 c2 w
  unfold leavesRef
  generalize holdsRef a.ref b = z at *
  obtain ⟨a1, a2, a3, a4, a5, a6⟩ := a
  obtain ⟨b1, b2, b3, b4, b5, b6⟩ := b
  unfold Jrn.val at *
  dsimp only at *
  have HB : Hid (∀ o1 o2, Below w.heap.size w ((w.alloc o1).alloc o2)) := fun o1 o2 => ((Below.refl _ _).alloc (Nat.le_refl _) o1).alloc (by simp) o2
  cases a6
  · cases t1 : (b1 == a1)
    · cases t2 : (b2 == a2)
      · have t3 : (b2 != a2) = true := by simpa using t2
        go_enter Tryz.func245, Tryz.ntmps245
        go_wp2_with fail
        go_ret
        exact ⟨rfl, HB.out _ _⟩
      · have t3 : (b2 != a2) = false := by simpa using t2
        go_enter Tryz.func245, Tryz.ntmps245
        go_wp2_with fail
        refine (kh.out _).mono ?_
        rintro e w1 ⟨rfl, hb⟩
        have HB2 := Lib.hid ((HB.out _ _).trans (hb.mono (HB.out _ _).size))
        clear hb
        go_wp2_with fail
        go_ret
        exact ⟨by simp, HB2.out⟩
    · go_enter Tryz.func245, Tryz.ntmps245
      go_wp2_with fail
      go_ret
      exact ⟨rfl, HB.out _ _⟩
  · go_enter Tryz.func245, Tryz.ntmps245
    go_wp2_with fail
    go_ret
    exact ⟨rfl, HB.out _ _⟩
theorem all_maps {f : Jrn → Bool} (l : List JR) : (l.map JR.j).all f = l.all fun a => f a.j := by rw [List.all_map]; rfl

set_option maxRecDepth 100000 in
set_option maxHeartbeats 1000000 in
theorem holds_any (F : FuncId) (hFF : F = 245 ∨ F = 245) (r : Value) (ask : JR → Bool) (B c : Nat) (v : Value) (l : List JR) (w : World) (h : TomeAt w B c v l)
    (hF : ∀ a w1, a ∈ l → Below w.heap.size w w1 → Calls Tryz.prog F #[r, .agg #[.int .i64 a.j.id, .int .i64 a.j.ent, .int .i64 a.j.per, .string a.j.ref, .slice a.A a.j.lines.length a.c, .bool a.j.void]] w1 fun e w' => e = .returned (.bool (ask a)) ∧ Below w1.heap.size w1 w') :
    Calls Tryz.prog 244 #[.pointer (some ⟨c, 0, none⟩), .func (.func F) #[r] #[]] w fun e w' => e = .returned (.bool (l.all ask)) ∧ Below w.heap.size w w' := by
  have hc := h.cell
  obtain ⟨A, cap, rfl⟩ := h.form
  have HR := Lib.hid (rd_of_own h.own)
  have hlen := h.len
  have KF := Lib.hid hF
  clear h hF
  obtain ⟨n, hn⟩ : ∃ n, n = l.length := ⟨_, rfl⟩
  rw [← hn] at HR hc hlen
  have HN := Lib.hid hn
  clear hn
  rcases hFF with rfl | rfl
  all_goals
    go_enter Tryz.func244, Tryz.ntmps244
    go_wp2_with fail
    go_loopw [14, 6] (fun iv _ wr => ∃ k : Nat, k ≤ n ∧ iv = .int .i64 k ∧ Hid ((l.take k).all ask = true) ∧ Below w.heap.size w wr) (fun iv _ _ => n - (intOf iv).toNat)
    case atStart => exact ⟨0, Nat.zero_le _, rfl, rfl, Below.refl _ _⟩
    case round =>
      obtain ⟨k, hk, rfl, hf, hbel⟩ := hrel
      have hzr := hbel.size
      by_cases hlt : k < n
      · obtain ⟨ad, a, rfl, hb1, hx, p1, p2, p3, p4, p5, p6⟩ := (HR.out.far hbel (Nat.le_refl _)).jr hlt
        have hkn : (k : Int) < (n : Int) := by omega
        have HB : Hid (∀ o, Below w.heap.size w (wr.alloc o)) := fun o => hbel.alloc hzr o
        have KA := Lib.hid (fun o => KF.out a _ (List.mem_of_getElem? hx) (HB.out o))
        have HY : Hid (ask a = true → (l.take (k + 1)).all ask = true) := fun h => all_step hf.out hx h
        have HNO : Hid (ask a = false → l.all ask = false) := fun h => all_no hx h
        have hblt : ad.block < wr.heap.size := by omega
        clear hx hbel hf KF
        generalize a.j.lines.length = m at *
        obtain ⟨⟨id, ent, per, ref, L, void⟩, A2, c2⟩ := a
        dsimp only at *
        generalize ask _ = z at *
        cases z
        · go_wp2_with fail
          refine (KA.out _).mono ?_
          rintro e w1 ⟨rfl, hb⟩
          have HB1 := Lib.hid ((HB.out _).trans (hb.mono (HB.out _).size))
          clear hb p1 p2 p3 p4 p5 p6
          go_wp2_with fail
          go_ret
          exact ⟨ret_bool (HNO.out (by first | rfl | trivial)).symm, HB1.out⟩
        · go_wp2_with fail
          refine (KA.out _).mono ?_
          rintro e w1 ⟨rfl, hb⟩
          have HB1 := Lib.hid ((HB.out _).trans (hb.mono (HB.out _).size))
          clear hb p1 p2 p3 p4 p5 p6
          go_wp2_with fail
          exact ⟨⟨k + 1, by omega, by go_num, HY.out (by first | rfl | trivial), HB1.out⟩, by simp [intOf]; omega⟩
      · have HE : Hid (l.all ask = true) := all_end hf.out (by have := HN.out; omega)
        have HB := Lib.hid hbel
        clear hbel hf
        go_wp2_with fail
        go_ret
        exact ⟨ret_bool HE.out.symm, HB.out⟩

set_option maxRecDepth 100000 in
set_option maxHeartbeats 1000000 in
theorem refTaken_any (B c : Nat) (v : Value) (l : List JR) (j : Jrn) (A : Option Addr) (n cap : Nat) (w : World) (h : TomeAt w B c v l) :
    Calls Tryz.prog 220 #[.pointer (some ⟨c, 0, none⟩), j.val A n cap] w fun e w' => e = .returned (.bool (takenJ (l.map JR.j) j)) ∧ Below w.heap.size w w' := by
  have HB : Hid (∀ o, Below w.heap.size w (w.alloc o)) := fun o => (Below.refl _ _).alloc (Nat.le_refl _) o
  have kh : Hid (∀ o, Calls Tryz.prog 244 #[.pointer (some ⟨c, 0, none⟩), .func (.func 245) #[j.val A n cap] #[]] (w.alloc o) fun e w' => e = .returned (.bool (l.all fun a => leavesRef j a.j)) ∧ Below (w.alloc o).heap.size (w.alloc o) w') := fun o =>
    holds_any _ (.inl rfl) _ (fun a => leavesRef j a.j) B c v l _ (h.below (HB.out o)) fun a w1 _ _ => leavesRef_any j a.j A a.A n a.j.lines.length cap a.c w1
  unfold takenJ
  rw [all_maps]
  have hclt := h.lt
  clear h
  generalize (l.all fun a => leavesRef j a.j) = z at *
  obtain ⟨a1, a2, a3, a4, a5, a6⟩ := j
  unfold Jrn.val at *
  dsimp only at *
  go_enter Tryz.func220, Tryz.ntmps220
  go_wp2_with fail
  refine (kh.out _).mono ?_
  rintro e w1 ⟨rfl, hb⟩
  have HB2 := Lib.hid ((HB.out _).trans (hb.mono (HB.out _).size))
  clear hb
  go_wp2_with fail
  go_ret
  exact ⟨rfl, HB2.out⟩

def idxV : Option Nat → Int
  | none => -1
  | some k => k
set_option maxRecDepth 100000 in
set_option maxHeartbeats 1000000 in
theorem indexFunc_any (s : ByteArray) (l : List JR) (A : Option Addr) (n c B : Nat) (w : World) (h : Rd w B 6 A n (jrs l)) (hB : B ≤ w.heap.size) (hn : n ≤ 1000000) :
    Calls Tryz.prog 133 #[.slice A n c, .func (.func 256) #[.string s] #[]] w fun e w' => e = .returned (.int .i64 (idxV (l.findIdx? fun a => holdsRef s a.j))) ∧ Below w.heap.size w w' := by
  have HL := Lib.hid h.jrs_len
  have HR := Lib.hid h
  clear h
  go_enter Tryz.func133, Tryz.ntmps133
  go_wp2_with fail
  go_loopw [8, 5] (fun iv _ wr => ∃ k : Nat, k ≤ n ∧ iv = .int .i64 k ∧ Hid (∀ i a, i < k → l[i]? = some a → holdsRef s a.j = false) ∧ Below w.heap.size w wr) (fun iv _ _ => n - (intOf iv).toNat)
  case atStart => exact ⟨0, Nat.zero_le _, rfl, fun i a hi => by omega, Below.refl _ _⟩
  case round =>
    obtain ⟨k, hk, rfl, hf, hbel⟩ := hrel
    have hzr := hbel.size
    by_cases hlt : k < n
    · obtain ⟨ad, a, rfl, hb1, hx, p1, p2, p3, p4, p5, p6⟩ := (HR.out.far hbel hB).jr hlt
      have hkn : (k : Int) < (n : Int) := by omega
      have KA := Lib.hid (searchHolds_any s a.j a.A a.j.lines.length a.c wr)
      have HY : Hid (holdsRef s a.j = false → ∀ i b, i < k + 1 → l[i]? = some b → holdsRef s b.j = false) := by
        intro h0 i b hi hb
        rcases Nat.lt_or_ge i k with h1 | h1
        · exact hf.out i b h1 hb
        · obtain rfl : i = k := by omega
          rw [hx] at hb
          injection hb with hb
          rw [← hb]; exact h0
      have HIT : Hid (holdsRef s a.j = true → l.findIdx? (fun a => holdsRef s a.j) = some k) := by
        intro h0
        rw [List.findIdx?_eq_some_iff_getElem]
        obtain ⟨h1, h2⟩ := List.getElem?_eq_some_iff.1 hx
        refine ⟨h1, by rw [h2]; exact h0, fun i hi => ?_⟩
        simpa using hf.out i _ hi (List.getElem?_eq_getElem (by omega))
      have HB := Lib.hid hbel
      clear hx hbel hf
      unfold Jrn.val at KA
      generalize holdsRef s a.j = z at *
      generalize a.j.lines.length = m at *
      obtain ⟨⟨id, ent, per, ref, L, void⟩, A2, c2⟩ := a
      dsimp only at *
      cases z
      · go_wp2_with fail
        refine KA.out.mono ?_
        rintro e w1 ⟨rfl, hb⟩
        have HB1 := Lib.hid (HB.out.trans (hb.mono HB.out.size))
        clear hb p1 p2 p3 p4 p5 p6
        go_wp2_with fail
        exact ⟨⟨k + 1, by omega, by go_num, HY.out (by first | rfl | trivial), HB1.out⟩, by simp [intOf]; omega⟩
      · go_wp2_with fail
        refine KA.out.mono ?_
        rintro e w1 ⟨rfl, hb⟩
        have HB1 := Lib.hid (HB.out.trans (hb.mono HB.out.size))
        clear hb p1 p2 p3 p4 p5 p6
        go_wp2_with fail
        go_ret
        exact ⟨ret_int (by rw [HIT.out (by first | rfl | trivial)]; rfl), HB1.out⟩
    · have HE : Hid (l.findIdx? (fun a => holdsRef s a.j) = none) := by
        unfold Hid
        rw [List.findIdx?_eq_none_iff]
        intro a ha
        obtain ⟨i, hi⟩ := List.mem_iff_getElem?.1 ha
        exact hf.out i a (by have := (List.getElem?_eq_some_iff.1 hi).1; have := HL.out; omega) hi
      have HB := Lib.hid hbel
      clear hbel hf
      go_wp2_with fail
      go_ret
      exact ⟨ret_int (by rw [HE.out]; rfl), HB.out⟩
theorem refJ_none {l : List JR} {s : ByteArray} (h : l.findIdx? (fun a => holdsRef s a.j) = none) : refJ (l.map JR.j) s = 0 := by
  unfold refJ
  rw [List.find?_map]
  rw [List.findIdx?_eq_none_iff] at h
  rw [List.find?_eq_none.2 fun a ha => by simpa using h a ha]
  rfl
theorem refJ_some {l : List JR} {s : ByteArray} {k : Nat} (h : l.findIdx? (fun a => holdsRef s a.j) = some k) : ∃ a, l[k]? = some a ∧ refJ (l.map JR.j) s = a.j.id := by
  obtain ⟨h1, h2, h3⟩ := List.findIdx?_eq_some_iff_getElem.1 h
  refine ⟨_, List.getElem?_eq_getElem h1, ?_⟩
  unfold refJ
  rw [List.find?_map]
  have : l.find? (holdsRef s ∘ JR.j) = some l[k] := by
    rw [List.find?_eq_some_iff_getElem]
    exact ⟨h2, k, h1, rfl, fun i hi => by simpa using h3 i hi⟩
  rw [this]
  rfl
end Go.Proofs.YthjpknipnmagkaaGreat

