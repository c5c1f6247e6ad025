/-
  Several texts, one behind the other: what each holds stands ahead of it.
-/
import Derived.Test.YtjlokkjbdgcooaaGreatMany28
import Derived.Test.YtjlokkjbdgcooaaGreatMany14
import Derived.Test.YtjlokkjbdgcooaaGreatMany27

/-
  Contracts of search.holds, claim.leavesRef, (*Book).holds of claims, refTaken, slices.IndexFunc, Ref.
-/
namespace Go.Proofs.YtjlokkjbdgcooaaGreat
open Go.RowKit

set_option maxRecDepth 100000 in
set_option maxHeartbeats 400000 in
theorem searchHolds_any (s : ByteArray) (b : Jrn) (A : Option Addr) (n c : Nat) (w : World) :
    Calls Tryz.prog 259 #[.string s, b.val A n c] w fun e w' => e = .returned (.bool (holdsRef s b)) ∧ Below w.heap.size w w' := by
  obtain ⟨b1, b2, b3, b4, b5, b6⟩ := b
  unfold Jrn.val holdsRef
  dsimp only
  have HB : Hid (∀ o, Below w.heap.size w (w.alloc o)) := fun o => (Below.refl _ _).alloc (Nat.le_refl _) o
  cases t1 : (s.toList == [])
  · cases b6
    · cases t2 : (b4.toList == s.toList)
      all_goals
        go_enter Tryz.func259, Tryz.ntmps259
        go_wp2_with fail
        go_ret
        exact ⟨rfl, HB.out _⟩
    · go_enter Tryz.func259, Tryz.ntmps259
      go_wp2_with fail
      go_ret
      exact ⟨rfl, HB.out _⟩
  · go_enter Tryz.func259, Tryz.ntmps259
    go_wp2_with fail
    go_ret
    exact ⟨rfl, HB.out _⟩

set_option maxRecDepth 100000 in
set_option maxHeartbeats 400000 in
theorem leavesRef_any (a b : Jrn) (A1 A2 : Option Addr) (n1 n2 c1 c2 : Nat) (w : World) :
    Calls Tryz.prog 245 #[a.val A1 n1 c1, b.val A2 n2 c2] w fun e w' => e = .returned (.bool (leavesRef a b)) ∧ Below w.heap.size w w' := by
  have kh : Hid (∀ w, Calls Tryz.prog 259 #[.string a.ref, b.val A2 n2 c2] w fun e w' => e = .returned (.bool (holdsRef a.ref b)) ∧ Below w.heap.size w w') := fun w => searchHolds_any a.ref b A2 n2 c2 w
  unfold leavesRef
  generalize holdsRef a.ref b = z at *
  obtain ⟨a1, a2, a3, a4, a5, a6⟩ := a
  obtain ⟨b1, b2, b3, b4, b5, b6⟩ := b
  unfold Jrn.val at *
  dsimp only at *
  have HB : Hid (∀ o1 o2, Below w.heap.size w ((w.alloc o1).alloc o2)) := fun o1 o2 => ((Below.refl _ _).alloc (Nat.le_refl _) o1).alloc (by simp) o2
  cases a6
  · cases t1 : (b1 == a1)
    · cases t2 : (b2 == a2)
      · have t3 : (b2 != a2) = true := by simpa using t2
        go_enter Tryz.func245, Tryz.ntmps245
        go_wp2_with fail
        go_ret
        exact ⟨rfl, HB.out _ _⟩
      · have t3 : (b2 != a2) = false := by simpa using t2
        go_enter Tryz.func245, Tryz.ntmps245
        go_wp2_with fail
        refine (kh.out _).mono ?_
        rintro e w1 ⟨rfl, hb⟩
        have HB2 := Lib.hid ((HB.out _ _).trans (hb.mono (HB.out _ _).size))
        clear hb
        go_wp2_with fail
        go_ret
        exact ⟨by simp, HB2.out⟩
    · go_enter Tryz.func245, Tryz.ntmps245
      go_wp2_with fail
      go_ret
      exact ⟨rfl, HB.out _ _⟩
  · go_enter Tryz.func245, Tryz.ntmps245
    go_wp2_with fail
    go_ret
    exact ⟨rfl, HB.out _ _⟩
theorem all_maps {f : Jrn → Bool} (l : List JR) : (l.map JR.j).all f = l.all fun a => f a.j := by rw [List.all_map]; rfl

set_option maxRecDepth 100000 in
set_option maxHeartbeats 1000000 in
theorem holds_any (F : FuncId) (hFF : F = 245 ∨ F = 245) (r : Value) (ask : JR → Bool) (B c : Nat) (v : Value) (l : List JR) (w : World) (h : TomeAt w B c v l)
    (hF : ∀ a w1, a ∈ l → Below w.heap.size w w1 → Calls Tryz.prog F #[r, .agg #[.int .i64 a.j.id, .int .i64 a.j.ent, .int .i64 a.j.per, .string a.j.ref, .slice a.A a.j.lines.length a.c, .bool a.j.void]] w1 fun e w' => e = .returned (.bool (ask a)) ∧ Below w1.heap.size w1 w') :
    Calls Tryz.prog 244 #[.pointer (some ⟨c, 0, none⟩), .func (.func F) #[r] #[]] w fun e w' => e = .returned (.bool (l.all ask)) ∧ Below w.heap.size w w' := by
  have hc := h.cell
  obtain ⟨A, cap, rfl⟩ := h.form
  have HR := Lib.hid (rd_of_own h.own)
  have hlen := h.len
  have KF := Lib.hid hF
  clear h hF
  obtain ⟨n, hn⟩ : ∃ n, n = l.length := ⟨_, rfl⟩
  rw [← hn] at HR hc hlen
  have HN := Lib.hid hn
  clear hn
  rcases hFF with rfl | rfl
  all_goals
    go_enter Tryz.func244, Tryz.ntmps244
    go_wp2_with fail
    go_loopw [14, 6] (fun iv _ wr => ∃ k : Nat, k ≤ n ∧ iv = .int .i64 k ∧ Hid ((l.take k).all ask = true) ∧ Below w.heap.size w wr) (fun iv _ _ => n - (intOf iv).toNat)
    case atStart => exact ⟨0, Nat.zero_le _, rfl, rfl, Below.refl _ _⟩
    case round =>
      obtain ⟨k, hk, rfl, hf, hbel⟩ := hrel
      have hzr := hbel.size
      by_cases hlt : k < n
      · obtain ⟨ad, a, rfl, hb1, hx, p1, p2, p3, p4, p5, p6⟩ := (HR.out.far hbel (Nat.le_refl _)).jr hlt
        have hkn : (k : Int) < (n : Int) := by omega
        have HB : Hid (∀ o, Below w.heap.size w (wr.alloc o)) := fun o => hbel.alloc hzr o
        have KA := Lib.hid (fun o => KF.out a _ (List.mem_of_getElem? hx) (HB.out o))
        have HY : Hid (ask a = true → (l.take (k + 1)).all ask = true) := fun h => all_step hf.out hx h
        have HNO : Hid (ask a = false → l.all ask = false) := fun h => all_no hx h
        have hblt : ad.block < wr.heap.size := by omega
        clear hx hbel hf KF
        generalize a.j.lines.length = m at *
        obtain ⟨⟨id, ent, per, ref, L, void⟩, A2, c2⟩ := a
        dsimp only at *
        generalize ask _ = z at *
        cases z
        · go_wp2_with fail
          refine (KA.out _).mono ?_
          rintro e w1 ⟨rfl, hb⟩
          have HB1 := Lib.hid ((HB.out _).trans (hb.mono (HB.out _).size))
          clear hb p1 p2 p3 p4 p5 p6
          go_wp2_with fail
          go_ret
          exact ⟨ret_bool (HNO.out (by first | rfl | trivial)).symm, HB1.out⟩
        · go_wp2_with fail
          refine (KA.out _).mono ?_
          rintro e w1 ⟨rfl, hb⟩
          have HB1 := Lib.hid ((HB.out _).trans (hb.mono (HB.out _).size))
          clear hb p1 p2 p3 p4 p5 p6
          go_wp2_with fail
          exact ⟨⟨k + 1, by omega, by go_num, HY.out (by first | rfl | trivial), HB1.out⟩, by simp [intOf]; omega⟩
      · have HE : Hid (l.all ask = true) := all_end hf.out (by have := HN.out; omega)
        have HB := Lib.hid hbel
        clear hbel hf
        go_wp2_with fail
        go_ret
        exact ⟨ret_bool HE.out.symm, HB.out⟩

set_option maxRecDepth 100000 in
set_option maxHeartbeats 1000000 in
theorem refTaken_any (B c : Nat) (v : Value) (l : List JR) (j : Jrn) (A : Option Addr) (n cap : Nat) (w : World) (h : TomeAt w B c v l) :
    Calls Tryz.prog 222 #[.pointer (some ⟨c, 0, none⟩), j.val A n cap] w fun e w' => e = .returned (.bool (takenJ (l.map JR.j) j)) ∧ Below w.heap.size w w' := by
  have HB : Hid (∀ o, Below w.heap.size w (w.alloc o)) := fun o => (Below.refl _ _).alloc (Nat.le_refl _) o
  have kh : Hid (∀ o, Calls Tryz.prog 244 #[.pointer (some ⟨c, 0, none⟩), .func (.func 245) #[j.val A n cap] #[]] (w.alloc o) fun e w' => e = .returned (.bool (l.all fun a => leavesRef j a.j)) ∧ Below (w.alloc o).heap.size (w.alloc o) w') := fun o =>
    holds_any _ (.inl rfl) _ (fun a => leavesRef j a.j) B c v l _ (h.below (HB.out o)) fun a w1 _ _ => leavesRef_any j a.j A a.A n a.j.lines.length cap a.c w1
  unfold takenJ
  rw [all_maps]
  have hclt := h.lt
  clear h
  generalize (l.all fun a => leavesRef j a.j) = z at *
  obtain ⟨a1, a2, a3, a4, a5, a6⟩ := j
  unfold Jrn.val at *
  dsimp only at *
  go_enter Tryz.func222, Tryz.ntmps222
  go_wp2_with fail
  refine (kh.out _).mono ?_
  rintro e w1 ⟨rfl, hb⟩
  have HB2 := Lib.hid ((HB.out _).trans (hb.mono (HB.out _).size))
  clear hb
  go_wp2_with fail
  go_ret
  exact ⟨rfl, HB2.out⟩

def idxV : Option Nat → Int
  | none => -1
  | some k => k
set_option maxRecDepth 100000 in
set_option maxHeartbeats 1000000 in
theorem indexFunc_any (s : ByteArray) (l : List JR) (A : Option Addr) (n c B : Nat) (w : World) (h : Rd w B 6 A n (jrs l)) (hB : B ≤ w.heap.size) (hn : n ≤ 1000000) :
    Calls Tryz.prog 137 #[.slice A n c, .func (.func 259) #[.string s] #[]] w fun e w' => e = .returned (.int .i64 (idxV (l.findIdx? fun a => holdsRef s a.j))) ∧ Below w.heap.size w w' := by
  have HL := Lib.hid h.jrs_len
  have HR := Lib.hid h
  clear h
  go_enter Tryz.func137, Tryz.ntmps137
  go_wp2_with fail
  go_loopw [8, 5] (fun iv _ wr => ∃ k : Nat, k ≤ n ∧ iv = .int .i64 k ∧ Hid (∀ i a, i < k → l[i]? = some a → holdsRef s a.j = false) ∧ Below w.heap.size w wr) (fun iv _ _ => n - (intOf iv).toNat)
  case atStart => exact ⟨0, Nat.zero_le _, rfl, fun i a hi => by omega, Below.refl _ _⟩
  case round =>
    obtain ⟨k, hk, rfl, hf, hbel⟩ := hrel
    have hzr := hbel.size
    by_cases hlt : k < n
    · obtain ⟨ad, a, rfl, hb1, hx, p1, p2, p3, p4, p5, p6⟩ := (HR.out.far hbel hB).jr hlt
      have hkn : (k : Int) < (n : Int) := by omega
      have KA := Lib.hid (searchHolds_any s a.j a.A a.j.lines.length a.c wr)
      have HY : Hid (holdsRef s a.j = false → ∀ i b, i < k + 1 → l[i]? = some b → holdsRef s b.j = false) := by
        intro h0 i b hi hb
        rcases Nat.lt_or_ge i k with h1 | h1
        · exact hf.out i b h1 hb
        · obtain rfl : i = k := by omega
          rw [hx] at hb
          injection hb with hb
          rw [← hb]; exact h0
      have HIT : Hid (holdsRef s a.j = true → l.findIdx? (fun a => holdsRef s a.j) = some k) := by
        intro h0
        rw [List.findIdx?_eq_some_iff_getElem]
        obtain ⟨h1, h2⟩ := List.getElem?_eq_some_iff.1 hx
        refine ⟨h1, by rw [h2]; exact h0, fun i hi => ?_⟩
        simpa using hf.out i _ hi (List.getElem?_eq_getElem (by omega))
      have HB := Lib.hid hbel
      clear hx hbel hf
      unfold Jrn.val at KA
      generalize holdsRef s a.j = z at *
      generalize a.j.lines.length = m at *
      obtain ⟨⟨id, ent, per, ref, L, void⟩, A2, c2⟩ := a
      dsimp only at *
      cases z
      · go_wp2_with fail
        refine KA.out.mono ?_
        rintro e w1 ⟨rfl, hb⟩
        have HB1 := Lib.hid (HB.out.trans (hb.mono HB.out.size))
        clear hb p1 p2 p3 p4 p5 p6
        go_wp2_with fail
        exact ⟨⟨k + 1, by omega, by go_num, HY.out (by first | rfl | trivial), HB1.out⟩, by simp [intOf]; omega⟩
      · go_wp2_with fail
        refine KA.out.mono ?_
        rintro e w1 ⟨rfl, hb⟩
        have HB1 := Lib.hid (HB.out.trans (hb.mono HB.out.size))
        clear hb p1 p2 p3 p4 p5 p6
        go_wp2_with fail
        go_ret
        exact ⟨ret_int (by rw [HIT.out (by first | rfl | trivial)]; rfl), HB1.out⟩
    · have HE : Hid (l.findIdx? (fun a => holdsRef s a.j) = none) := by
        unfold Hid
        rw [List.findIdx?_eq_none_iff]
        intro a ha
        obtain ⟨i, hi⟩ := List.mem_iff_getElem?.1 ha
        exact hf.out i a (by have := (List.getElem?_eq_some_iff.1 hi).1; have := HL.out; omega) hi
      have HB := Lib.hid hbel
      clear hbel hf
      go_wp2_with fail
      go_ret
      exact ⟨ret_int (by rw [HE.out]; rfl), HB.out⟩
theorem refJ_none {l : List JR} {s : ByteArray} (h : l.findIdx? (fun a => holdsRef s a.j) = none) : refJ (l.map JR.j) s = 0 := by
  unfold refJ
  rw [List.find?_map]
  rw [List.findIdx?_eq_none_iff] at h
  rw [List.find?_eq_none.2 fun a ha => by simpa using h a ha]
  rfl
theorem refJ_some {l : List JR} {s : ByteArray} {k : Nat} (h : l.findIdx? (fun a => holdsRef s a.j) = some k) : ∃ a, l[k]? = some a ∧ refJ (l.map JR.j) s = a.j.id := by
  obtain ⟨h1, h2, h3⟩ := List.findIdx?_eq_some_iff_getElem.1 h
  refine ⟨_, List.getElem?_eq_getElem h1, ?_⟩
  unfold refJ
  rw [List.find?_map]
  have : l.find? (holdsRef s ∘ JR.j) = some l[k] := by
    rw [List.find?_eq_some_iff_getElem]
    exact ⟨h2, k, h1, rfl, fun i hi => by simpa using h3 i hi⟩
  rw [this]
  rfl
end Go.Proofs.YtjlokkjbdgcooaaGreat

/-
  Contract of slices.Insert over journals, of one element.
-/
namespace Go.Proofs.YtjlokkjbdgcooaaGreat
open Go.RowKit

theorem rd_at {w : World} {b : Nat} {cs : List Value} {T : TypeId} (h : w.heap[b]? = some (.cells cs.toArray T (0, 0))) : ∀ j u, cs[j]? = some u → w.cell? ((⟨b, 0, none⟩ : Addr).add j) = some u := by
  intro j u hu
  rw [Addr.add_lit, Nat.zero_add, cell_of h]
  simpa using hu

/-- What comes of an insertion. -/
def Inserted (w : World) (B : Nat) (v : Value) (l : List JR) (v' : Value) (w' : World) : Prop :=
  w'.ownsRow B 111 6 v' l.length (jrs l) ∧ But (fun k => v.ownBlock = some k) w w' ∧ (v'.ownBlock = v.ownBlock ∨ v'.ownBlock = some w.heap.size)

set_option maxRecDepth 100000 in
set_option maxHeartbeats 1000000 in
theorem insert_end (l : List JR) (a : JR) (B vb n c : Nat) (A : Option Addr) (w : World) (hn : l.length = n) (hown : w.ownsRow B 111 6 (.slice A n c) n (jrs l)) (hvb : w.heap[vb]? = some (.cells a.cells.toArray 111 (0, 0))) (hn2 : n ≤ 1000000) (hB : B ≤ w.heap.size) :
    Calls Tryz.prog 223 #[.slice A n c, .int .i64 n, .slice (some ⟨vb, 0, none⟩) 1 1] w fun e w' => ∃ v', e = .returned v' ∧ Inserted w B (.slice A n c) (l ++ [a]) v' w' := by
  have hr : Rd w (vb + 1) 6 (some ⟨vb, 0, none⟩) 1 a.cells := ⟨rfl, fun _ => ⟨_, rfl, by simp, rd_at hvb⟩⟩
  obtain ⟨v', w', hrun, hown', hg, hp⟩ := append_fresh (P := Tryz.prog) (ty := 48) (c := 1) infoJrn Tryz.underlying48 rfl (by omega) B _ n _ hown hr (cells_oneJ a) (by unfold maxLen; omega) (by omega) hB
  have HI : Hid (Inserted w B (.slice A n c) (l ++ [a]) v' w') := by
    refine ⟨?_, But.of_grown hg, hp⟩
    rw [jrs_append, List.length_append, hn]
    exact hown'
  have HR := Lib.hid hrun
  have hcap : n ≤ c := by
    rcases hown.2 with ⟨h1, rfl⟩ | ⟨g, cap, cur, h1, _, _, h2, _⟩
    · injection h1 with _ _ h3; omega
    · injection h1 with _ _ h3; omega
  have hc63 : c ≤ 9223372036854775807 := by
    rcases hown.2 with ⟨h1, rfl⟩ | ⟨g, cap, cur, h1, _, _, h2, h3, _⟩
    · injection h1 with _ _ h3; omega
    · injection h1 with _ _ h4; subst h4; unfold maxLen at h3; omega
  clear hown hvb hr hown' hg hp hn hrun
  obtain ⟨A', c', n', rfl⟩ : ∃ A' c' n', v' = .slice A' n' c' := by
    obtain ⟨A', c', e⟩ := own_form HI.out.1
    exact ⟨A', c', _, e⟩
  rcases A with _ | ad
  all_goals
    by_cases hcn : c = n
    all_goals
      go_enter Tryz.func223, Tryz.ntmps223
      go_wp2_with (at_builtin; refine wpList_append_run rfl _ _ _ rfl _ _ _ _ rfl rfl HR.out ?_)
      go_ret
      exact ⟨_, rfl, HI.out⟩

set_option maxRecDepth 100000 in
set_option maxHeartbeats 4000000 in
theorem insert_grow (l : List JR) (a : JR) (B vb g i n c : Nat) (w : World) (hn : l.length = n) (hown : w.ownsRow B 111 6 (.slice (some ⟨g, 0, none⟩) n c) n (jrs l)) (hvb : w.heap[vb]? = some (.cells a.cells.toArray 111 (0, 0))) (hn2 : n ≤ 1000000) (hB : B ≤ w.heap.size) (hi : i < n) (hroom : c < n + 1) :
    Calls Tryz.prog 223 #[.slice (some ⟨g, 0, none⟩) n c, .int .i64 i, .slice (some ⟨vb, 0, none⟩) 1 1] w fun e w' => ∃ v', e = .returned v' ∧ Inserted w B (.slice (some ⟨g, 0, none⟩) n c) (l.take i ++ a :: l.drop i) v' w' := by
  obtain ⟨cur, hh, hBg, hnc, hcm, hcs, hcl⟩ := own_blk hown
  obtain rfl : c = n := by omega
  obtain ⟨i0, hi0, hz0, hz1, hz2⟩ := info_parts infoJrn
  have hcells := hown.cells (g := g) rfl
  have hxl : (jrs l).length = c * 6 := hown.1
  -- append(s[:i], make(..)...)
  have hold : (Builtin.firstCells i0.size i (.slice (some ⟨g, 0, none⟩) i c)).run Tryz.prog w.drew = .ok ((jrs l).take (i * 6)).toArray w.drew := by
    rw [hz1]
    refine run_firstCells_some w.drew 6 i ⟨g, 0, none⟩ i c _ (by simp [hxl]; omega) (fun j v hj => ?_)
    rw [List.getElem?_take] at hj
    split at hj
    · exact hcells j v hj
    · cases hj
  have hrz : ∀ ty, (Builtin.append_ #[48, 3] ty #[.slice (some ⟨g, 0, none⟩) i c, .int .i64 ((c + 1 - i : Nat) : Int)]).run Tryz.prog w = _ := fun ty =>
    Lib.run_append_grow_zeros w 48 3 ty 111 i0 _ .i64 .i64 Tryz.underlying48 Tryz.underlying3 hi0 hz0 (some ⟨g, 0, none⟩) i c _ hold (c + 1 - i) (by omega) (by omega) (by omega) (by omega) (by rw [hz2]; omega) (by rw [hz2, show i + (c + 1 - i) = c + 1 by omega]; exact growslice_fits (by omega) (by omega))
  rw [show i + (c + 1 - i) = c + 1 by omega] at hrz
  generalize hG : grownCap w (c + 1) c 111 = G at hrz
  have hGn : c + 1 ≤ G := by rw [← hG]; exact grownCap_ge w _ _ _
  have hG63 : G ≤ maxLen := by rw [← hG]; exact grownCap_le_maxLen w (c + 1) c _ (by unfold maxLen; omega)
  generalize hZ : (Builtin.zeroCells (Value.agg #[.int .i64 0, .int .i64 0, .int .i64 0, .string ⟨#[]⟩, .slice none 0 0, .bool false]).cells (c + 1 - i)) = Z at hrz
  have hZl : Z.size = (c + 1 - i) * 6 := by rw [← hZ, size_zeroCells]; rfl
  generalize hY : (Builtin.zeroCells (Value.agg #[.int .i64 0, .int .i64 0, .int .i64 0, .string ⟨#[]⟩, .slice none 0 0, .bool false]).cells (G - (c + 1))) = Y at hrz
  have hYl : Y.size = (G - (c + 1)) * 6 := by rw [← hY, size_zeroCells]; rfl
  have hown0 : (w.drew.alloc (.cells (((jrs l).take (i * 6)).toArray ++ Z ++ Y) 111)).ownsRow B 111 6 (.slice (some ⟨w.heap.size, 0, none⟩) (c + 1) G) (c + 1) ((jrs l).take (i * 6) ++ Z.toList) := by
    have hlen : ((jrs l).take (i * 6) ++ Z.toList).length = (c + 1) * 6 := by simp [hxl, hZl]; omega
    refine ⟨hlen, .inr ⟨w.heap.size, G, _, rfl, hB, heap_new w.drew _, hGn, hG63, by simp [hxl, hZl, hYl]; omega, ?_⟩⟩
    rw [Array.toList_append, Array.toList_append, ← hlen]
    exact List.take_left
  generalize hW0 : w.drew.alloc (.cells (((jrs l).take (i * 6)).toArray ++ Z ++ Y) 111) = W0 at hrz hown0
  have hk0 : ∀ k, k < w.heap.size → W0.heap[k]? = w.heap[k]? := fun k hk => by rw [← hW0]; exact Below.heap_alloc w.drew _ _ hk
  have hz0' : W0.heap.size = w.heap.size + 1 := by rw [← hW0]; simp
  have hinfo : (Tryz.prog.info? 111).map (·.size) = some 6 := by rw [hi0]; simp [hz1]
  have hvlt := lt_of_blk hvb
  have hglt := lt_of_blk hh
  -- copy(s2[i:], v)
  have hcp1 : ∀ ty dc, _ := fun ty dc => copy_own (P := Tryz.prog) (ty := ty) hown0 Tryz.underlying48 hinfo i 1 (c + 1 - i) dc 1 1 ⟨vb, 0, none⟩ a.cells (by simp only [Nat.min_def]; split <;> omega) rfl (by omega) (rd_at ((hk0 vb hvlt).trans hvb)) (cells_oneJ a)
  have hown1 := (hcp1 0 0).2
  generalize hW1 : W0.setCells w.heap.size (i * 6) a.cells = W1 at hcp1 hown1
  have hk1 : ∀ k, k < w.heap.size → W1.heap[k]? = w.heap[k]? := fun k hk => by rw [← hW1, setCells_other _ _ _ _ (by omega)]; exact hk0 k hk
  -- copy(s2[i+1:], s[i:])
  have hsrc : ∀ j u, ((jrs l).drop (i * 6))[j]? = some u → W1.cell? ((⟨g, i * 6, none⟩ : Addr).add j) = some u := by
    intro j u hu
    rw [List.getElem?_drop] at hu
    have := hcells _ u hu
    rw [Addr.add_lit] at this ⊢
    rw [Nat.zero_add] at this
    rw [← this]
    unfold World.cell?
    rw [hk1 g hglt]
  have hcp2 : ∀ ty dc sc, _ := fun ty dc sc => copy_own (P := Tryz.prog) (w := W1.drew) (ty := ty) hown1 Tryz.underlying48 hinfo (i + 1) (c - i) (c + 1 - (i + 1)) dc (c - i) sc ⟨g, i * 6, none⟩ ((jrs l).drop (i * 6)) (by simp only [Nat.min_def]; split <;> omega) (by simp [hxl]; omega) (by omega) hsrc (fun u hu => jrs_one l u (List.mem_of_mem_drop hu))
  have hown2 := (hcp2 0 0 0).2
  rw [ins_new hxl (by omega) (by simp [hZl]) rfl, ← jrs_ins] at hown2
  generalize hW2 : W1.drew.setCells w.heap.size ((i + 1) * 6) ((jrs l).drop (i * 6)) = W2 at hcp2 hown2
  have hkk : (c : Int) + 1 - (i : Int) = ((c + 1 - i : Nat) : Int) := by omega
  have HI : Hid (Inserted w B (.slice (some ⟨g, 0, none⟩) c c) (l.take i ++ a :: l.drop i) (.slice (some ⟨w.heap.size, 0, none⟩) (c + 1) G) W2) := by
    refine ⟨?_, ⟨?_, ?_, ?_, ?_, fun k hk _ => ?_⟩, .inr rfl⟩
    · rw [show (l.take i ++ a :: l.drop i).length = c + 1 by simp; omega]; exact hown2
    · rw [← hW2, (setCells_below (B := 0) (Nat.zero_le _) _ _ _).os, show W1.drew.os = W1.os from rfl, ← hW1, (setCells_below (B := 0) (Nat.zero_le _) _ _ _).os, ← hW0]; rfl
    · rw [← hW2, (setCells_below (B := 0) (Nat.zero_le _) _ _ _).tape, show W1.drew.tape = W1.tape from rfl, ← hW1, (setCells_below (B := 0) (Nat.zero_le _) _ _ _).tape, ← hW0]; rfl
    · rw [← hW2, (setCells_below (B := 0) (Nat.zero_le _) _ _ _).output, show W1.drew.output = W1.output from rfl, ← hW1, (setCells_below (B := 0) (Nat.zero_le _) _ _ _).output, ← hW0]; rfl
    · have h1 := (setCells_below (B := 0) (g := w.heap.size) (Nat.zero_le _) ((jrs l).drop (i * 6)) W1.drew ((i + 1) * 6)).size
      have h2 := (setCells_below (B := 0) (g := w.heap.size) (Nat.zero_le _) a.cells W0 (i * 6)).size
      rw [hW2] at h1
      rw [hW1] at h2
      have h3 : W1.drew.heap.size = W1.heap.size := rfl
      omega
    · rw [← hW2, setCells_other _ _ _ _ (by omega)]
      exact hk1 k hk
  have HRZ := Lib.hid hrz; have HC1 := Lib.hid hcp1; have HC2 := Lib.hid hcp2
  have hG63' : G ≤ 9223372036854775807 := by unfold maxLen at hG63; omega
  clear hrz hcp1 hcp2 hown hown0 hown1 hown2 hcells hsrc hold hh hcs hcl hG hZ hZl hY hYl hz0 hz1 hz2 hi0 hinfo hxl hn hvb hk0 hk1 hz0' hW0 hW1 hW2 hG63 hcm hnc
  have hw1 : IntKind.i64.wrap ((i : Int) + 1) = (i : Int) + 1 := by rw [IntKind.wrap_i64]; omega
  have hb1 : (0 : Int) ≤ (i : Int) + 1 := by omega
  have htn : ((i : Int) + 1).toNat = i + 1 := by omega
  have hGi : ¬ (G = i) := by omega
  have hGim : ¬ (G = i + 1) := by omega
  have hci : ¬ (c = i) := by omega
  have hin : i ≤ c := by omega
  go_enter Tryz.func223, Tryz.ntmps223
  have hc1 := (HC1.out 3 (G - i)).1
  go_wp2_with (at_builtin; refine wpList_append_run2 rfl _ _ _ _ rfl _ _ _ _ rfl rfl (HRZ.out _) ?_)
  go_region_law (refine step_copy_run rfl _ _ _ _ rfl (.slice (some ⟨w.heap.size, (i + 1) * 6, none⟩) (c + 1 - (i + 1)) (G - (i + 1))) (.slice (some ⟨g, i * 6, none⟩) (c - i) (c - i)) _ _ (by simp [Act.eval, Act.put]) (by simp [Act.eval, Act.put]) (HC2.out _ _ _).1 ?_)
  go_wp2
  go_ret
  exact ⟨_, rfl, HI.out⟩
end Go.Proofs.YtjlokkjbdgcooaaGreat
