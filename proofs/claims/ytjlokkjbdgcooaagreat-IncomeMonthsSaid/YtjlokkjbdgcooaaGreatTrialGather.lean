/-
  Contracts of trial's partnerLines, gather.
-/
import Derived.Test.YtjlokkjbdgcooaaGreatMany3
import Derived.Test.YtjlokkjbdgcooaaGreatTomeAll
import Derived.Test.YtjlokkjbdgcooaaGreatMany9
import Derived.Lib.AppendZeros
namespace Go.Proofs.YtjlokkjbdgcooaaGreat
open Go.RowKit

/-- Lines appended to lines of one's own. -/
theorem append_linsG {w : World} {base m n c B : Nat} {v : Value} {A : Option Addr} {L l : List Lin} (h : w.ownsRow base 113 3 v m (lins L)) (h2 : Rd w B 3 A n (lins l)) (hb : base ≤ w.heap.size) (hm : m + n ≤ 2000000) :
    ∃ v' w', (∀ ty, (Builtin.append_ #[109, 109] ty #[v, .slice A n c]).run Tryz.prog w = .ok v' w') ∧ w'.ownsRow base 113 3 v' (m + n) (lins (L ++ l)) ∧ Below base w w' ∧ w.grownBy w' v.ownBlock := by
  obtain ⟨v', w', hrun, hown, hg, hp⟩ := append_fresh (P := Tryz.prog) (ty := 0) (c := c) infoLin Tryz.underlying109 rfl (by omega) base v m (lins L) h h2 (linsOne _) (by unfold maxLen; omega) (by omega) hb
  exact ⟨v', w', fun ty => hrun, by rw [lins_append]; exact hown, (Below.refl _ _).grown hg hb (own_ge h), hg⟩
/-- The lines that have a partner. -/
def partL (l : List Lin) : List Lin := l.filter fun x => x.part != 0
def pkL (o : OfT) (j : Jrn) : List Lin := if covO o j = true then j.lines else []
def pkP (o : OfT) (j : Jrn) : List Lin := partL (pkL o j)
theorem partL_step {l : List Lin} {k : Nat} {x : Lin} (h : l[k]? = some x) : partL (l.take (k + 1)) = partL (l.take k) ++ if (x.part != 0) = true then [x] else [] := by
  obtain ⟨hk, rfl⟩ := List.getElem?_eq_some_iff.1 h
  unfold partL
  rw [List.take_succ_eq_append_getElem hk, List.filter_append]
  simp [List.filter_cons]
theorem partL_le (l : List Lin) : (partL l).length ≤ l.length := List.length_filter_le _ _
theorem pkL_le (o : OfT) (j : Jrn) : (pkL o j).length ≤ j.lines.length := by
  unfold pkL
  split <;> simp
set_option maxRecDepth 100000 in
set_option maxHeartbeats 2000000 in
theorem partnerO_any (o : OfT) (j : Jrn) (A : Option Addr) (n c B : Nat) (w : World) (h : Rd w B 3 A n (lins j.lines)) (hB : B ≤ w.heap.size) (hn : n ≤ 100000) :
    Calls Tryz.prog 121 #[o.val, j.val A n c] w fun e w' => ∃ A' c', e = .returned (.slice A' (pkP o j).length c') ∧ w'.ownsRow w.heap.size 113 3 (.slice A' (pkP o j).length c') (pkP o j).length (lins (pkP o j)) ∧ Below w.heap.size w w' := by
  obtain ⟨W, hW⟩ : ∃ W, w.alloc (.cells #[.int .i64 o.ent, .int .i64 o.frm, .int .i64 o.til] 80) = W := ⟨_, rfl⟩
  have hz : W.heap.size = w.heap.size + 1 := by rw [← hW]; simp
  obtain ⟨W2, hW2⟩ : ∃ W2, W.alloc (.cells #[.int .i64 j.id, .int .i64 j.ent, .int .i64 j.per, .string j.ref, .slice A n c, .bool j.void] 111) = W2 := ⟨_, rfl⟩
  have hb2 : Below w.heap.size w W2 := by rw [← hW2, ← hW]; exact ((Below.refl _ _).alloc (Nat.le_refl _) _).alloc (by simp) _
  have HW := Lib.hid hW; have HW2 := Lib.hid hW2; have HB2 := Lib.hid hb2
  have KC := Lib.hid (linesO_any o j A n c W2)
  have hR2 : Hid (∃ A2 n2 c2, (if covO o j = true then Value.slice A n c else .slice none 0 0) = .slice A2 n2 c2 ∧ n2 ≤ 100000 ∧ Rd w B 3 A2 n2 (lins (pkL o j))) := by
    unfold pkL
    cases covO o j
    · exact ⟨none, 0, 0, rfl, by omega, Rd.nil_⟩
    · exact ⟨A, n, c, rfl, hn, h⟩
  obtain ⟨A2, n2, c2, he2, hn2, hr2⟩ := hR2.out
  rw [he2] at KC
  have HR := Lib.hid (fun w1 (h1 : Below w.heap.size w w1) => hr2.far h1 hB)
  have HLN := Lib.hid hr2.lins_len
  have HPK : Hid (partL (pkL o j) = pkP o j) := rfl
  clear hW hb2 hW2 h hr2 he2 hR2
  generalize pkP o j = PP at *
  generalize pkL o j = Ls at *
  unfold OfT.val Jrn.val at *
  go_enter Tryz.func121, Tryz.ntmps121
  go_wp2_with fail
  rw [HW.out, HW2.out]
  refine KC.out.mono ?_
  rintro e w3 ⟨rfl, hb3⟩
  have HB3 := Lib.hid (HB2.out.trans (hb3.mono HB2.out.size))
  clear hb3 KC
  go_wp2_with fail
  go_loopw [5, 12] (fun lv iv wr => ∃ k : Nat, k ≤ n2 ∧ iv = .int .i64 k ∧ (∃ A' c', lv = .slice A' (partL (Ls.take k)).length c' ∧ wr.ownsRow w.heap.size 113 3 (.slice A' (partL (Ls.take k)).length c') (partL (Ls.take k)).length (lins (partL (Ls.take k)))) ∧ Below w.heap.size w wr) (fun _ iv _ => n2 - (intOf iv).toNat)
  case atStart => exact ⟨0, Nat.zero_le _, rfl, ⟨none, 0, rfl, World.ownsRow_nil _ _ _ _⟩, HB3.out⟩
  case round =>
    obtain ⟨k, hk, rfl, ⟨A', c', rfl, hown⟩, hbel⟩ := hrel
    have hzr := hbel.size
    by_cases hlt : k < n2
    · obtain ⟨ad, x, rfl, hb0, hx, p0, p1, p2⟩ := (HR.out wr hbel).lin hlt
      have p1' := cell_behind (j := 1) p1 (by omega)
      have p2' := cell_behind (j := 2) p2 (by omega)
      have hkI : (k : Int) < (n2 : Int) := by omega
      have HST := Lib.hid (partL_step hx)
      have HBE := Lib.hid hbel
      have hpl : (partL (Ls.take k)).length ≤ k := Nat.le_trans (partL_le _) (by rw [List.length_take]; omega)
      have HO := Lib.hid hown
      clear hx p1 p2 hb0 hbel
      by_cases hp : x.part = 0
      · have HST2 : Hid (partL (Ls.take (k + 1)) = partL (Ls.take k)) := by
          rw [Hid, HST.out, hp]
          simp
        clear hown HST
        have HSz := Lib.hid hp
        go_wp2_with fail
        refine ⟨⟨k + 1, by omega, by go_num, ⟨A', c', ?_, ?_⟩, HBE.out.alloc hzr _⟩, by simp [intOf]; omega⟩
        · rw [HST2.out]
        · rw [HST2.out]
          exact own_kept HO.out fun q hq _ => Below.heap_alloc wr _ _ hq
      · have hpb : (x.part != 0) = true := by simpa using hp
        have HST2 : Hid (partL (Ls.take (k + 1)) = partL (Ls.take k) ++ [x]) := by
          rw [Hid, HST.out, if_pos hpb]
        obtain ⟨x1, x2, x3⟩ := x
        dsimp only at *
        obtain ⟨W3, hW3⟩ : ∃ W3, wr.alloc (.cells #[.int .i64 x1, .int .i64 x2, .int .i64 x3] 113) = W3 := ⟨_, rfl⟩
        have hz3 : W3.heap.size = wr.heap.size + 1 := by rw [← hW3]; simp
        have hb3 : Below w.heap.size wr W3 := by rw [← hW3]; exact (Below.refl _ _).alloc hzr _
        have hown4 : (W3.alloc (.cells #[.int .i64 x1, .int .i64 x2, .int .i64 x3] 113)).ownsRow w.heap.size 113 3 (.slice A' (partL (Ls.take k)).length c') (partL (Ls.take k)).length (lins (partL (Ls.take k))) := by
          have h1 : W3.ownsRow w.heap.size 113 3 (.slice A' (partL (Ls.take k)).length c') (partL (Ls.take k)).length (lins (partL (Ls.take k))) := by rw [← hW3]; exact own_kept HO.out fun q hq _ => Below.heap_alloc wr _ _ hq
          exact own_kept h1 fun q hq _ => Below.heap_alloc W3 _ _ hq
        have hrd4 : Rd (W3.alloc (.cells #[.int .i64 x1, .int .i64 x2, .int .i64 x3] 113)) (W3.heap.size + 1) 3 (some ⟨W3.heap.size, 0, none⟩) 1 (lins [⟨x1, x2, x3⟩]) := ⟨rfl, fun _ => ⟨_, rfl, by simp, cells_new W3 (lins [⟨x1, x2, x3⟩]) 113⟩⟩
        obtain ⟨v7, w7, hrun, hown7, hb7, _⟩ := append_linsG (c := 1) hown4 hrd4 (by simp; omega) (by omega)
        obtain ⟨A7, c7, rfl⟩ := own_form hown7
        have HO7 := Lib.hid hown7
        have HB7 := Lib.hid (HBE.out.trans (hb3.trans (((Below.refl _ _).alloc (by omega) _).trans hb7)))
        rw [hz3] at hrun
        have HW3 := Lib.hid hW3
        have hlen1 : (partL (Ls.take k) ++ [(⟨x1, x2, x3⟩ : Lin)]).length = (partL (Ls.take k)).length + 1 := by simp
        have HL1 := Lib.hid hlen1
        rw [← hW3] at hrun
        clear hown4 hrd4 hown7 hb7 hb3 hown hW3 hlen1 HST hp
        go_wp2_with (at_builtin; refine Lib.wpList_append_run _ rfl _ _ _ _ rfl _ _ rfl rfl _ _ (hrun _) ?_)
        refine ⟨⟨k + 1, by omega, by go_num, ⟨A7, c7, ?_, ?_⟩, HB7.out⟩, by simp [intOf]; omega⟩
        · rw [HST2.out, HL1.out]
        · rw [HST2.out, HL1.out]
          exact HO7.out
    · have hkn : k = n2 := by omega
      have e : Ls.take k = Ls := List.take_of_length_le (by rw [HLN.out]; omega)
      rw [e, HPK.out] at hown ⊢
      have HO := Lib.hid hown; have HBE := Lib.hid hbel
      clear hown hbel e
      go_wp2_with fail
      go_ret
      exact ⟨A', c', rfl, HO.out, HBE.out⟩

/-- What a pick gives of a journal. -/
def PickTo (F : FuncId) (o : OfT) (pk : Jrn → List Lin) : Prop := ∀ (a : JR) (B : Nat) (w : World), Rd w B 3 a.A a.j.lines.length (lins a.j.lines) → B ≤ w.heap.size → a.j.lines.length ≤ 8 →
  Calls Tryz.prog F #[o.val, a.j.val a.A a.j.lines.length a.c] w fun e w' => ∃ A' c', e = .returned (.slice A' (pk a.j).length c') ∧ Rd w' w'.heap.size 3 A' (pk a.j).length (lins (pk a.j)) ∧ Below w.heap.size w w'
theorem pickL (o : OfT) : PickTo 119 o (pkL o) := by
  intro a B w h hB _
  refine (linesO_any o a.j a.A a.j.lines.length a.c w).mono ?_
  rintro e w' ⟨rfl, hb⟩
  unfold pkL
  cases covO o a.j
  · exact ⟨none, 0, rfl, Rd.nil_, hb⟩
  · exact ⟨a.A, a.c, rfl, (h.far hb hB).wide (Nat.le_trans hB hb.size), hb⟩
theorem pickP (o : OfT) : PickTo 121 o (pkP o) := by
  intro a B w h hB hn
  refine (partnerO_any o a.j a.A a.j.lines.length a.c B w h hB (by omega)).mono ?_
  rintro e w' ⟨A', c', rfl, hown, hb⟩
  exact ⟨A', c', rfl, rd_of_own hown, hb⟩
theorem pkL_le8 {o : OfT} {j : Jrn} (h : checkE j = 0) : (pkL o j).length ≤ 8 := Nat.le_trans (pkL_le o j) (checkE_len h).1
theorem pkP_le8 {o : OfT} {j : Jrn} (h : checkE j = 0) : (pkP o j).length ≤ 8 := Nat.le_trans (partL_le _) (pkL_le8 h)
def gathL (pk : Jrn → List Lin) (l : List Jrn) : List Lin := l.flatMap pk
theorem gathL_step {pk : Jrn → List Lin} {l : List Jrn} {k : Nat} {x : Jrn} (h : l[k]? = some x) : gathL pk (l.take (k + 1)) = gathL pk (l.take k) ++ pk x := by
  obtain ⟨hk, rfl⟩ := List.getElem?_eq_some_iff.1 h
  unfold gathL
  rw [List.take_succ_eq_append_getElem hk, List.flatMap_append]
  simp
theorem gathL_len {pk : Jrn → List Lin} : ∀ {l : List Jrn}, (∀ j ∈ l, (pk j).length ≤ 8) → (gathL pk l).length ≤ 8 * l.length
  | [], _ => by simp [gathL]
  | j :: r, h => by
    have h1 := gathL_len (l := r) fun i hi => h i (List.mem_cons_of_mem _ hi)
    have h2 := h j (List.mem_cons_self ..)
    unfold gathL at h1 ⊢
    rw [List.flatMap_cons, List.length_append, List.length_cons]
    omega
set_option maxRecDepth 100000 in
set_option maxHeartbeats 4000000 in
theorem gather_any (F : FuncId) (hF : F = 119 ∨ F = 121) (o : OfT) (pk : Jrn → List Lin) (B c : Nat) (v : Value) (l : List JR) (w : World) (h : TomeAt w B c v l)
    (hK : PickTo F o pk) (h8 : ∀ j, checkE j = 0 → (pk j).length ≤ 8) :
    Calls Tryz.prog 118 #[.pointer (some ⟨c, 0, none⟩), .func (.func F) #[o.val] #[]] w fun e w' => ∃ A' c', e = .returned (.slice A' (gathL pk (l.map JR.j)).length c') ∧ w'.ownsRow w.heap.size 113 3 (.slice A' (gathL pk (l.map JR.j)).length c') (gathL pk (l.map JR.j)).length (lins (gathL pk (l.map JR.j))) ∧ Below w.heap.size w w' := by
  have KA := Lib.hid (all_any B c v l w h)
  have hok : ∀ j ∈ l.map JR.j, checkE j = 0 := fun j hj => by
    obtain ⟨a, ha, rfl⟩ := List.mem_map.1 hj
    exact h.ok a ha
  have HOK := Lib.hid hok
  have hlen := h.len
  have HKK := Lib.hid hK
  have H8 := Lib.hid h8
  obtain ⟨M, hM⟩ : ∃ M, l.map JR.j = M := ⟨_, rfl⟩
  have hml : M.length = l.length := by rw [← hM]; simp
  rw [hM] at KA HOK ⊢
  rw [← hml] at hlen KA
  have HML := Lib.hid hml
  clear h hok hK h8 hml hM
  rcases hF with rfl | rfl
  all_goals
    go_enter Tryz.func118, Tryz.ntmps118
    go_wp2_with fail
    refine KA.out.mono ?_
    rintro e w1 ⟨A1, c1, l', rfl, hl', hown, hb1⟩
    have HB1 := Lib.hid hb1
    have HMAP := Lib.hid hl'
    have hln : l'.length = M.length := by have := congrArg List.length hl'; simpa using this
    have HRD : Hid (Rd w1 w1.heap.size 6 A1 M.length (jrs l')) := rd_of_own hown.own
    have HLI : Hid (∀ a ∈ l', Rd w1 w1.heap.size 3 a.A a.j.lines.length (lins a.j.lines)) := fun a ha => rd_of_own (hown.lines a ha)
    have HOK2 : Hid (∀ a ∈ l', checkE a.j = 0) := fun a ha => HOK.out _ (hl' ▸ List.mem_map_of_mem ha)
    have hz1 := hb1.size
    clear hown hb1 hl' KA hln
    obtain ⟨n, hn⟩ : ∃ n, M.length = n := ⟨_, rfl⟩
    rw [hn] at hlen HRD ⊢
    have HN := Lib.hid hn
    clear hn
    go_wp2_with fail
    go_loopw [5, 11] (fun lv iv wr => ∃ k : Nat, k ≤ n ∧ iv = .int .i64 k ∧ (∃ A' c', lv = .slice A' (gathL pk (M.take k)).length c' ∧ wr.ownsRow w1.heap.size 113 3 (.slice A' (gathL pk (M.take k)).length c') (gathL pk (M.take k)).length (lins (gathL pk (M.take k)))) ∧ Below w1.heap.size w1 wr) (fun _ iv _ => n - (intOf iv).toNat)
    case atStart => exact ⟨0, Nat.zero_le _, rfl, ⟨none, 0, rfl, World.ownsRow_nil _ _ _ _⟩, Below.refl _ _⟩
    case round =>
      obtain ⟨k, hk, rfl, ⟨A', c', rfl, hown⟩, hbel⟩ := hrel
      have hzr := hbel.size
      have HBW := Lib.hid (HB1.out.trans (hbel.mono hz1))
      by_cases hlt : k < n
      · obtain ⟨ad, a, rfl, hb0, hx, p0, p1, p2, p3, p4, p5⟩ := (HRD.out.below hbel).jr hlt
        have hkI : (k : Int) < (n : Int) := by omega
        have hma := List.mem_of_getElem? hx
        have hMk : M[k]? = some a.j := by rw [← HMAP.out, List.getElem?_map, hx]; rfl
        have HST := Lib.hid (gathL_step (pk := pk) hMk)
        have hGl : (gathL pk (M.take k)).length ≤ 8 * 200 := by
          have := gathL_len (pk := pk) (l := M.take k) fun j hj => H8.out j (HOK.out j (List.mem_of_mem_take hj))
          rw [List.length_take] at this
          omega
        obtain ⟨W3, hW3⟩ : ∃ W3, wr.alloc (.cells #[.int .i64 a.j.id, .int .i64 a.j.ent, .int .i64 a.j.per, .string a.j.ref, .slice a.A a.j.lines.length a.c, .bool a.j.void] 111) = W3 := ⟨_, rfl⟩
        have hb3 : Below wr.heap.size wr W3 := by rw [← hW3]; exact (Below.refl _ _).alloc (Nat.le_refl _) _
        have hz3 : W3.heap.size = wr.heap.size + 1 := by rw [← hW3]; simp
        have kp := HKK.out a w1.heap.size W3 (((HLI.out a hma).below hbel).far hb3 hzr) (by omega) (checkE_len (HOK2.out a hma)).1
        have KP := Lib.hid kp
        have HO := Lib.hid (own_kept hown fun q hq _ => hb3.block q hq)
        have HB3 := Lib.hid (hbel.trans (hb3.mono hzr))
        have HW3 := Lib.hid hW3
        have h8a := H8.out a.j (HOK2.out a hma)
        clear hx hma hMk kp hown hb3 hbel hW3 hb0
        unfold Jrn.val at KP
        generalize a.j.lines.length = La at *
        go_wp2_with fail
        rw [HW3.out]
        refine KP.out.mono ?_
        rintro e w4 ⟨A4, c4, rfl, hrd4, hb4⟩
        have hown4 := own_kept HO.out fun q hq _ => hb4.block q hq
        have hz4 := hb4.size
        obtain ⟨v7, w7, hrun, hown7, hb7, _⟩ := append_linsG (c := c4) hown4 hrd4 (by omega) (by omega)
        obtain ⟨A7, c7, rfl⟩ := own_form hown7
        have HO7 := Lib.hid hown7
        have HB7 := Lib.hid (HB3.out.trans ((hb4.mono (by omega)).trans hb7))
        have hlen1 : (gathL pk (M.take k) ++ pk a.j).length = (gathL pk (M.take k)).length + (pk a.j).length := by simp
        have HL1 := Lib.hid hlen1
        clear hown4 hrd4 hown7 hb7 hb4 hlen1 KP
        go_wp2_with (at_builtin; refine Lib.wpList_append_run _ rfl _ _ _ _ rfl _ _ rfl rfl _ _ (hrun _) ?_)
        refine ⟨⟨k + 1, by omega, by go_num, ⟨A7, c7, ?_, ?_⟩, HB7.out⟩, by simp [intOf]; omega⟩
        · rw [HST.out, HL1.out]
        · rw [HST.out, HL1.out]
          exact HO7.out
      · have hkn : k = n := by omega
        have e : M.take k = M := List.take_of_length_le (by rw [HN.out]; omega)
        rw [e] at hown ⊢
        have HO := Lib.hid (own_base hown hz1); have HBE := Lib.hid hbel
        clear hown hbel e
        go_wp2_with fail
        go_ret
        exact ⟨A', c', rfl, HO.out, HBW.out⟩
end Go.Proofs.YtjlokkjbdgcooaaGreat

