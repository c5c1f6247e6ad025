/-
  Several texts, one behind the other: what each holds stands ahead of it.
-/
import Derived.Test.YtmgncoialppmpaaGreatMany20
import Derived.Test.YtmgncoialppmpaaGreatMany4
import Derived.Test.YtmgncoialppmpaaGreatMany14
import Derived.Test.YtmgncoialppmpaaGreatMany19
import Derived.Test.YtmgncoialppmpaaGreatMany6
import Derived.Test.YtmgncoialppmpaaGreatMany13

/-
  Contract of rules' (*wish).sumsFit.
-/
namespace Go.Proofs.YtmgncoialppmpaaGreat
open Go.RowKit

/-- What has come up fits. -/
def Came (D : DataW Unit) (f : Int → Int → Int) (left : Lit → Bool) : Prop := ∀ a e, in64 a → in64 e → Maps.has D (plKey a e) = true → left (plKey a e) = false → fits1 (f a e) = true
theorem SumsAt.absent {w : World} {b n : Nat} {D : DataW Unit} {f : Int → Int → Int} (h : SumsAt w b n D f) {a e : Int} (ha : in64 a) (he : in64 e) (hno : Maps.has D (plKey a e) = false) : f a e = 0 := by
  have h1 := h.at' a e ha he
  rw [Maps.atKey_of_not_has hno] at h1
  injection h1 with h1
  injection h1 with _ h1
  exact h1.symm
theorem Came.all {w : World} {b n : Nat} {D : DataW Unit} {f : Int → Int → Int} {left : Lit → Bool} (h : SumsAt w b n D f) (hc : Came D f left) (hl : ∀ kl, left kl = false) {a e : Int} (ha : in64 a) (he : in64 e) : fits1 (f a e) = true := by
  cases hh : Maps.has D (plKey a e)
  · rw [h.absent ha he hh]; rfl
  · exact hc a e ha he hh (hl _)
theorem tooJ_fits {M : List Jrn} (hok : ∀ j ∈ M, checkE j = 0) (h : ∀ a e, in64 a → in64 e → fits1 (sumM a e M) = true) : moneyE M = 0 := by
  unfold moneyE
  rw [tooJ_no, if_neg (by decide)]
  intro j hj x hx
  obtain ⟨_, _, h1, h2⟩ := checkE_fits (hok j hj)
  have := h2 x hx
  exact h _ _ ⟨by omega, by omega⟩ ⟨by omega, by omega⟩
theorem tooJ_bad {M : List Jrn} {a e : Int} (h : fits1 (sumM a e M) = false) : moneyE M = 2 := by
  unfold moneyE
  rw [tooJ_of h, if_pos rfl]

set_option maxRecDepth 100000 in
set_option maxHeartbeats 2000000 in
theorem sumsFit_any (q B c : Nat) (v : Value) (l : List JR) (w : World) (h : TomeAt w B c v l) (hq : w.cell? ⟨q, 16, none⟩ = some (.pointer (some ⟨c, 0, none⟩))) :
    Calls Tryz.prog 75 #[.pointer (some ⟨q, 0, none⟩)] w fun e w' => e = .returned (.int .i64 (moneyE (l.map JR.j))) ∧ Below w.heap.size w w' := by
  have ks := Lib.hid (sumsOf_any B c v l w h)
  have hok : ∀ j ∈ l.map JR.j, checkE j = 0 := fun j hj => by
    obtain ⟨a, ha, rfl⟩ := List.mem_map.1 hj
    exact h.ok a ha
  have HOK := Lib.hid hok
  clear h hok
  generalize l.map JR.j = M at *
  go_enter Tryz.func75, Tryz.ntmps75
  go_wp2_with fail
  refine ks.out.mono ?_
  rintro e w1 ⟨mb, nm, D, rfl, hge, hnm, hS, hb1⟩
  have HS := Lib.hid hS; have HB1 := Lib.hid hb1
  clear hS hb1 hq ks
  go_wp2_with (at_range; refine wpList_range_own _ rfl _ 140 rfl 143 3 plKeyed Tryz.underlying140 plR mb nm D rfl HS.out.own ?_; intro w0 hrg0 hg0 hs0)
  go_frame
  have HB0 : Hid (Below w.heap.size w w0) := HB1.out.trans ((But.of_grown hg0).below (fun k _ hk => by cases hk) HB1.out.size)
  have hmb : mb < w1.heap.size := HS.out.lt
  go_loopw [4] (fun _ wr => ∃ left cnt, wr.ranges Tryz.prog 143 plR mb w1.heap.size nm D left cnt ∧ Hid (Came D (fun a e => sumM a e M) left) ∧ Below w.heap.size w wr) (fun _ wr => wr.rangeLeft mb w1.heap.size)
  case atStart => exact ⟨_, _, hrg0, Lib.hid (show Came D (fun a e => sumM a e M) (Maps.has D) from fun a e _ _ h1 h2 => by rw [h1] at h2; cases h2), HB0.out⟩
  case round =>
    obtain ⟨left, cnt, hrg, hcame, hbel⟩ := hrel
    have HRG := Lib.hid hrg; have HBL := Lib.hid hbel; have HC := hcame
    clear hrg hbel hrg0 hg0
    go_wp2_with (at_next; refine wpList_next_ranges _ rfl _ rfl 143 plKeyed plR (fun p : Int × Int => plVal p.1 p.2) (Value.int .i64) (fun key kl hk => by obtain ⟨a, e, h1, _⟩ := keyOf_pl_inv hk; exact ⟨(a, e), h1⟩) (fun u y hu => by obtain ⟨x, h1, _⟩ := plainElem_int_inv Tryz.underlying3 hu; exact ⟨x, h1⟩) mb w1.heap.size nm D left cnt rfl HRG.out ?_ ?_)
    · intro hc0 hl0
      have HE := Lib.hid (tooJ_fits HOK.out fun a e ha he => HC.out.all HS.out hl0 ha he)
      go_wp2_with fail
      go_ret
      exact ⟨ret_int HE.out.symm, HBL.out⟩
    · intro p1 p2 x kl y1 y2 w2 cnt2 hk hlk hR hat hrg2 hlt hg2 hs2 hen
      obtain ⟨a, e, hpl, ha, he, rfl⟩ := keyOf_pl_inv hk
      unfold plVal at hpl
      injection hpl with hpl
      have hpl := congrArg Array.toList hpl
      simp at hpl
      obtain ⟨x', hx', hy, hwx⟩ := plainElem_int_inv Tryz.underlying3 hR
      injection hx' with _ hx'
      subst hx'
      have hsum : sumM a e M = x := by
        have h1 := HS.out.at' a e ha he
        have hy1 : y1 = _ := congrArg Prod.fst hy
        rw [hat, hy1] at h1
        injection h1 with h1
        injection h1 with _ h1
        exact h1.symm
      unfold plVal at hen
      have HRG2 := Lib.hid hrg2
      have HB2 : Hid (Below w.heap.size w w2) := HBL.out.trans ((But.of_grown hg2).below (fun k _ hk => by injection hk with hk; have := HB1.out.size; omega) HBL.out.size)
      have HSUM := Lib.hid hsum
      have HA := Lib.hid ha; have HE := Lib.hid he
      have HLT := Lib.hid hlt
      have kf := Lib.hid (fits_one x w2 (T := 3))
      have hz2 := HB2.out.size
      clear hk hlk hR hat hrg2 hlt hg2 hs2 hpl hy hwx hsum ha he
      cases hf : fits1 x
      · rw [hf] at kf
        go_wp2_with fail
        refine kf.out.mono ?_
        rintro e3 w3 ⟨rfl, rfl⟩
        go_wp2_with fail
        go_ret
        exact ⟨ret_int (tooJ_bad (by rw [HSUM.out]; exact hf)).symm, HB2.out.alloc hz2 _⟩
      · rw [hf] at kf
        go_wp2_with fail
        refine kf.out.mono ?_
        rintro e3 w3 ⟨rfl, rfl⟩
        go_wp2_with fail
        refine ⟨⟨_, cnt2, HRG2.out.alloc _, Lib.hid (show Came D (fun a e => sumM a e M) (fun z => left z && !z.sameKey (plKey a e)) from ?_), HB2.out.alloc hz2 _⟩, ?_⟩
        · intro a2 e2 ha2 he2 h1 h2
          cases hl : left (plKey a2 e2)
          · exact HC.out a2 e2 ha2 he2 h1 hl
          · replace h2 : (left (plKey a2 e2) && !(plKey a2 e2).sameKey (plKey a e)) = false := h2
            rw [hl, Bool.true_and, Bool.not_eq_false'] at h2
            obtain ⟨rfl, rfl⟩ := plKey_inj ha2 he2 HA.out HE.out (WideAt.sameKey_eq h2)
            show fits1 (sumM a2 e2 M) = true
            rw [HSUM.out]
            exact hf
        · rw [(HRG2.out.alloc _).left_eq, HRG.out.left_eq]
          exact HLT.out
end Go.Proofs.YtmgncoialppmpaaGreat

/-
  A wish while its questions are asked.
-/
namespace Go.Proofs.YtmgncoialppmpaaGreat
open Go.RowKit

/-- The row of questions stands; nothing but the wish is written, of all that was there. -/
structure MidW (w w1 : World) (q r : Nat) (fs : List FuncId) : Prop where
  bel : Below w.heap.size w w1
  low : w.heap.size ≤ q
  row : w1.heap[r]? = some (.cells (fs.map (askV (.pointer (some ⟨q, 0, none⟩)))).toArray 204 (0, 0))
  ne : r ≠ q
theorem MidW.but {w w1 w2 : World} {q r : Nat} {fs : List FuncId} (h : MidW w w1 q r fs) (hb : But (fun k => k = q) w1 w2) : MidW w w2 q r fs :=
  ⟨h.bel.trans (hb.below (fun k _ hk => by rw [hk]; exact h.low) h.bel.size), h.low, (hb.block r (lt_of_blk h.row) h.ne).trans h.row, h.ne⟩
theorem MidW.below {w w1 w2 : World} {q r : Nat} {fs : List FuncId} (h : MidW w w1 q r fs) (hb : Below w1.heap.size w1 w2) : MidW w w2 q r fs := h.but (But.of_below hb)
theorem MidW.rd {w w1 : World} {q r : Nat} {fs : List FuncId} (h : MidW w w1 q r fs) : Rd w1 (r + 1) 1 (some ⟨r, 0, none⟩) fs.length (fs.map (askV (.pointer (some ⟨q, 0, none⟩)))) := by
  refine ⟨by simp, fun _ => ⟨_, rfl, Nat.lt_succ_self _, fun i u hu => ?_⟩⟩
  have := cell_of h.row i
  rw [List.getElem?_toArray] at this
  rw [Addr.add_lit]
  simpa [hu] using this

/-- Ahead of its question i: till question a no journal was found; then, till question b, it was; then there is a book of its own. -/
def WI (w : World) (q r : Nat) (fs : List FuncId) (cp gp bp : Value) (id : Int) (j : JR) (M N : List Jrn) (a b i : Nat) (w1 : World) : Prop :=
  MidW w w1 q r fs ∧ (i ≤ a → ∃ tv, WishAt w1 q cp gp bp id j zeroR tv) ∧ (a < i → i ≤ b → ∃ o tv, o.j = oldJ M id ∧ WishAt w1 q cp gp bp id j o tv ∧ Rd w1 w1.heap.size 3 o.A o.j.lines.length (lins o.j.lines)) ∧
    (i = b + 1 → ∃ o B d v l, WishAt w1 q cp gp bp id j o (.pointer (some ⟨d, 0, none⟩)) ∧ TomeAt w1 B d v l ∧ l.map JR.j = N)
section
variable {w w1 w2 : World} {q r : Nat} {fs : List FuncId} {cp gp bp : Value} {id : Int} {j : JR} {M N : List Jrn} {a b i : Nat}
theorem WI.quiet (h : WI w q r fs cp gp bp id j M N a b i w1) (hb : Below w1.heap.size w1 w2) (hia : i ≠ a) (hib : i < b) : WI w q r fs cp gp bp id j M N a b (i + 1) w2 := by
  obtain ⟨h1, h2, h3, h4⟩ := h
  refine ⟨h1.below hb, fun hi => ?_, fun hi hi2 => ?_, fun hi => by omega⟩
  · obtain ⟨tv, g⟩ := h2 (by omega)
    exact ⟨tv, g.below hb⟩
  · obtain ⟨o, tv, g1, g2, g3⟩ := h3 (by omega) (by omega)
    exact ⟨o, tv, g1, g2.below hb, (g3.below hb).wide hb.size⟩
theorem WI.last (h : WI w q r fs cp gp bp id j M N a b i w1) (hb : Below w1.heap.size w1 w2) (hia : a ≤ b) (hib : b < i) : WI w q r fs cp gp bp id j M N a b (i + 1) w2 :=
  ⟨h.1.below hb, fun hi => by omega, fun hi hi2 => by omega, fun hi => by omega⟩
theorem WI.finds {tv : Value} (h : WI w q r fs cp gp bp id j M N a b a w1) (hf : FindsEnd w1 q cp gp bp tv id j M w2) (hl : liveE M id = 0) (hab : a < b) : WI w q r fs cp gp bp id j M N a b (a + 1) w2 := by
  obtain ⟨g1, g2⟩ := hf
  obtain ⟨o, k1, k2, k3⟩ := g2 hl
  exact ⟨h.1.but g1, fun hi => by omega, fun _ _ => ⟨o, tv, k1, k2, k3⟩, fun hi => by omega⟩
theorem WI.tries {o : JR} (h : WI w q r fs cp gp bp id j M N a b b w1) (ht : TriesEnd w1 q cp gp bp id j o N w2) (hab : a ≤ b) : WI w q r fs cp gp bp id j M N a b (b + 1) w2 := by
  obtain ⟨g1, d, v, l, k1, k2, k3⟩ := ht
  exact ⟨h.1.but g1, fun hi => by omega, fun hi hi2 => by omega, fun _ => ⟨o, _, d, v, l, k1, k2, k3⟩⟩
end

/-- What is asked, in memory. -/
structure PartsAt (w : World) (c g b : Nat) (C : List Acc) (G : List Trio) (l : List JR) : Prop where
  chart : ∃ B v, ChartAt w B c v C
  gates : ∃ B v, GatesAt w B g v G
  book : ∃ B v, TomeAt w B b v l
theorem PartsAt.below {w w' : World} {c g b : Nat} {C : List Acc} {G : List Trio} {l : List JR} (h : PartsAt w c g b C G l) (hb : Below w.heap.size w w') : PartsAt w' c g b C G l := by
  obtain ⟨⟨B1, v1, h1⟩, ⟨B2, v2, h2⟩, ⟨B3, v3, h3⟩⟩ := h
  exact ⟨⟨B1, v1, h1.below hb⟩, ⟨B2, v2, h2.below hb⟩, ⟨B3, v3, h3.below hb⟩⟩
def ptr (c : Nat) : Value := .pointer (some ⟨c, 0, none⟩)

/-- A question that changes nothing. -/
theorem ask_quiet {w w1 : World} {q r : Nat} {fs : List FuncId} {cp gp bp : Value} {id : Int} {j : JR} {M N : List Jrn} {a b i : Nat} {F : FuncId} {x : Int} (h : WI w q r fs cp gp bp id j M N a b i w1) (hia : i ≠ a) (hib : i < b)
    (hc : Calls Tryz.prog F #[.pointer (some ⟨q, 0, none⟩)] w1 fun e w2 => e = .returned (.int .i64 x) ∧ Below w1.heap.size w1 w2) :
    Calls Tryz.prog F #[.pointer (some ⟨q, 0, none⟩)] w1 fun e w2 => e = .returned (.int .i64 x) ∧ (x = 0 → WI w q r fs cp gp bp id j M N a b (i + 1) w2) ∧ (x ≠ 0 → Below w.heap.size w w2) :=
  hc.mono fun _ _ hh => ⟨hh.1, fun _ => h.quiet hh.2 hia hib, fun _ => (h.1.below hh.2).bel⟩
theorem ask_finds {w w1 : World} {q r c g bk : Nat} {fs : List FuncId} {id : Int} {j : JR} {C : List Acc} {G : List Trio} {l : List JR} {N : List Jrn} {a b : Nat} (h : WI w q r fs (ptr c) (ptr g) (ptr bk) id j (l.map JR.j) N a b a w1) (hP : PartsAt w c g bk C G l) (hab : a < b) :
    Calls Tryz.prog 64 #[.pointer (some ⟨q, 0, none⟩)] w1 fun e w2 => e = .returned (.int .i64 (liveE (l.map JR.j) id)) ∧ (liveE (l.map JR.j) id = 0 → WI w q r fs (ptr c) (ptr g) (ptr bk) id j (l.map JR.j) N a b (a + 1) w2) ∧ (liveE (l.map JR.j) id ≠ 0 → Below w.heap.size w w2) := by
  obtain ⟨tv, hw⟩ := h.2.1 (Nat.le_refl _)
  obtain ⟨B, v, hT⟩ := (hP.below h.1.bel).book
  exact (findsLive_any q B bk v l (ptr c) (ptr g) tv id j zeroR w1 hw hT).mono fun e w2 hh => ⟨hh.1, fun h0 => h.finds hh.2 h0 hab, fun _ => (h.1.but hh.2.1).bel⟩
theorem ask_fits {w w1 : World} {q r : Nat} {fs : List FuncId} {cp gp bp : Value} {id : Int} {j : JR} {M N : List Jrn} {a b : Nat} (h : WI w q r fs cp gp bp id j M N a b (b + 1) w1) (hab : a ≤ b) :
    Calls Tryz.prog 75 #[.pointer (some ⟨q, 0, none⟩)] w1 fun e w2 => e = .returned (.int .i64 (moneyE N)) ∧ (moneyE N = 0 → WI w q r fs cp gp bp id j M N a b (b + 1 + 1) w2) ∧ (moneyE N ≠ 0 → Below w.heap.size w w2) := by
  obtain ⟨o, B, d, v, l, h1, h2, h3⟩ := h.2.2.2 rfl
  obtain ⟨_, _, _, _, p16⟩ := h1.head
  rw [← h3]
  exact (sumsFit_any q B d v l w1 h2 p16).mono fun e w2 hh => ⟨hh.1, fun _ => by rw [h3]; exact h.last hh.2 hab (Nat.lt_succ_self _), fun _ => (h.1.below hh.2).bel⟩
theorem ask_tries {w w1 : World} {q r : Nat} {fs : List FuncId} {cp gp bp : Value} {id : Int} {j o : JR} {M N : List Jrn} {a b : Nat} {F : FuncId} {x : Int} (h : WI w q r fs cp gp bp id j M N a b b w1) (hab : a ≤ b)
    (hc : Calls Tryz.prog F #[.pointer (some ⟨q, 0, none⟩)] w1 fun e w2 => e = .returned (.int .i64 x) ∧ TriesEnd w1 q cp gp bp id j o N w2) :
    Calls Tryz.prog F #[.pointer (some ⟨q, 0, none⟩)] w1 fun e w2 => e = .returned (.int .i64 x) ∧ (x = 0 → WI w q r fs cp gp bp id j M N a b (b + 1) w2) ∧ (x ≠ 0 → Below w.heap.size w w2) :=
  hc.mono fun _ _ hh => ⟨hh.1, fun _ => h.tries hh.2 hab, fun _ => (h.1.but hh.2.1).bel⟩
end Go.Proofs.YtmgncoialppmpaaGreat

/-
  Contract of slices.Insert over rows, of one element.
-/
namespace Go.Proofs.YtmgncoialppmpaaGreat
open Go.RowKit

theorem trios_take : ∀ (l : List Trio) (i : Nat), (trios l).take (i * 3) = trios (l.take i)
  | [], i => by simp [trios]
  | a :: l, 0 => by simp [trios]
  | a :: l, i + 1 => by
    have := trios_take l i
    unfold trios at this ⊢
    rw [List.take_succ_cons, List.flatMap_cons, List.flatMap_cons, ← this, show (i + 1) * 3 = (Trio.cells a).length + i * 3 by simp [Trio.cells]; omega, List.take_length_add_append]
theorem trios_drop : ∀ (l : List Trio) (i : Nat), (trios l).drop (i * 3) = trios (l.drop i)
  | [], i => by simp [trios]
  | a :: l, 0 => by simp [trios]
  | a :: l, i + 1 => by
    have := trios_drop l i
    unfold trios at this ⊢
    rw [List.drop_succ_cons, List.flatMap_cons, ← this, show (i + 1) * 3 = (Trio.cells a).length + i * 3 by simp [Trio.cells]; omega, List.drop_length_add_append]
theorem trios_ins (l : List Trio) (i : Nat) (a : Trio) : trios (l.take i ++ a :: l.drop i) = (trios l).take (i * 3) ++ (a.cells ++ (trios l).drop (i * 3)) := by
  rw [trios_take, trios_drop, trios_append]
  rfl
theorem trios_one (l : List Trio) : ∀ u ∈ trios l, u.oneCell' = true := by
  intro u hu
  obtain ⟨a, _, hu⟩ := List.mem_flatMap.1 hu
  simp [Trio.cells] at hu
  rcases hu with rfl | rfl | rfl <;> rfl
theorem cells_oneT (a : Trio) : ∀ u ∈ a.cells, u.oneCell' = true := by
  intro u hu
  simp [Trio.cells] at hu
  rcases hu with rfl | rfl | rfl <;> rfl
theorem rd_atGt {w : World} {b : Nat} {cs : List Value} {T : TypeId} (h : w.heap[b]? = some (.cells cs.toArray T (0, 0))) : ∀ j u, cs[j]? = some u → w.cell? ((⟨b, 0, none⟩ : Addr).add j) = some u := by
  intro j u hu
  rw [Addr.add_lit, Nat.zero_add, cell_of h]
  simpa using hu

/-- What comes of an insertion. -/
def InsertedGt (w : World) (B : Nat) (v : Value) (l : List Trio) (v' : Value) (w' : World) : Prop :=
  w'.ownsRow B 113 3 v' l.length (trios l) ∧ But (fun k => v.ownBlock = some k) w w' ∧ (v'.ownBlock = v.ownBlock ∨ v'.ownBlock = some w.heap.size)

set_option maxRecDepth 100000 in
set_option maxHeartbeats 1000000 in
theorem insert_endGt (l : List Trio) (a : Trio) (B vb n c : Nat) (A : Option Addr) (w : World) (hn : l.length = n) (hown : w.ownsRow B 113 3 (.slice A n c) n (trios l)) (hvb : w.heap[vb]? = some (.cells a.cells.toArray 113 (0, 0))) (hn2 : n ≤ 1000000) (hB : B ≤ w.heap.size) :
    Calls Tryz.prog 183 #[.slice A n c, .int .i64 n, .slice (some ⟨vb, 0, none⟩) 1 1] w fun e w' => ∃ v', e = .returned v' ∧ InsertedGt w B (.slice A n c) (l ++ [a]) v' w' := by
  have hr : Rd w (vb + 1) 3 (some ⟨vb, 0, none⟩) 1 a.cells := ⟨rfl, fun _ => ⟨_, rfl, by simp, rd_atGt hvb⟩⟩
  obtain ⟨v', w', hrun, hown', hg, hp⟩ := append_fresh (P := Tryz.prog) (ty := 23) (c := 1) infoTrio Tryz.underlying23 rfl (by omega) B _ n _ hown hr (cells_oneT a) (by unfold maxLen; omega) (by omega) hB
  have HI : Hid (InsertedGt w B (.slice A n c) (l ++ [a]) v' w') := by
    refine ⟨?_, But.of_grown hg, hp⟩
    rw [trios_append, List.length_append, hn]
    exact hown'
  have HR := Lib.hid hrun
  have hcap : n ≤ c := by
    rcases hown.2 with ⟨h1, rfl⟩ | ⟨g, cap, cur, h1, _, _, h2, _⟩
    · injection h1 with _ _ h3; omega
    · injection h1 with _ _ h3; omega
  have hc63 : c ≤ 9223372036854775807 := by
    rcases hown.2 with ⟨h1, rfl⟩ | ⟨g, cap, cur, h1, _, _, h2, h3, _⟩
    · injection h1 with _ _ h3; omega
    · injection h1 with _ _ h4; subst h4; unfold maxLen at h3; omega
  clear hown hvb hr hown' hg hp hn hrun
  obtain ⟨A', c', n', rfl⟩ : ∃ A' c' n', v' = .slice A' n' c' := by
    obtain ⟨A', c', e⟩ := own_form HI.out.1
    exact ⟨A', c', _, e⟩
  rcases A with _ | ad
  all_goals
    by_cases hcn : c = n
    all_goals
      go_enter Tryz.func183, Tryz.ntmps183
      go_wp2_with (at_builtin; refine wpList_append_run rfl _ _ _ rfl _ _ _ _ rfl rfl HR.out ?_)
      go_ret
      exact ⟨_, rfl, HI.out⟩

set_option maxRecDepth 100000 in
set_option maxHeartbeats 4000000 in
theorem insert_growGt (l : List Trio) (a : Trio) (B vb g i n c : Nat) (w : World) (hn : l.length = n) (hown : w.ownsRow B 113 3 (.slice (some ⟨g, 0, none⟩) n c) n (trios l)) (hvb : w.heap[vb]? = some (.cells a.cells.toArray 113 (0, 0))) (hn2 : n ≤ 1000000) (hB : B ≤ w.heap.size) (hi : i < n) (hroom : c < n + 1) :
    Calls Tryz.prog 183 #[.slice (some ⟨g, 0, none⟩) n c, .int .i64 i, .slice (some ⟨vb, 0, none⟩) 1 1] w fun e w' => ∃ v', e = .returned v' ∧ InsertedGt w B (.slice (some ⟨g, 0, none⟩) n c) (l.take i ++ a :: l.drop i) v' w' := by
  obtain ⟨cur, hh, hBg, hnc, hcm, hcs, hcl⟩ := own_blk hown
  obtain rfl : c = n := by omega
  obtain ⟨i0, hi0, hz0, hz1, hz2⟩ := info_parts infoTrio
  have hcells := hown.cells (g := g) rfl
  have hxl : (trios l).length = c * 3 := hown.1
  -- append(s[:i], make(..)...)
  have hold : (Builtin.firstCells i0.size i (.slice (some ⟨g, 0, none⟩) i c)).run Tryz.prog w.drew = .ok ((trios l).take (i * 3)).toArray w.drew := by
    rw [hz1]
    refine run_firstCells_some w.drew 3 i ⟨g, 0, none⟩ i c _ (by simp [hxl]; omega) (fun j v hj => ?_)
    rw [List.getElem?_take] at hj
    split at hj
    · exact hcells j v hj
    · cases hj
  have hrz : ∀ ty, (Builtin.append_ #[23, 3] ty #[.slice (some ⟨g, 0, none⟩) i c, .int .i64 ((c + 1 - i : Nat) : Int)]).run Tryz.prog w = _ := fun ty =>
    Lib.run_append_grow_zeros w 23 3 ty 113 i0 _ .i64 .i64 Tryz.underlying23 Tryz.underlying3 hi0 hz0 (some ⟨g, 0, none⟩) i c _ hold (c + 1 - i) (by omega) (by omega) (by omega) (by omega) (by rw [hz2]; omega) (by rw [hz2, show i + (c + 1 - i) = c + 1 by omega]; exact growslice_fits (by omega) (by omega))
  rw [show i + (c + 1 - i) = c + 1 by omega] at hrz
  generalize hG : grownCap w (c + 1) c 113 = G at hrz
  have hGn : c + 1 ≤ G := by rw [← hG]; exact grownCap_ge w _ _ _
  have hG63 : G ≤ maxLen := by rw [← hG]; exact grownCap_le_maxLen w (c + 1) c _ (by unfold maxLen; omega)
  generalize hZ : (Builtin.zeroCells (Value.agg #[.int .i64 0, .int .i64 0, .int .i64 0]).cells (c + 1 - i)) = Z at hrz
  have hZl : Z.size = (c + 1 - i) * 3 := by rw [← hZ, size_zeroCells]; rfl
  generalize hY : (Builtin.zeroCells (Value.agg #[.int .i64 0, .int .i64 0, .int .i64 0]).cells (G - (c + 1))) = Y at hrz
  have hYl : Y.size = (G - (c + 1)) * 3 := by rw [← hY, size_zeroCells]; rfl
  have hown0 : (w.drew.alloc (.cells (((trios l).take (i * 3)).toArray ++ Z ++ Y) 113)).ownsRow B 113 3 (.slice (some ⟨w.heap.size, 0, none⟩) (c + 1) G) (c + 1) ((trios l).take (i * 3) ++ Z.toList) := by
    have hlen : ((trios l).take (i * 3) ++ Z.toList).length = (c + 1) * 3 := by simp [hxl, hZl]; omega
    refine ⟨hlen, .inr ⟨w.heap.size, G, _, rfl, hB, heap_new w.drew _, hGn, hG63, by simp [hxl, hZl, hYl]; omega, ?_⟩⟩
    rw [Array.toList_append, Array.toList_append, ← hlen]
    exact List.take_left
  generalize hW0 : w.drew.alloc (.cells (((trios l).take (i * 3)).toArray ++ Z ++ Y) 113) = W0 at hrz hown0
  have hk0 : ∀ k, k < w.heap.size → W0.heap[k]? = w.heap[k]? := fun k hk => by rw [← hW0]; exact Below.heap_alloc w.drew _ _ hk
  have hz0' : W0.heap.size = w.heap.size + 1 := by rw [← hW0]; simp
  have hinfo : (Tryz.prog.info? 113).map (·.size) = some 3 := by rw [hi0]; simp [hz1]
  have hvlt := lt_of_blk hvb
  have hglt := lt_of_blk hh
  -- copy(s2[i:], v)
  have hcp1 : ∀ ty dc, _ := fun ty dc => copy_own (P := Tryz.prog) (ty := ty) hown0 Tryz.underlying23 hinfo i 1 (c + 1 - i) dc 1 1 ⟨vb, 0, none⟩ a.cells (by simp only [Nat.min_def]; split <;> omega) rfl (by omega) (rd_atGt ((hk0 vb hvlt).trans hvb)) (cells_oneT a)
  have hown1 := (hcp1 0 0).2
  generalize hW1 : W0.setCells w.heap.size (i * 3) a.cells = W1 at hcp1 hown1
  have hk1 : ∀ k, k < w.heap.size → W1.heap[k]? = w.heap[k]? := fun k hk => by rw [← hW1, setCells_other _ _ _ _ (by omega)]; exact hk0 k hk
  -- copy(s2[i+1:], s[i:])
  have hsrc : ∀ j u, ((trios l).drop (i * 3))[j]? = some u → W1.cell? ((⟨g, i * 3, none⟩ : Addr).add j) = some u := by
    intro j u hu
    rw [List.getElem?_drop] at hu
    have := hcells _ u hu
    rw [Addr.add_lit] at this ⊢
    rw [Nat.zero_add] at this
    rw [← this]
    unfold World.cell?
    rw [hk1 g hglt]
  have hcp2 : ∀ ty dc sc, _ := fun ty dc sc => copy_own (P := Tryz.prog) (w := W1.drew) (ty := ty) hown1 Tryz.underlying23 hinfo (i + 1) (c - i) (c + 1 - (i + 1)) dc (c - i) sc ⟨g, i * 3, none⟩ ((trios l).drop (i * 3)) (by simp only [Nat.min_def]; split <;> omega) (by simp [hxl]; omega) (by omega) hsrc (fun u hu => trios_one l u (List.mem_of_mem_drop hu))
  have hown2 := (hcp2 0 0 0).2
  rw [ins_new hxl (by omega) (by simp [hZl]) rfl, ← trios_ins] at hown2
  generalize hW2 : W1.drew.setCells w.heap.size ((i + 1) * 3) ((trios l).drop (i * 3)) = W2 at hcp2 hown2
  have hkk : (c : Int) + 1 - (i : Int) = ((c + 1 - i : Nat) : Int) := by omega
  have HI : Hid (InsertedGt w B (.slice (some ⟨g, 0, none⟩) c c) (l.take i ++ a :: l.drop i) (.slice (some ⟨w.heap.size, 0, none⟩) (c + 1) G) W2) := by
    refine ⟨?_, ⟨?_, ?_, ?_, ?_, fun k hk _ => ?_⟩, .inr rfl⟩
    · rw [show (l.take i ++ a :: l.drop i).length = c + 1 by simp; omega]; exact hown2
    · rw [← hW2, (setCells_below (B := 0) (Nat.zero_le _) _ _ _).os, show W1.drew.os = W1.os from rfl, ← hW1, (setCells_below (B := 0) (Nat.zero_le _) _ _ _).os, ← hW0]; rfl
    · rw [← hW2, (setCells_below (B := 0) (Nat.zero_le _) _ _ _).tape, show W1.drew.tape = W1.tape from rfl, ← hW1, (setCells_below (B := 0) (Nat.zero_le _) _ _ _).tape, ← hW0]; rfl
    · rw [← hW2, (setCells_below (B := 0) (Nat.zero_le _) _ _ _).output, show W1.drew.output = W1.output from rfl, ← hW1, (setCells_below (B := 0) (Nat.zero_le _) _ _ _).output, ← hW0]; rfl
    · have h1 := (setCells_below (B := 0) (g := w.heap.size) (Nat.zero_le _) ((trios l).drop (i * 3)) W1.drew ((i + 1) * 3)).size
      have h2 := (setCells_below (B := 0) (g := w.heap.size) (Nat.zero_le _) a.cells W0 (i * 3)).size
      rw [hW2] at h1
      rw [hW1] at h2
      have h3 : W1.drew.heap.size = W1.heap.size := rfl
      omega
    · rw [← hW2, setCells_other _ _ _ _ (by omega)]
      exact hk1 k hk
  have HRZ := Lib.hid hrz; have HC1 := Lib.hid hcp1; have HC2 := Lib.hid hcp2
  have hG63' : G ≤ 9223372036854775807 := by unfold maxLen at hG63; omega
  clear hrz hcp1 hcp2 hown hown0 hown1 hown2 hcells hsrc hold hh hcs hcl hG hZ hZl hY hYl hz0 hz1 hz2 hi0 hinfo hxl hn hvb hk0 hk1 hz0' hW0 hW1 hW2 hG63 hcm hnc
  have hw1 : IntKind.i64.wrap ((i : Int) + 1) = (i : Int) + 1 := by rw [IntKind.wrap_i64]; omega
  have hb1 : (0 : Int) ≤ (i : Int) + 1 := by omega
  have htn : ((i : Int) + 1).toNat = i + 1 := by omega
  have hGi : ¬ (G = i) := by omega
  have hGim : ¬ (G = i + 1) := by omega
  have hci : ¬ (c = i) := by omega
  have hin : i ≤ c := by omega
  go_enter Tryz.func183, Tryz.ntmps183
  have hc1 := (HC1.out 3 (G - i)).1
  go_wp2_with (at_builtin; refine wpList_append_run2 rfl _ _ _ _ rfl _ _ _ _ rfl rfl (HRZ.out _) ?_)
  go_region_law (refine step_copy_run rfl _ _ _ _ rfl (.slice (some ⟨w.heap.size, (i + 1) * 3, none⟩) (c + 1 - (i + 1)) (G - (i + 1))) (.slice (some ⟨g, i * 3, none⟩) (c - i) (c - i)) _ _ (by simp [Act.eval, Act.put]) (by simp [Act.eval, Act.put]) (HC2.out _ _ _).1 ?_)
  go_wp2
  go_ret
  exact ⟨_, rfl, HI.out⟩
end Go.Proofs.YtmgncoialppmpaaGreat
