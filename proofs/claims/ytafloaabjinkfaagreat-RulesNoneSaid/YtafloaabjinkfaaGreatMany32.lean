/-
  Several texts, one behind the other: what each holds stands ahead of it.
-/
import Derived.Test.YtafloaabjinkfaaGreatMany31
import Derived.Test.YtafloaabjinkfaaGreatMany3
import Derived.Test.YtafloaabjinkfaaGreatMany28
import Derived.Test.YtafloaabjinkfaaGreatMany30

/-
  Contract of rules' (*wish).sumsFit.
-/
namespace Go.Proofs.YtafloaabjinkfaaGreat
open Go.RowKit

/-- What has come up fits. -/
def Came (D : DataW Unit) (f : Int → Int → Int) (left : Lit → Bool) : Prop := ∀ a e, in64 a → in64 e → Maps.has D (plKey a e) = true → left (plKey a e) = false → fits1 (f a e) = true
theorem SumsAt.absent {w : World} {b n : Nat} {D : DataW Unit} {f : Int → Int → Int} (h : SumsAt w b n D f) {a e : Int} (ha : in64 a) (he : in64 e) (hno : Maps.has D (plKey a e) = false) : f a e = 0 := by
  have h1 := h.at' a e ha he
  rw [Maps.atKey_of_not_has hno] at h1
  injection h1 with h1
  injection h1 with _ h1
  exact h1.symm
theorem Came.all {w : World} {b n : Nat} {D : DataW Unit} {f : Int → Int → Int} {left : Lit → Bool} (h : SumsAt w b n D f) (hc : Came D f left) (hl : ∀ kl, left kl = false) {a e : Int} (ha : in64 a) (he : in64 e) : fits1 (f a e) = true := by
  cases hh : Maps.has D (plKey a e)
  · rw [h.absent ha he hh]; rfl
  · exact hc a e ha he hh (hl _)
theorem tooJ_fits {M : List Jrn} (hok : ∀ j ∈ M, checkE j = 0) (h : ∀ a e, in64 a → in64 e → fits1 (sumM a e M) = true) : moneyE M = 0 := by
  unfold moneyE
  rw [tooJ_no, if_neg (by decide)]
  intro j hj x hx
  obtain ⟨_, _, h1, h2⟩ := checkE_fits (hok j hj)
  have := h2 x hx
  exact h _ _ ⟨by omega, by omega⟩ ⟨by omega, by omega⟩
theorem tooJ_bad {M : List Jrn} {a e : Int} (h : fits1 (sumM a e M) = false) : moneyE M = 2 := by
  unfold moneyE
  rw [tooJ_of h, if_pos rfl]

set_option maxRecDepth 100000 in
set_option maxHeartbeats 2000000 in
theorem sumsFit_any (q B c : Nat) (v : Value) (l : List JR) (w : World) (h : TomeAt w B c v l) (hq : w.cell? ⟨q, 16, none⟩ = some (.pointer (some ⟨c, 0, none⟩))) :
    Calls Tryz.prog 53 #[.pointer (some ⟨q, 0, none⟩)] w fun e w' => e = .returned (.int .i64 (moneyE (l.map JR.j))) ∧ Below w.heap.size w w' := by
  have ks := Lib.hid (sumsOf_any B c v l w h)
  have hok : ∀ j ∈ l.map JR.j, checkE j = 0 := fun j hj => by
    obtain ⟨a, ha, rfl⟩ := List.mem_map.1 hj
    exact h.ok a ha
  have HOK := Lib.hid hok
  clear h hok
  generalize l.map JR.j = M at *
  go_enter Tryz.func53, Tryz.ntmps53
  go_wp2_with fail
  refine ks.out.mono ?_
  rintro e w1 ⟨mb, nm, D, rfl, hge, hnm, hS, hb1⟩
  have HS := Lib.hid hS; have HB1 := Lib.hid hb1
  clear hS hb1 hq ks
  go_wp2_with (at_range; refine wpList_range_own _ rfl _ 99 rfl 102 3 plKeyed Tryz.underlying99 plR mb nm D rfl HS.out.own ?_; intro w0 hrg0 hg0 hs0)
  go_frame
  have HB0 : Hid (Below w.heap.size w w0) := HB1.out.trans ((But.of_grown hg0).below (fun k _ hk => by cases hk) HB1.out.size)
  have hmb : mb < w1.heap.size := HS.out.lt
  go_loopw [4] (fun _ wr => ∃ left cnt, wr.ranges Tryz.prog 102 plR mb w1.heap.size nm D left cnt ∧ Hid (Came D (fun a e => sumM a e M) left) ∧ Below w.heap.size w wr) (fun _ wr => wr.rangeLeft mb w1.heap.size)
  case atStart => exact ⟨_, _, hrg0, Lib.hid (show Came D (fun a e => sumM a e M) (Maps.has D) from fun a e _ _ h1 h2 => by rw [h1] at h2; cases h2), HB0.out⟩
  case round =>
    obtain ⟨left, cnt, hrg, hcame, hbel⟩ := hrel
    have HRG := Lib.hid hrg; have HBL := Lib.hid hbel; have HC := hcame
    clear hrg hbel hrg0 hg0
    go_wp2_with (at_next; refine wpList_next_ranges _ rfl _ rfl 102 plKeyed plR (fun p : Int × Int => plVal p.1 p.2) (Value.int .i64) (fun key kl hk => by obtain ⟨a, e, h1, _⟩ := keyOf_pl_inv hk; exact ⟨(a, e), h1⟩) (fun u y hu => by obtain ⟨x, h1, _⟩ := plainElem_int_inv Tryz.underlying3 hu; exact ⟨x, h1⟩) mb w1.heap.size nm D left cnt rfl HRG.out ?_ ?_)
    · intro hc0 hl0
      have HE := Lib.hid (tooJ_fits HOK.out fun a e ha he => HC.out.all HS.out hl0 ha he)
      go_wp2_with fail
      go_ret
      exact ⟨ret_int HE.out.symm, HBL.out⟩
    · intro p1 p2 x kl y1 y2 w2 cnt2 hk hlk hR hat hrg2 hlt hg2 hs2 hen
      obtain ⟨a, e, hpl, ha, he, rfl⟩ := keyOf_pl_inv hk
      unfold plVal at hpl
      injection hpl with hpl
      have hpl := congrArg Array.toList hpl
      simp at hpl
      obtain ⟨x', hx', hy, hwx⟩ := plainElem_int_inv Tryz.underlying3 hR
      injection hx' with _ hx'
      subst hx'
      have hsum : sumM a e M = x := by
        have h1 := HS.out.at' a e ha he
        have hy1 : y1 = _ := congrArg Prod.fst hy
        rw [hat, hy1] at h1
        injection h1 with h1
        injection h1 with _ h1
        exact h1.symm
      unfold plVal at hen
      have HRG2 := Lib.hid hrg2
      have HB2 : Hid (Below w.heap.size w w2) := HBL.out.trans ((But.of_grown hg2).below (fun k _ hk => by injection hk with hk; have := HB1.out.size; omega) HBL.out.size)
      have HSUM := Lib.hid hsum
      have HA := Lib.hid ha; have HE := Lib.hid he
      have HLT := Lib.hid hlt
      have kf := Lib.hid (fits_one x w2 (T := 3))
      have hz2 := HB2.out.size
      clear hk hlk hR hat hrg2 hlt hg2 hs2 hpl hy hwx hsum ha he
      cases hf : fits1 x
      · rw [hf] at kf
        go_wp2_with fail
        refine kf.out.mono ?_
        rintro e3 w3 ⟨rfl, rfl⟩
        go_wp2_with fail
        go_ret
        exact ⟨ret_int (tooJ_bad (by rw [HSUM.out]; exact hf)).symm, HB2.out.alloc hz2 _⟩
      · rw [hf] at kf
        go_wp2_with fail
        refine kf.out.mono ?_
        rintro e3 w3 ⟨rfl, rfl⟩
        go_wp2_with fail
        refine ⟨⟨_, cnt2, HRG2.out.alloc _, Lib.hid (show Came D (fun a e => sumM a e M) (fun z => left z && !z.sameKey (plKey a e)) from ?_), HB2.out.alloc hz2 _⟩, ?_⟩
        · intro a2 e2 ha2 he2 h1 h2
          cases hl : left (plKey a2 e2)
          · exact HC.out a2 e2 ha2 he2 h1 hl
          · replace h2 : (left (plKey a2 e2) && !(plKey a2 e2).sameKey (plKey a e)) = false := h2
            rw [hl, Bool.true_and, Bool.not_eq_false'] at h2
            obtain ⟨rfl, rfl⟩ := plKey_inj ha2 he2 HA.out HE.out (WideAt.sameKey_eq h2)
            show fits1 (sumM a2 e2 M) = true
            rw [HSUM.out]
            exact hf
        · rw [(HRG2.out.alloc _).left_eq, HRG.out.left_eq]
          exact HLT.out
end Go.Proofs.YtafloaabjinkfaaGreat

/-
  A wish while its questions are asked.
-/
namespace Go.Proofs.YtafloaabjinkfaaGreat
open Go.RowKit

/-- The row of questions stands; nothing but the wish is written, of all that was there. -/
structure MidW (w w1 : World) (q r : Nat) (fs : List FuncId) : Prop where
  bel : Below w.heap.size w w1
  low : w.heap.size ≤ q
  row : w1.heap[r]? = some (.cells (fs.map (askV (.pointer (some ⟨q, 0, none⟩)))).toArray 123 (0, 0))
  ne : r ≠ q
theorem MidW.but {w w1 w2 : World} {q r : Nat} {fs : List FuncId} (h : MidW w w1 q r fs) (hb : But (fun k => k = q) w1 w2) : MidW w w2 q r fs :=
  ⟨h.bel.trans (hb.below (fun k _ hk => by rw [hk]; exact h.low) h.bel.size), h.low, (hb.block r (lt_of_blk h.row) h.ne).trans h.row, h.ne⟩
theorem MidW.below {w w1 w2 : World} {q r : Nat} {fs : List FuncId} (h : MidW w w1 q r fs) (hb : Below w1.heap.size w1 w2) : MidW w w2 q r fs := h.but (But.of_below hb)
theorem MidW.rd {w w1 : World} {q r : Nat} {fs : List FuncId} (h : MidW w w1 q r fs) : Rd w1 (r + 1) 1 (some ⟨r, 0, none⟩) fs.length (fs.map (askV (.pointer (some ⟨q, 0, none⟩)))) := by
  refine ⟨by simp, fun _ => ⟨_, rfl, Nat.lt_succ_self _, fun i u hu => ?_⟩⟩
  have := cell_of h.row i
  rw [List.getElem?_toArray] at this
  rw [Addr.add_lit]
  simpa [hu] using this

/-- Ahead of its question i: till question a no journal was found; then, till question b, it was; then there is a book of its own. -/
def WI (w : World) (q r : Nat) (fs : List FuncId) (cp gp bp : Value) (id : Int) (j : JR) (M N : List Jrn) (a b i : Nat) (w1 : World) : Prop :=
  MidW w w1 q r fs ∧ (i ≤ a → ∃ tv, WishAt w1 q cp gp bp id j zeroR tv) ∧ (a < i → i ≤ b → ∃ o tv, o.j = oldJ M id ∧ WishAt w1 q cp gp bp id j o tv ∧ Rd w1 w1.heap.size 3 o.A o.j.lines.length (lins o.j.lines)) ∧
    (i = b + 1 → ∃ o B d v l, WishAt w1 q cp gp bp id j o (.pointer (some ⟨d, 0, none⟩)) ∧ TomeAt w1 B d v l ∧ l.map JR.j = N)
section
variable {w w1 w2 : World} {q r : Nat} {fs : List FuncId} {cp gp bp : Value} {id : Int} {j : JR} {M N : List Jrn} {a b i : Nat}
theorem WI.quiet (h : WI w q r fs cp gp bp id j M N a b i w1) (hb : Below w1.heap.size w1 w2) (hia : i ≠ a) (hib : i < b) : WI w q r fs cp gp bp id j M N a b (i + 1) w2 := by
  obtain ⟨h1, h2, h3, h4⟩ := h
  refine ⟨h1.below hb, fun hi => ?_, fun hi hi2 => ?_, fun hi => by omega⟩
  · obtain ⟨tv, g⟩ := h2 (by omega)
    exact ⟨tv, g.below hb⟩
  · obtain ⟨o, tv, g1, g2, g3⟩ := h3 (by omega) (by omega)
    exact ⟨o, tv, g1, g2.below hb, (g3.below hb).wide hb.size⟩
theorem WI.last (h : WI w q r fs cp gp bp id j M N a b i w1) (hb : Below w1.heap.size w1 w2) (hia : a ≤ b) (hib : b < i) : WI w q r fs cp gp bp id j M N a b (i + 1) w2 :=
  ⟨h.1.below hb, fun hi => by omega, fun hi hi2 => by omega, fun hi => by omega⟩
theorem WI.finds {tv : Value} (h : WI w q r fs cp gp bp id j M N a b a w1) (hf : FindsEnd w1 q cp gp bp tv id j M w2) (hl : liveE M id = 0) (hab : a < b) : WI w q r fs cp gp bp id j M N a b (a + 1) w2 := by
  obtain ⟨g1, g2⟩ := hf
  obtain ⟨o, k1, k2, k3⟩ := g2 hl
  exact ⟨h.1.but g1, fun hi => by omega, fun _ _ => ⟨o, tv, k1, k2, k3⟩, fun hi => by omega⟩
theorem WI.tries {o : JR} (h : WI w q r fs cp gp bp id j M N a b b w1) (ht : TriesEnd w1 q cp gp bp id j o N w2) (hab : a ≤ b) : WI w q r fs cp gp bp id j M N a b (b + 1) w2 := by
  obtain ⟨g1, d, v, l, k1, k2, k3⟩ := ht
  exact ⟨h.1.but g1, fun hi => by omega, fun hi hi2 => by omega, fun _ => ⟨o, _, d, v, l, k1, k2, k3⟩⟩
end

/-- What is asked, in memory. -/
structure PartsAt (w : World) (c g b : Nat) (C : List Acc) (G : List Trio) (l : List JR) : Prop where
  chart : ∃ B v, ChartAt w B c v C
  gates : ∃ B v, GatesAt w B g v G
  book : ∃ B v, TomeAt w B b v l
theorem PartsAt.below {w w' : World} {c g b : Nat} {C : List Acc} {G : List Trio} {l : List JR} (h : PartsAt w c g b C G l) (hb : Below w.heap.size w w') : PartsAt w' c g b C G l := by
  obtain ⟨⟨B1, v1, h1⟩, ⟨B2, v2, h2⟩, ⟨B3, v3, h3⟩⟩ := h
  exact ⟨⟨B1, v1, h1.below hb⟩, ⟨B2, v2, h2.below hb⟩, ⟨B3, v3, h3.below hb⟩⟩
def ptr (c : Nat) : Value := .pointer (some ⟨c, 0, none⟩)

/-- A question that changes nothing. -/
theorem ask_quiet {w w1 : World} {q r : Nat} {fs : List FuncId} {cp gp bp : Value} {id : Int} {j : JR} {M N : List Jrn} {a b i : Nat} {F : FuncId} {x : Int} (h : WI w q r fs cp gp bp id j M N a b i w1) (hia : i ≠ a) (hib : i < b)
    (hc : Calls Tryz.prog F #[.pointer (some ⟨q, 0, none⟩)] w1 fun e w2 => e = .returned (.int .i64 x) ∧ Below w1.heap.size w1 w2) :
    Calls Tryz.prog F #[.pointer (some ⟨q, 0, none⟩)] w1 fun e w2 => e = .returned (.int .i64 x) ∧ (x = 0 → WI w q r fs cp gp bp id j M N a b (i + 1) w2) ∧ (x ≠ 0 → Below w.heap.size w w2) :=
  hc.mono fun _ _ hh => ⟨hh.1, fun _ => h.quiet hh.2 hia hib, fun _ => (h.1.below hh.2).bel⟩
theorem ask_finds {w w1 : World} {q r c g bk : Nat} {fs : List FuncId} {id : Int} {j : JR} {C : List Acc} {G : List Trio} {l : List JR} {N : List Jrn} {a b : Nat} (h : WI w q r fs (ptr c) (ptr g) (ptr bk) id j (l.map JR.j) N a b a w1) (hP : PartsAt w c g bk C G l) (hab : a < b) :
    Calls Tryz.prog 42 #[.pointer (some ⟨q, 0, none⟩)] w1 fun e w2 => e = .returned (.int .i64 (liveE (l.map JR.j) id)) ∧ (liveE (l.map JR.j) id = 0 → WI w q r fs (ptr c) (ptr g) (ptr bk) id j (l.map JR.j) N a b (a + 1) w2) ∧ (liveE (l.map JR.j) id ≠ 0 → Below w.heap.size w w2) := by
  obtain ⟨tv, hw⟩ := h.2.1 (Nat.le_refl _)
  obtain ⟨B, v, hT⟩ := (hP.below h.1.bel).book
  exact (findsLive_any q B bk v l (ptr c) (ptr g) tv id j zeroR w1 hw hT).mono fun e w2 hh => ⟨hh.1, fun h0 => h.finds hh.2 h0 hab, fun _ => (h.1.but hh.2.1).bel⟩
theorem ask_fits {w w1 : World} {q r : Nat} {fs : List FuncId} {cp gp bp : Value} {id : Int} {j : JR} {M N : List Jrn} {a b : Nat} (h : WI w q r fs cp gp bp id j M N a b (b + 1) w1) (hab : a ≤ b) :
    Calls Tryz.prog 53 #[.pointer (some ⟨q, 0, none⟩)] w1 fun e w2 => e = .returned (.int .i64 (moneyE N)) ∧ (moneyE N = 0 → WI w q r fs cp gp bp id j M N a b (b + 1 + 1) w2) ∧ (moneyE N ≠ 0 → Below w.heap.size w w2) := by
  obtain ⟨o, B, d, v, l, h1, h2, h3⟩ := h.2.2.2 rfl
  obtain ⟨_, _, _, _, p16⟩ := h1.head
  rw [← h3]
  exact (sumsFit_any q B d v l w1 h2 p16).mono fun e w2 hh => ⟨hh.1, fun _ => by rw [h3]; exact h.last hh.2 hab (Nat.lt_succ_self _), fun _ => (h.1.below hh.2).bel⟩
theorem ask_tries {w w1 : World} {q r : Nat} {fs : List FuncId} {cp gp bp : Value} {id : Int} {j o : JR} {M N : List Jrn} {a b : Nat} {F : FuncId} {x : Int} (h : WI w q r fs cp gp bp id j M N a b b w1) (hab : a ≤ b)
    (hc : Calls Tryz.prog F #[.pointer (some ⟨q, 0, none⟩)] w1 fun e w2 => e = .returned (.int .i64 x) ∧ TriesEnd w1 q cp gp bp id j o N w2) :
    Calls Tryz.prog F #[.pointer (some ⟨q, 0, none⟩)] w1 fun e w2 => e = .returned (.int .i64 x) ∧ (x = 0 → WI w q r fs cp gp bp id j M N a b (b + 1) w2) ∧ (x ≠ 0 → Below w.heap.size w w2) :=
  hc.mono fun _ _ hh => ⟨hh.1, fun _ => h.tries hh.2 hab, fun _ => (h.1.but hh.2.1).bel⟩
end Go.Proofs.YtafloaabjinkfaaGreat
