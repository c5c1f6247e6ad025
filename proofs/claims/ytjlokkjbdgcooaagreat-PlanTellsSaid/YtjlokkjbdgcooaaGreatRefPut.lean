/-
  Contract of the reference's Put over journals.
-/
import Derived.Test.YtjlokkjbdgcooaaGreatRefBook
import Derived.Test.YtjlokkjbdgcooaaGreatMany24
namespace Go.Proofs.YtjlokkjbdgcooaaGreat
open Go.RowKit

/-- The same behind draws. -/
theorem append_jrs {w : World} {base m : Nat} {v : Value} {L : List JR} (a : JR) (h : w.ownsRow base 111 6 v m (jrs L)) (hb : base ≤ w.heap.size) (hm : m ≤ 1000000) (q : Nat) :
    ∃ v' w', (∀ ty, (Builtin.append_ #[48, 48] ty #[v, .slice (some ⟨w.heap.size, 0, none⟩) 1 1]).run Tryz.prog ((w.drewN q).alloc (.cells #[.int .i64 a.j.id, .int .i64 a.j.ent, .int .i64 a.j.per, .string a.j.ref, .slice a.A a.j.lines.length a.c, .bool a.j.void] 111)) = .ok v' w') ∧ (∃ A4 m4 c4, v' = .slice A4 m4 c4 ∧ w'.ownsRow base 111 6 (.slice A4 m4 c4) (m + 1) (jrs (L ++ [a])) ∧ But (fun k => v.ownBlock = some k) w w' ∧ Below base w w') := by
  obtain ⟨v', w', h1, h2, h3, h4⟩ := append_jr (w := w.drewN q) a h hb hm
  refine ⟨v', w', h1, ?_⟩
  obtain ⟨A4, c4, rfl⟩ := own_form h2
  exact ⟨A4, _, c4, rfl, h2, (But.of_below (Drew.mk w q).below).trans h3, (Drew.mk w q).below.trans h4⟩

/-- Behind k rows, the journal among them. -/
def PutDone (W : World) (l : List JR) (j : Jrn) (p q k : Nat) (v : Value) (w : World) : Prop :=
  ∃ A2 c2, w.ownsRow W.heap.size 111 6 v (p + 1 + (k - q)) (jrs (l.take p ++ ⟨j, A2, c2⟩ :: (l.drop q).take (k - q))) ∧ w.ownsRow W.heap.size 113 3 (.slice A2 j.lines.length c2) j.lines.length (lins j.lines) ∧ Below W.heap.size W w
/-- Behind k rows: what Put has. -/
def PutSt (W : World) (l : List JR) (j : Jrn) (p q k : Nat) (v : Value) (d : Bool) (w : World) : Prop :=
  (k ≤ p ∧ d = false ∧ w.ownsRow W.heap.size 111 6 v k (jrs (l.take k)) ∧ Below W.heap.size W w) ∨
  (p < k ∧ d = true ∧ PutDone W l j p q k v w)
/-- What Put answers. -/
def PutEnd (w : World) (l : List JR) (j : Jrn) (v : Value) (w' : World) : Prop :=
  ∃ A2 c2, w'.ownsRow w.heap.size 111 6 v (putK JR.id l ⟨j, A2, c2⟩).length (jrs (putK JR.id l ⟨j, A2, c2⟩)) ∧ w'.ownsRow w.heap.size 113 3 (.slice A2 j.lines.length c2) j.lines.length (lins j.lines) ∧ Below w.heap.size w w'

theorem PutSt.go {W w w' : World} {l : List JR} {j : Jrn} {p q k : Nat} {v v' : Value} {a : JR} (hk : k < p) (ha : l[k]? = some a) (_h : w.ownsRow W.heap.size 111 6 v k (jrs (l.take k))) (hb : Below W.heap.size W w) (hown : w'.ownsRow W.heap.size 111 6 v' (k + 1) (jrs (l.take k ++ [a]))) (hb2 : Below W.heap.size w w') : PutSt W l j p q (k + 1) v' false w' := by
  refine .inl ⟨hk, rfl, ?_, hb.trans hb2⟩
  obtain ⟨h1, rfl⟩ := List.getElem?_eq_some_iff.1 ha
  rw [List.take_succ_eq_append_getElem h1]
  exact hown
theorem PutDone.fin {W w w' : World} {l : List JR} {j : Jrn} {v : Value} {n : Nat} (hl : l.length = n) (hp : posK JR.id l j.id ≤ n) (hs : Below w.heap.size w W) (hfq : posK JR.id l j.id + (if (findK JR.id l j.id).isSome = true then 1 else 0) ≤ n) (h : PutDone W l j (posK JR.id l j.id) (posK JR.id l j.id + (if (findK JR.id l j.id).isSome = true then 1 else 0)) n v w') : PutEnd w l j v w' := by
  obtain ⟨A2, c2, h1, h2, h3⟩ := h
  have e0 : ∀ Q, (l.drop Q).take (n - Q) = l.drop Q := fun Q => List.take_of_length_le (by simp; omega)
  have e1 : l.take (posK JR.id l j.id) ++ ⟨j, A2, c2⟩ :: (l.drop (posK JR.id l j.id + (if (findK JR.id l j.id).isSome = true then 1 else 0))).take (n - (posK JR.id l j.id + (if (findK JR.id l j.id).isSome = true then 1 else 0))) = putK JR.id l ⟨j, A2, c2⟩ := by
    rw [e0]; rfl
  rw [e1] at h1
  have e2 : posK JR.id l j.id + 1 + (n - (posK JR.id l j.id + (if (findK JR.id l j.id).isSome = true then 1 else 0))) = (putK JR.id l ⟨j, A2, c2⟩).length := by
    rw [← e1, e0, List.length_append, List.length_cons, List.length_take, List.length_drop]
    omega
  rw [e2] at h1
  exact ⟨A2, c2, own_base h1 hs.size, own_base h2 hs.size, hs.trans (h3.mono hs.size)⟩
/-- The journal comes, behind p rows. -/
theorem PutDone.now {W w w1 w' : World} {l : List JR} {j : Jrn} {p q : Nat} {v v' : Value} {A2 : Option Addr} {c2 : Nat} (_hq : p ≤ q) (h : w1.ownsRow W.heap.size 111 6 v p (jrs (l.take p))) (hb : Below W.heap.size W w) (hb1 : Below w.heap.size w w1) (hl : w1.ownsRow w.heap.size 113 3 (.slice A2 j.lines.length c2) j.lines.length (lins j.lines))
    (hown : w'.ownsRow W.heap.size 111 6 v' (p + 1) (jrs (l.take p ++ [⟨j, A2, c2⟩]))) (hbut : But (fun i => v.ownBlock = some i) w1 w') (hb2 : Below W.heap.size w1 w') : PutDone W l j p q q v' w' := by
  refine ⟨A2, c2, ?_, own_base (own_kept hl fun i hi ho => hbut.block i hi fun e => own_own_ne h hl (by decide) i e ho) hb.size, (hb.trans (hb1.mono hb.size)).trans hb2⟩
  rw [Nat.sub_self, List.take_zero]
  exact hown
theorem PutDone.drew {W w : World} {l : List JR} {j : Jrn} {p q k : Nat} {v : Value} (h : PutDone W l j p q k v w) (m : Nat) : PutDone W l j p q k v (w.drewN m) := by
  obtain ⟨A2, c2, h1, h2, h3⟩ := h
  exact ⟨A2, c2, h1, h2, below_drewN h3 m⟩
/-- One more row behind it. -/
theorem PutDone.on {W w w' : World} {l : List JR} {j : Jrn} {p q k : Nat} {v v' : Value} {a : JR} (hq : q ≤ k) (ha : l[k]? = some a) {A2 : Option Addr} {c2 : Nat} (h : w.ownsRow W.heap.size 111 6 v (p + 1 + (k - q)) (jrs (l.take p ++ ⟨j, A2, c2⟩ :: (l.drop q).take (k - q)))) (hl : w.ownsRow W.heap.size 113 3 (.slice A2 j.lines.length c2) j.lines.length (lins j.lines)) (hb : Below W.heap.size W w)
    (hown : w'.ownsRow W.heap.size 111 6 v' (p + 1 + (k - q) + 1) (jrs (l.take p ++ ⟨j, A2, c2⟩ :: (l.drop q).take (k - q) ++ [a]))) (hbut : But (fun i => v.ownBlock = some i) w w') (hb2 : Below W.heap.size w w') : PutDone W l j p q (k + 1) v' w' := by
  refine ⟨A2, c2, ?_, own_kept hl fun i hi ho => hbut.block i hi fun e => own_own_ne h hl (by decide) i e ho, hb.trans hb2⟩
  obtain ⟨h1, rfl⟩ := List.getElem?_eq_some_iff.1 ha
  have e1 : (l.drop q).take (k + 1 - q) = (l.drop q).take (k - q) ++ [l[k]] := by
    rw [show k + 1 - q = (k - q) + 1 by omega, List.take_succ_eq_append_getElem (by simp; omega)]
    congr 2
    rw [List.getElem_drop]
    congr 1
    omega
  rw [e1, show p + 1 + (k + 1 - q) = p + 1 + (k - q) + 1 by omega]
  rw [List.append_assoc, List.cons_append] at hown
  exact hown

set_option maxRecDepth 100000 in
set_option maxHeartbeats 8000000 in
theorem refPut_any (l : List JR) (j : Jrn) (A A2 : Option Addr) (n c c2 B B2 : Nat) (w : World) (h : Rd w B 6 A n (jrs l)) (hB : B ≤ w.heap.size) (hn : n ≤ 100000) (hr : Rise JR.id l) (h2 : Rd w B2 3 A2 j.lines.length (lins j.lines)) (hB2 : B2 ≤ w.heap.size) (hn2 : j.lines.length ≤ 1000000) :
    Calls Tryz.prog 166 #[.slice A n c, j.val A2 j.lines.length c2] w fun e w' => ∃ v, e = .returned v ∧ PutEnd w l j v w' := by
  obtain ⟨W, hW⟩ : ∃ W, w.alloc (.cells #[.int .i64 j.id, .int .i64 j.ent, .int .i64 j.per, .string j.ref, .slice A2 j.lines.length c2, .bool j.void] 111) = W := ⟨_, rfl⟩
  have hbW : Below w.heap.size w W := by rw [← hW]; exact (Below.refl _ _).alloc (Nat.le_refl _) _
  have hzW : W.heap.size = w.heap.size + 1 := by rw [← hW]; simp
  have HW := Lib.hid hW
  have HBW := Lib.hid hbW
  have HL := Lib.hid h.jrs_len
  have HR : Hid (∀ w1, Below W.heap.size W w1 → Rd w1 B 6 A n (jrs l)) := fun w1 hb => h.far (hbW.trans (hb.mono hbW.size)) hB
  have KC : Hid (∀ w1, Below W.heap.size W w1 → Calls Tryz.prog 140 #[j.val A2 j.lines.length c2] w1 fun e w' => ∃ A' c', e = .returned (.agg #[.int .i64 j.id, .int .i64 j.ent, .int .i64 j.per, .string j.ref, .slice A' j.lines.length c', .bool j.void]) ∧ w'.ownsRow w1.heap.size 113 3 (.slice A' j.lines.length c') j.lines.length (lins j.lines) ∧ Below w1.heap.size w1 w') := fun w1 hb => refCopy_any j A2 j.lines.length c2 B2 w1 (h2.far (hbW.trans (hb.mono hbW.size)) hB2) (by have := hb.size; omega) hn2
  obtain ⟨p, hp⟩ : ∃ p, p = posK JR.id l j.id := ⟨_, rfl⟩
  obtain ⟨q, hq⟩ : ∃ q, q = p + (if (findK JR.id l j.id).isSome = true then 1 else 0) := ⟨_, rfl⟩
  have hpn : p ≤ n := by rw [hp, ← h.jrs_len]; exact posK_le _ _
  have hqn : q ≤ n := by
    rw [hq]
    split
    · rename_i hf
      have := findK_lt hr hf
      rw [← hp, h.jrs_len] at this
      omega
    · omega
  have hpq : p ≤ q ∧ q ≤ p + 1 := by rw [hq]; split <;> omega
  have HFIN : Hid (∀ v w', PutDone W l j p q n v w' → PutEnd w l j v w') := fun v w' hh => by
    rw [hq, hp] at hh hqn
    rw [hp] at hpn
    exact PutDone.fin h.jrs_len hpn hbW hqn hh
  have H1 : Hid (∀ k a, k < p → l[k]? = some a → a.j.id < j.id) := fun k a hk ha => posK_lt (key := JR.id) l j.id k a (by omega) ha
  have H2 : Hid (∀ a, l[p]? = some a → (q = p + 1 → a.j.id = j.id) ∧ (q = p → j.id < a.j.id)) := fun a ha => by
    rw [hp] at ha
    constructor
    · intro e
      rw [hq] at e
      cases hf : findK JR.id l j.id with
      | none => rw [hf] at e; simp at e
      | some b =>
        obtain ⟨h3, h4⟩ := findK_some hr hf
        rw [ha] at h3
        injection h3 with h3
        rw [h3]; exact h4
    · intro e
      rw [hq] at e
      cases hf : findK JR.id l j.id with
      | none => exact findK_none hr hf ha
      | some b => rw [hf] at e; simp at e
  have H3 : Hid (∀ k a, p < k → l[k]? = some a → j.id < a.j.id) := fun k a hk ha => by
    have hl := (List.getElem?_eq_some_iff.1 ha).1
    obtain ⟨b, hg⟩ : ∃ b, l[p]? = some b := ⟨_, List.getElem?_eq_getElem (by omega)⟩
    have := hr.lt hk hg ha
    rw [hp] at hg
    have h4 := posK_at (key := JR.id) l j.id b hg
    show j.id < JR.id a
    omega
  clear h h2 hW hbW hp hq
  unfold Jrn.val at *
  go_enter Tryz.func166, Tryz.ntmps166
  go_wp2_with fail
  rw [HW.out]
  go_loopw [5, 6, 7] (fun ov dv iv wr => ∃ (k : Nat) (d : Bool), k ≤ n ∧ iv = .int .i64 k ∧ dv = .bool d ∧ (∃ A' m' c', ov = .slice A' m' c') ∧ PutSt W l j p q k ov d wr) (fun _ _ iv _ => n - (intOf iv).toNat)
  case atStart => exact ⟨0, false, Nat.zero_le _, rfl, rfl, ⟨none, 0, 0, rfl⟩, .inl ⟨Nat.zero_le _, rfl, World.ownsRow_nil _ _ _ _, Below.refl _ _⟩⟩
  case round =>
    obtain ⟨k, d, hk, rfl, rfl, ⟨A', m', c', rfl⟩, hst⟩ := hrel
    by_cases hlt : k < n
    · have hkn : (k : Int) < (n : Int) := by omega
      rcases hst with ⟨hkp, rfl, hown, hbel⟩ | ⟨hkp, rfl, A3, c3, hown, hln, hbel⟩
      · obtain ⟨ad, b, rfl, hb1, hx, p1, p2, p3, p4, p5, p6⟩ := (HR.out wr hbel).jr hlt
        obtain ⟨b0, b1, b2, b3, b4, b5⟩ := box6 HW.out hbel
        by_cases hkp2 : k < p
        · have hid := H1.out k b hkp2 hx
          have t1 : ¬ j.id ≤ b.j.id := by omega
          have t2 : (b.j.id != j.id) = true := by simp; omega
          have HRUN := Lib.hid (append_jrs b hown hbel.size (by omega))
          have HS : Hid (∀ A4 m4 c4 w', w'.ownsRow W.heap.size 111 6 (.slice A4 m4 c4) (k + 1) (jrs (l.take k ++ [b])) → Below W.heap.size wr w' → PutSt W l j p q (k + 1) (.slice A4 m4 c4) false w') := fun A4 m4 c4 w' h1 h2 => PutSt.go hkp2 hx hown hbel h1 h2
          have hblt : ad.block < wr.heap.size := by have := hbel.size; omega
          clear hx hown hbel
          go_wp2_with fail
          go_big_quiet (fail)
          go_wp2_with fail
          go_big_quiet (fail)
          go_wp2_with (at_builtin; refine wpList_append_ex rfl _ _ _ rfl _ _ _ rfl rfl (HRUN.out _) ?_; rintro _ w' ⟨A4, m4, c4, rfl, ho', hbut, hbl⟩; have HS2 := Lib.hid (HS.out _ _ _ _ ho' hbl); clear ho' hbut hbl)
          exact ⟨⟨k + 1, false, by omega, by go_num, rfl, ⟨_, _, _, rfl⟩, HS2.out⟩, by simp [intOf]; omega⟩
        · obtain rfl : k = p := by omega
          rcases (show q = k + 1 ∨ q = k by omega) with hqp | hqp
          · have hid := (H2.out b hx).1 hqp
            have t1 : j.id ≤ b.j.id := by omega
            have t2 : (b.j.id != j.id) = false := by simp; omega
            have HK : Hid (∀ q', Calls Tryz.prog 140 #[.agg #[.int .i64 j.id, .int .i64 j.ent, .int .i64 j.per, .string j.ref, .slice A2 j.lines.length c2, .bool j.void]] (wr.drewN q') fun e w' => ∃ A' c', e = .returned (.agg #[.int .i64 j.id, .int .i64 j.ent, .int .i64 j.per, .string j.ref, .slice A' j.lines.length c', .bool j.void]) ∧ w'.ownsRow wr.heap.size 113 3 (.slice A' j.lines.length c') j.lines.length (lins j.lines) ∧ Below wr.heap.size wr w') := fun q' => (KC.out (wr.drewN q') (below_drewN hbel q')).mono (by rintro e w' ⟨A5, c5, h1, h2, h3⟩; exact ⟨A5, c5, h1, h2, (Drew.mk wr q').below.trans h3⟩)
            have HO := Lib.hid hown
            have HB := Lib.hid hbel
            have HXB := Lib.hid hx
            have hblt : ad.block < wr.heap.size := by have := hbel.size; omega
            clear hx hown hbel
            go_wp2_with fail
            go_big_quiet (fail)
            go_wp2_with fail
            refine (HK.out _).mono ?_
            rintro e w1 ⟨A5, c5, rfl, hl5, hb5⟩
            have ho5 : w1.ownsRow W.heap.size 111 6 (.slice A' m' c') k (jrs (l.take k)) := own_kept HO.out fun i hi _ => hb5.block i hi
            obtain ⟨v', w2, hrun, ho', hbut, hbl⟩ := append_jr ⟨j, A5, c5⟩ ho5 (Nat.le_trans HB.out.size hb5.size) (by omega)
            obtain ⟨A4, m4, c4, rfl⟩ : ∃ A4 m4 c4, v' = .slice A4 m4 c4 := by obtain ⟨A4, c4, e⟩ := own_form ho'; exact ⟨A4, _, c4, e⟩
            have hdone := PutDone.now (q := q) (by omega) ho5 HB.out hb5 hl5 ho' hbut hbl
            have HBW2 : Hid (Below W.heap.size W w2) := (HB.out.trans (hb5.mono HB.out.size)).trans hbl
            dsimp only at hrun
            have HRUN := Lib.hid hrun
            obtain ⟨ad', b', had, hb1', hx', p1', p2', p3', p4', p5', p6'⟩ := (HR.out w2 HBW2.out).jr hlt
            injection had with had
            subst had
            obtain rfl : b' = b := by have := HXB.out; rw [hx'] at this; injection this
            obtain ⟨d0, d1, d2, d3, d4, d5⟩ := box6 HW.out HBW2.out
            have HD := Lib.hid hdone
            have hblt2 : ad.block < w2.heap.size := by have := HBW2.out.size; omega
            clear hrun ho' hbut hbl ho5 hl5 hb5 hdone hx' p1 p2 p3 p4 p5 p6 b0 b1 b2 b3 b4 b5
            go_wp2_with (at_builtin; refine wpList_append_run rfl _ _ _ rfl _ _ _ _ rfl rfl (HRUN.out _) ?_)
            go_big_quiet (fail)
            go_wp2_with fail
            exact ⟨⟨k + 1, true, by omega, by go_num, rfl, ⟨_, _, _, rfl⟩, .inr ⟨by omega, rfl, by rw [← hqp]; exact HD.out.drew _⟩⟩, by simp [intOf]; omega⟩
          · have hid := (H2.out b hx).2 hqp
            have t1 : j.id ≤ b.j.id := by omega
            have t2 : (b.j.id != j.id) = true := by simp; omega
            have HK : Hid (∀ q', Calls Tryz.prog 140 #[.agg #[.int .i64 j.id, .int .i64 j.ent, .int .i64 j.per, .string j.ref, .slice A2 j.lines.length c2, .bool j.void]] (wr.drewN q') fun e w' => ∃ A' c', e = .returned (.agg #[.int .i64 j.id, .int .i64 j.ent, .int .i64 j.per, .string j.ref, .slice A' j.lines.length c', .bool j.void]) ∧ w'.ownsRow wr.heap.size 113 3 (.slice A' j.lines.length c') j.lines.length (lins j.lines) ∧ Below wr.heap.size wr w') := fun q' => (KC.out (wr.drewN q') (below_drewN hbel q')).mono (by rintro e w' ⟨A5, c5, h1, h2, h3⟩; exact ⟨A5, c5, h1, h2, (Drew.mk wr q').below.trans h3⟩)
            have HO := Lib.hid hown
            have HB := Lib.hid hbel
            have HXB := Lib.hid hx
            have hblt : ad.block < wr.heap.size := by have := hbel.size; omega
            clear hx hown hbel
            go_wp2_with fail
            go_big_quiet (fail)
            go_wp2_with fail
            refine (HK.out _).mono ?_
            rintro e w1 ⟨A5, c5, rfl, hl5, hb5⟩
            have ho5 : w1.ownsRow W.heap.size 111 6 (.slice A' m' c') k (jrs (l.take k)) := own_kept HO.out fun i hi _ => hb5.block i hi
            obtain ⟨v', w2, hrun, ho', hbut, hbl⟩ := append_jr ⟨j, A5, c5⟩ ho5 (Nat.le_trans HB.out.size hb5.size) (by omega)
            obtain ⟨A4, m4, c4, rfl⟩ : ∃ A4 m4 c4, v' = .slice A4 m4 c4 := by obtain ⟨A4, c4, e⟩ := own_form ho'; exact ⟨A4, _, c4, e⟩
            have hdone := PutDone.now (q := q) (by omega) ho5 HB.out hb5 hl5 ho' hbut hbl
            have HBW2 : Hid (Below W.heap.size W w2) := (HB.out.trans (hb5.mono HB.out.size)).trans hbl
            dsimp only at hrun
            have HRUN := Lib.hid hrun
            obtain ⟨ad', b', had, hb1', hx', p1', p2', p3', p4', p5', p6'⟩ := (HR.out w2 HBW2.out).jr hlt
            injection had with had
            subst had
            obtain rfl : b' = b := by have := HXB.out; rw [hx'] at this; injection this
            obtain ⟨d0, d1, d2, d3, d4, d5⟩ := box6 HW.out HBW2.out
            obtain ⟨A6, c6, hd1, hd2, hd3⟩ := hdone
            have HRUN2 := Lib.hid (append_jrs b' hd1 hd3.size (by omega))
            have HS : Hid (∀ A7 m7 c7 w', w'.ownsRow W.heap.size 111 6 (.slice A7 m7 c7) (k + 1 + (q - q) + 1) (jrs (l.take k ++ ⟨j, A6, c6⟩ :: (l.drop q).take (q - q) ++ [b'])) → But (fun i => (Value.slice A4 m4 c4).ownBlock = some i) w2 w' → Below W.heap.size w2 w' → PutDone W l j k q (q + 1) (.slice A7 m7 c7) w') := fun A7 m7 c7 w' h1 h2 h3 => PutDone.on (Nat.le_refl _) (by rw [hqp]; exact hx') hd1 hd2 hd3 h1 h2 h3
            have hblt2 : ad.block < w2.heap.size := by have := HBW2.out.size; omega
            clear hrun ho' hbut hbl ho5 hl5 hb5 hd1 hd2 hd3 hx' p1 p2 p3 p4 p5 p6 b0 b1 b2 b3 b4 b5
            go_wp2_with (at_builtin; refine wpList_append_run rfl _ _ _ rfl _ _ _ _ rfl rfl (HRUN.out _) ?_)
            go_big_quiet (fail)
            go_wp2_with (at_builtin; refine wpList_append_ex rfl _ _ _ rfl _ _ _ rfl rfl (HRUN2.out _) ?_; rintro _ w' ⟨A7, m7, c7, rfl, ho', hbut, hbl⟩; have HS2 := Lib.hid (HS.out _ _ _ _ ho' hbut hbl); clear ho' hbut hbl)
            exact ⟨⟨k + 1, true, by omega, by go_num, rfl, ⟨_, _, _, rfl⟩, .inr ⟨by omega, rfl, by have := HS2.out; rw [hqp] at this ⊢; exact this⟩⟩, by simp [intOf]; omega⟩
      · obtain ⟨ad, b, rfl, hb1, hx, p1, p2, p3, p4, p5, p6⟩ := (HR.out wr hbel).jr hlt
        obtain ⟨b0, b1, b2, b3, b4, b5⟩ := box6 HW.out hbel
        have hid := H3.out k b hkp hx
        have t2 : (b.j.id != j.id) = true := by simp; omega
        have HRUN := Lib.hid (append_jrs b hown hbel.size (by omega))
        have HS : Hid (∀ A4 m4 c4 w', w'.ownsRow W.heap.size 111 6 (.slice A4 m4 c4) (p + 1 + (k - q) + 1) (jrs (l.take p ++ ⟨j, A3, c3⟩ :: (l.drop q).take (k - q) ++ [b])) → But (fun i => (Value.slice A' m' c').ownBlock = some i) wr w' → Below W.heap.size wr w' → PutDone W l j p q (k + 1) (.slice A4 m4 c4) w') := fun A4 m4 c4 w' h1 h2 h3 => PutDone.on (by omega) hx hown hln hbel h1 h2 h3
        have hblt : ad.block < wr.heap.size := by have := hbel.size; omega
        clear hx hown hbel hln
        go_wp2_with fail
        go_big_quiet (fail)
        go_wp2_with fail
        go_big_quiet (fail)
        go_wp2_with (at_builtin; refine wpList_append_ex rfl _ _ _ rfl _ _ _ rfl rfl (HRUN.out _) ?_; rintro _ w' ⟨A4, m4, c4, rfl, ho', hbut, hbl⟩; have HS2 := Lib.hid (HS.out _ _ _ _ ho' hbut hbl); clear ho' hbut hbl)
        exact ⟨⟨k + 1, true, by omega, by go_num, rfl, ⟨_, _, _, rfl⟩, .inr ⟨by omega, rfl, HS2.out⟩⟩, by simp [intOf]; omega⟩
    · obtain rfl : k = n := by omega
      rcases hst with ⟨hkp, rfl, hown, hbel⟩ | ⟨hkp, rfl, hd⟩
      · obtain rfl : k = p := by omega
        have hqk : q = k := by omega
        have HK := Lib.hid (KC.out wr hbel)
        obtain ⟨b0, b1, b2, b3, b4, b5⟩ := box6 HW.out hbel
        have HO := Lib.hid hown
        have HB := Lib.hid hbel
        clear hown hbel
        go_wp2_with fail
        refine HK.out.mono ?_
        rintro e w1 ⟨A5, c5, rfl, hl5, hb5⟩
        have ho5 : w1.ownsRow W.heap.size 111 6 (.slice A' m' c') k (jrs (l.take k)) := own_kept HO.out fun i hi _ => hb5.block i hi
        obtain ⟨v', w2, hrun, ho', hbut, hbl⟩ := append_jr ⟨j, A5, c5⟩ ho5 (Nat.le_trans HB.out.size hb5.size) (by omega)
        obtain ⟨A4, m4, c4, rfl⟩ : ∃ A4 m4 c4, v' = .slice A4 m4 c4 := by obtain ⟨A4, c4, e⟩ := own_form ho'; exact ⟨A4, _, c4, e⟩
        have hdone := PutDone.now (q := q) (by omega) ho5 HB.out hb5 hl5 ho' hbut hbl
        rw [hqk] at hdone HFIN
        have HD := Lib.hid (HFIN.out _ _ hdone)
        dsimp only at hrun
        have HRUN := Lib.hid hrun
        clear hrun ho' hbut hbl ho5 hl5 hb5 hdone b0 b1 b2 b3 b4 b5
        go_wp2_with (at_builtin; refine wpList_append_run rfl _ _ _ rfl _ _ _ _ rfl rfl (HRUN.out _) ?_)
        go_ret
        exact ⟨_, rfl, HD.out⟩
      · have HD := Lib.hid (HFIN.out _ _ hd)
        clear hd
        go_wp2_with fail
        go_ret
        exact ⟨_, rfl, HD.out⟩
end Go.Proofs.YtjlokkjbdgcooaaGreat

