/-
  Several texts, one behind the other: what each holds stands ahead of it.
-/
import Derived.Test.YtaliipcgekhepaaGreatArgRd
import Derived.Test.YtaliipcgekhepaaGreatAccs
import Derived.Test.YtaliipcgekhepaaGreatKeptAI
import Derived.Test.YtaliipcgekhepaaGreatRefAddNew
import Derived.Test.YtaliipcgekhepaaGreatAccsLent
import Derived.Test.YtaliipcgekhepaaGreatMany3
import Derived.Test.YtaliipcgekhepaaGreatOwn

/-
  Slices of accounts that came in.
-/
namespace Go.Proofs.YtaliipcgekhepaaGreat
open Go.RowKit

instance : Inhabited Acc := ⟨⟨0, 0, false⟩⟩
def Acc.wf (a : Acc) : Prop := i64ok a.code ∧ i64ok a.kind
set_option maxRecDepth 100000 in
theorem argAccs {H : Type} {enc : TypeId × Value → H} {w : World} {base : Nat} {spare : Nat → Bool} {held : Bool} {fuel : Nat} {A : Option Addr} {n c : Nat} {x : DataW H × List MemPlace}
    (h : DataW.trod enc Tryz.prog w base spare held fuel 22 (Value.cells (.slice A n c)).toList = some x) : ∃ l : List Acc, ArgRd Acc.cells 3 Acc.wf w A n c l :=
  argRd_of_trod _ 3 Acc.wf Tryz.underlying22 (by kernel_rfl) (by omega) (fun _ => rfl) (fun m cs y hy => by
    obtain ⟨xs, q, _, _, hl, hx, hf⟩ := DataW.trod_struct Tryz.underlying34 hy
    have hl : cs.length = 3 := hl.trans (by kernel_rfl)
    have hx : xs.length = 3 := hx
    match cs, hl with
    | [c0, c1, c2], _ =>
      obtain ⟨y0, h0⟩ := part_at (k := 1) (by kernel_rfl) (hf 0 _ rfl) (by omega)
      obtain ⟨y1, h1⟩ := part_at (k := 1) (by kernel_rfl) (hf 1 _ rfl) (by omega)
      obtain ⟨y2, h2⟩ := part_at (k := 1) (by kernel_rfl) (hf 2 _ rfl) (by omega)
      obtain ⟨n0, e0, _, w0⟩ := DataW.trod_int Tryz.underlying3 h0
      obtain ⟨n1, e1, _, w1⟩ := DataW.trod_int Tryz.underlying3 h1
      obtain ⟨b2, e2, _⟩ := DataW.trod_bool Tryz.underlying4 h2
      simp at e0 e1 e2
      subst e0 e1 e2
      exact ⟨⟨n0, n1, b2⟩, rfl, bounds_i64 w0, bounds_i64 w1⟩) h
end Go.Proofs.YtaliipcgekhepaaGreat

/-
  ChartPlays: the beginning.
-/
namespace Go.Proofs.YtaliipcgekhepaaGreat
open Go.RowKit

/-- Something that is done. -/
structure COp where
  what : Int
  code : Int
  kind : Int
def COp.cells (o : COp) : List Value := [.int .i64 o.what, .int .i64 o.code, .int .i64 o.kind]

/-- The head of the first loop. -/
def Head (w0 wr : World) (first : List Acc) (j : Nat) (rv bv : Value) : Prop :=
  Below w0.heap.size w0 wr ∧ ((bv = .int .i64 0 ∧ newE (first.take j) = 0 ∧ ∃ A c, rv = .slice A (newL (first.take j)).length c ∧ wr.ownsRow w0.heap.size 34 3 (.slice A (newL (first.take j)).length c) (newL (first.take j)).length (accs (newL (first.take j)))) ∨
    (bv = .int .i64 (newE first) ∧ newE first ≠ 0))

/-- The head of the statement's loop: the chart, the reference's list, what is kept. -/
def Play (w0 wr : World) (b : Nat) (cv rv : Value) (m : Nat) : Prop :=
  Below w0.heap.size w0 wr ∧ ∃ (c : Nat) (v : Value) (l : List Acc) (A : Option Addr) (cp : Nat), cv = .pointer (some ⟨c, 0, none⟩) ∧ rv = .slice A l.length cp ∧ ChartAt wr w0.heap.size c v l ∧
    wr.ownsRow w0.heap.size 34 3 (.slice A l.length cp) l.length (accs l) ∧ (∀ k, v.ownBlock = some k → (Value.slice A l.length cp).ownBlock ≠ some k) ∧ KeptAI wr w0.heap.size b (fun k => v.ownBlock = some k) m m

theorem ChartAt.base {w : World} {B B' c : Nat} {v : Value} {l : List Acc} (h : ChartAt w B c v l) (hB : B' ≤ B) : ChartAt w B' c v l := ⟨h.blk, Nat.le_trans hB h.low, own_base h.own hB, h.good⟩
/-- A chart's change, seen from beside. -/
theorem play_step {w5 w6 : World} {B B0 b c n m : Nat} {v rv : Value} {l l' : List Acc} {xs : List Value} {S : Nat → Prop} (hK : KeptAI w5 B b S m m) (hC : ChartAt w5 B0 c v l) (hT : ChartTo w5 B0 c v l' w6) (hr : w5.ownsRow B 34 3 rv n xs) (hsep : ∀ k, v.ownBlock = some k → rv.ownBlock ≠ some k)
    (hS : ∀ k, v.ownBlock = some k → S k) (hS2 : ∀ k, w5.heap.size ≤ k → S k) :
    ∃ v', ChartAt w6 B0 c v' l' ∧ w6.ownsRow B 34 3 rv n xs ∧ (∀ k, v'.ownBlock = some k → rv.ownBlock ≠ some k) ∧ KeptAI w6 B b S m m ∧ (∀ k, v'.ownBlock = some k → S k) ∧ But (InChart c v) w5 w6 := by
  obtain ⟨v', h1, h2, h3⟩ := hT
  refine ⟨v', h1, own_kept hr fun k hk hrk => h2.block k hk ?_, fun k hk hrk => ?_, hK.chart hC h2 hS, fun k hk => ?_, h2⟩
  · rintro (rfl | hv)
    · exact own_ne hr hC.blk (by decide) hrk
    · exact hsep k hv hrk
  · rcases h3 k hk with h | h
    · exact hsep k h hrk
    · have := own_lt hr k hrk; omega
  · rcases h3 k hk with h | h
    · exact hS k h
    · exact hS2 k h
/-- Another chart stays. -/
theorem ChartAt.beside {w w' : World} {B B' c d : Nat} {v u : Value} {l m : List Acc} (hd : ChartAt w B' d u m) (hc : ChartAt w B c v l) (hb : But (InChart c v) w w') (hs : ∀ k, InChart d u k → ¬ InChart c v k) : ChartAt w' B' d u m := hd.but hb hs

/-- The first k are retired, where they are x's. -/
def retTo (l : List Acc) (x : Int) (k : Nat) : List Acc := retL (l.take k) x ++ l.drop k
theorem retTo_zero (l : List Acc) (x : Int) : retTo l x 0 = l := by simp [retTo, retL]
theorem retTo_end (l : List Acc) (x : Int) : retTo l x l.length = retL l x := by simp [retTo]
theorem retTo_len (l : List Acc) (x : Int) (k : Nat) : (retTo l x k).length = l.length := by simp [retTo, retL]; omega
theorem retTo_at {l : List Acc} {k : Nat} {a : Acc} (x : Int) (ha : l[k]? = some a) : (retTo l x k)[k]? = some a := by
  have hl := (List.getElem?_eq_some_iff.1 ha).1
  unfold retTo
  have h1 : (retL (l.take k) x).length = k := by rw [retL_len, List.length_take]; omega
  rw [List.getElem?_append_right (by omega), h1, Nat.sub_self, List.getElem?_drop]
  simpa using ha
theorem retTo_step {l : List Acc} {k : Nat} {a : Acc} (x : Int) (ha : l[k]? = some a) : (retTo l x k).set k { a with ret := a.ret || a.code == x } = retTo l x (k + 1) := by
  obtain ⟨hl, rfl⟩ := List.getElem?_eq_some_iff.1 ha
  unfold retTo
  have h1 : (retL (l.take k) x).length = k := by rw [retL_len, List.length_take]; omega
  rw [List.set_append_right _ _ (by omega), h1, Nat.sub_self, List.drop_eq_getElem_cons hl, List.set_cons_zero, List.take_succ_eq_append_getElem hl]
  unfold retL
  rw [List.map_append, List.append_assoc]
  rfl
theorem accs_setRet2 : ∀ (l : List Acc) (p : Nat) (a : Acc) (t : Bool), l[p]? = some a → (accs l).set (p * 3 + 2) (.bool t) = accs (l.set p { a with ret := t })
  | [], p, a, t, h => by simp at h
  | b :: l, 0, a, t, h => by
    simp at h; subst h
    simp [accs, Acc.cells]
  | b :: l, p + 1, a, t, h => by
    have := accs_setRet2 l p a t (by simpa using h)
    unfold accs at this ⊢
    rw [List.set_cons_succ, List.flatMap_cons, List.flatMap_cons, ← this, show (p + 1) * 3 + 2 = (Acc.cells b).length + (p * 3 + 2) by simp [Acc.cells]; omega, List.set_append_right _ _ (by omega)]
    simp

theorem ret_get (l : List Acc) (x : Int) : retE l x = if (findA l x).isSome = true then (if ((findA l x).getD acc0).ret = true then 5 else 0) else 9 := by
  unfold retE
  cases findA l x <;> rfl
/-- What stands behind Retire. -/
def Retd (w wr : World) (b ci : Nat) (l : List Acc) (A : Option Addr) (cp : Nat) (x : Int) (m : Nat) (w6 : World) : Prop :=
  ∃ v6, ChartAt w6 w.heap.size ci v6 (retL l x) ∧ w6.ownsRow w.heap.size 34 3 (.slice A l.length cp) l.length (accs l) ∧ (∀ k, v6.ownBlock = some k → (Value.slice A l.length cp).ownBlock ≠ some k) ∧ KeptAI w6 w.heap.size b (fun k => v6.ownBlock = some k) m m ∧ w6.cell? ⟨wr.heap.size, 1, none⟩ = some (.int .i64 x) ∧ Below w.heap.size w w6
end Go.Proofs.YtaliipcgekhepaaGreat

/-
  Parts of a function's code. No code of the program.
-/
namespace Go.Proofs.YtaliipcgekhepaaGreat
open Go.RowKit

/-- The part of a code that a way leads to: 0 the first half, 1 the second one; a block's, a loop's inside is 0. -/
def subCode : List Nat → Code → Code
  | [], c => c
  | 0 :: r, .seq a _ => subCode r a
  | _ :: r, .seq _ b => subCode r b
  | 0 :: r, .cond _ a _ => subCode r a
  | _ :: r, .cond _ _ b => subCode r b
  | _ :: r, .block _ c => subCode r c
  | _ :: r, .loop c => subCode r c
  | _ :: r, .scope c => subCode r c
  | _ :: _, c => c
end Go.Proofs.YtaliipcgekhepaaGreat
