/-
  The map of sums that the rules make: its keys, what it holds, what its operations do. No code.
-/
import Derived.Test.YtmgncoialppmpaaGreatMany11
import Derived.Maps.RangeWalk
import Derived.Maps.OwnOps
import Derived.Maps.OwnSet
import Derived.Maps.Views
import Derived.WideKeyEntry
import Derived.DeepKeys4
namespace Go.Proofs.YtmgncoialppmpaaGreat
open Go.RowKit
open Go.Maps (Keyed IsMap)
open Go.ChangeMaps (setBlock heap_setBlock_same heap_setBlock_other)

theorem laidOutP : laidOutB Tryz.prog = true := by kernel_rfl
theorem plRow : (143 : Nat) < Tryz.prog.types.size := of_decide_eq_true (by kernel_rfl)
theorem plWide : (match Tryz.prog.underlying 143 with | some (.array _ _) | some (.struct _) => true | _ => false) = true := by kernel_rfl
set_option maxRecDepth 100000 in
theorem plLaw : WideMaps.KeyLaw Tryz.prog 143 := deep_law_laid laidOutP (m := 2) (by omega) plRow (by kernel_rfl) plWide
theorem plKeyed : Keyed Tryz.prog 143 := Keyed.of_law plLaw
theorem plKeyType : Tryz.prog.keyType 143 = true := by kernel_rfl
theorem plCells : Tryz.prog.cellsOf 143 = 2 := by kernel_rfl
theorem intCells : Tryz.prog.cellsOf 3 = 1 := by kernel_rfl
theorem zeroInt (w : World) : (zeroValue 3).run Tryz.prog w = .ok (.int .i64 0) w := by kernel_rfl

def in64 (x : Int) : Prop := -9223372036854775808 ≤ x ∧ x ≤ 9223372036854775807
theorem wf64 {x : Int} (h : in64 x) : (Lit.int .i64 x).wf = true := WalkArith.wf_i64 h
theorem of_wf64 {x : Int} (h : (Lit.int .i64 x).wf = true) : in64 x := by
  unfold Lit.wf at h
  simp only [Bool.and_eq_true, decide_eq_true_eq] at h
  exact h
def plVal (a e : Int) : Value := .agg #[.int .i64 a, .int .i64 e]
noncomputable def plKey (a e : Int) : Lit := (keyOf Tryz.prog 143 (plVal a e)).getD .nil
theorem typesS : ∃ m, Tryz.prog.types.size = m + 1 := by
  have h := plRow
  generalize Tryz.prog.types.size = n at h
  exact ⟨n - 1, by omega⟩
theorem lits_int (d : Nat) (v : Value) : Tryz.prog.keyLits (d + 1) 3 [v] = match v with | .int .i64 n => if (Lit.int .i64 n).wf = true then some [.int .i64 n] else none | _ => none := by
  unfold Program.keyLits
  rw [Tryz.underlying3]
  cases v <;> try rfl
  rename_i q n
  cases q <;> simp
theorem lits_int_inv {d : Nat} {v : Value} {ls : List Lit} (h : Tryz.prog.keyLits (d + 1) 3 [v] = some ls) : ∃ n, v = .int .i64 n ∧ in64 n := by
  rw [lits_int] at h
  split at h
  · rename_i n
    by_cases hn : (Lit.int .i64 n).wf = true
    · exact ⟨n, rfl, of_wf64 hn⟩
    · rw [if_neg hn] at h; cases h
  · cases h
theorem lits_place (d : Nat) (v u : Value) : Tryz.prog.keyLits (d + 2) 143 [v, u] = (Tryz.prog.keyLits (d + 1) 3 [v]).bind fun x => (Tryz.prog.keyLits (d + 1) 3 [u]).bind fun y => some (x ++ y) := by
  have h1 : ∀ l, Tryz.prog.keyLits (d + 2) 143 l = match Tryz.prog.underlying 143, l with
    | some (.struct fs), cs => if cs.length = Tryz.prog.cellsOf 143 ∧ fs.all (·.name != "_") = true then (fs.toList.mapM fun f => Tryz.prog.keyLits (d + 1) f.type ((cs.drop f.offset).take (Tryz.prog.cellsOf f.type))).map List.flatten else none
    | _, _ => none := by
    intro l
    conv => lhs; unfold Program.keyLits
    rw [Tryz.underlying143]
  rw [h1, Tryz.underlying143]
  simp [plCells, intCells]
  cases Tryz.prog.keyLits (d + 1) 3 [v] <;> cases Tryz.prog.keyLits (d + 1) 3 [u] <;> simp
theorem keyOf_place (v u : Value) : keyOf Tryz.prog 143 (.agg #[v, u]) = (Tryz.prog.keyLits (Tryz.prog.types.size + 1) 143 [v, u]).map fun ls => .string (keyBytes ls) := by
  unfold keyOf
  rw [Tryz.underlying143]
  simp [plKeyType, Value.formed, Tryz.underlying143, plCells, Value.cells]
theorem keyOf_pl {a e : Int} (ha : in64 a) (he : in64 e) : keyOf Tryz.prog 143 (plVal a e) = some (plKey a e) := by
  have : (keyOf Tryz.prog 143 (plVal a e)).isSome = true := by
    obtain ⟨m, hm⟩ := typesS
    unfold plVal
    rw [keyOf_place, hm, lits_place, lits_int, lits_int]
    simp [wf64 ha, wf64 he]
  obtain ⟨l, hl⟩ := Option.isSome_iff_exists.1 this
  unfold plKey
  rw [hl]
  rfl
set_option maxRecDepth 100000 in
/-- What reads as a key is a place. -/
theorem keyOf_pl_inv {v : Value} {l : Lit} (h : keyOf Tryz.prog 143 v = some l) : ∃ a e, v = plVal a e ∧ in64 a ∧ in64 e ∧ l = plKey a e := by
  have h0 := h
  unfold keyOf at h
  rw [Tryz.underlying143] at h
  dsimp only at h
  split at h
  · rename_i hf
    rw [Bool.and_eq_true] at hf
    have hf2 := hf.2
    cases v <;> simp [Value.formed, Tryz.underlying143] at hf2
    rename_i cs
    rw [plCells] at hf2
    obtain ⟨xs⟩ := cs
    match xs, hf2 with
    | [x, y], _ =>
      have h1 := h0
      rw [show (Value.agg ⟨[x, y]⟩) = .agg #[x, y] from rfl, keyOf_place] at h1
      obtain ⟨m, hm⟩ := typesS
      rw [hm, lits_place] at h1
      cases hx : Tryz.prog.keyLits (m + 1) 3 [x] with
      | none => rw [hx] at h1; cases h1
      | some lx =>
        cases hy : Tryz.prog.keyLits (m + 1) 3 [y] with
        | none => rw [hx, hy] at h1; cases h1
        | some ly =>
          obtain ⟨p, rfl, hp⟩ := lits_int_inv hx
          obtain ⟨q, rfl, hq⟩ := lits_int_inv hy
          have h2 := keyOf_pl hp hq
          unfold plVal at h2
          rw [show (Value.agg ⟨[.int .i64 p, .int .i64 q]⟩) = .agg #[.int .i64 p, .int .i64 q] from rfl, h2] at h0
          injection h0 with h0
          exact ⟨p, q, rfl, hp, hq, h0.symm⟩
  · cases h
theorem plKey_inj {a e a' e' : Int} (ha : in64 a) (he : in64 e) (ha' : in64 a') (he' : in64 e') (h : plKey a e = plKey a' e') : a = a' ∧ e = e' := by
  have h1 := keyOf_pl ha he
  have h2 := keyOf_pl ha' he'
  rw [← h] at h2
  have := plKeyed.inj h1 h2
  unfold plVal at this
  injection this with this
  have := congrArg Array.toList this
  simp at this
  exact this

noncomputable abbrev plR : Value → Option (DataW Unit × List MemPlace) := plainElem Tryz.prog 3
/-- Block b is a map of sums: f says what stands at each place. -/
structure SumsAt (w : World) (b n : Nat) (D : DataW Unit) (f : Int → Int → Int) : Prop where
  own : w.ownsMap Tryz.prog 143 plR b n D
  map : IsMap D
  at' : ∀ a e, in64 a → in64 e → D.atKey (plKey a e) (.lit (.int .i64 0)) = .lit (.int .i64 (f a e))
section
variable {w w' : World} {b n : Nat} {D : DataW Unit} {f : Int → Int → Int}
theorem ownsMap_heap (h : w.ownsMap Tryz.prog 143 plR b n D) (hk : w'.heap[b]? = w.heap[b]?) : w'.ownsMap Tryz.prog 143 plR b n D := by
  obtain ⟨es, clock, hb, F, hs, hD⟩ := h
  exact ⟨es, clock, hk.trans hb, F, hs, hD⟩
theorem SumsAt.kept (h : SumsAt w b n D f) (hk : w'.heap[b]? = w.heap[b]?) : SumsAt w' b n D f := ⟨ownsMap_heap h.own hk, h.map, h.at'⟩
theorem SumsAt.lt (h : SumsAt w b n D f) : b < w.heap.size := h.own.lt
theorem SumsAt.below (h : SumsAt w b n D f) (hb : Below w.heap.size w w') : SumsAt w' b n D f := h.kept (hb.block b h.lt)
theorem SumsAt.congr {g : Int → Int → Int} (h : SumsAt w b n D f) (hfg : ∀ a e, in64 a → in64 e → f a e = g a e) : SumsAt w b n D g := ⟨h.own, h.map, fun a e ha he => by rw [← hfg a e ha he]; exact h.at' a e ha he⟩
theorem SumsAt.mapBlk (h : SumsAt w b n D f) : ∃ es clock, w.heap[b]? = some (.map es clock) := by
  obtain ⟨es, clock, hb, _⟩ := h.own
  exact ⟨es, clock, hb⟩
/-- A cell never lies in the map's block. -/
theorem SumsAt.off (h : SumsAt w b n D f) {p : Addr} {v : Value} (hp : w.cell? p = some v) : p.block ≠ b := by
  obtain ⟨es, clock, hb⟩ := h.mapBlk
  intro e
  subst e
  simp [World.cell?, hb] at hp
theorem sums_made (w : World) : SumsAt (w.alloc (.map #[] 0)) w.heap.size 0 (.map []) (fun _ _ => 0) :=
  ⟨World.ownsMap_made _ _ _ _, ⟨_, rfl⟩, fun _ _ _ _ => rfl⟩
set_option maxRecDepth 100000 in
theorem SumsAt.look (h : SumsAt w b n D f) {a e : Int} (ha : in64 a) (he : in64 e) : (Instr.lookup 140 (.map (some b)) (plVal a e) false).run Tryz.prog w = .ok (.int .i64 (f a e)) w ∧ in64 (f a e) := by
  obtain ⟨c, h1, h2, h3⟩ := h.own.lookup_int plKeyed Tryz.underlying140 Tryz.underlying3 (zeroInt w) (keyOf_pl ha he)
  rw [h.at' a e ha he] at h2
  injection h2 with h2
  injection h2 with _ h2
  rw [h2]
  exact ⟨h1, of_wf64 h3⟩
def upd2 (f : Int → Int → Int) (a e v : Int) (a' e' : Int) : Int := if a' = a ∧ e' = e then v else f a' e'
set_option maxRecDepth 100000 in
theorem SumsAt.put {a e v : Int} (h : SumsAt w b n D f) (ha : in64 a) (he : in64 e) (hown : w'.ownsMap Tryz.prog 143 plR b (n + 1) (D.put (plKey a e) (.lit (.int .i64 v)))) : SumsAt w' b (n + 1) (D.put (plKey a e) (.lit (.int .i64 v))) (upd2 f a e v) := by
  refine ⟨hown, h.map.put _ _, fun a' e' ha' he' => ?_⟩
  unfold upd2
  by_cases hx : a' = a ∧ e' = e
  · obtain ⟨rfl, rfl⟩ := hx
    rw [if_pos ⟨rfl, rfl⟩, Maps.atKey_put_same h.map (plKeyed.key (keyOf_pl ha he))]
  · rw [if_neg hx, Maps.atKey_put_other (fun e1 => hx (plKey_inj ha' he' ha he e1))]
    exact h.at' a' e' ha' he'
theorem setBlock_kept {W : World} {o : Obj} {k : Nat} (h : k ≠ b) : (setBlock W b o).heap[k]? = W.heap[k]? := by
  simp [setBlock, Ne.symm h]
theorem setBlock_but (W : World) (o : Obj) : But (fun k => k = b) W (setBlock W b o) := ⟨rfl, rfl, rfl, by simp [setBlock], fun k _ hk => setBlock_kept hk⟩
set_option maxRecDepth 100000 in
/-- 'sums[place] += ..': the entry, then the store. -/
theorem SumsAt.entry (h : SumsAt w b n D f) (hn : n < maxLen) {a e : Int} (ha : in64 a) (he : in64 e) :
    ∃ st o1, (Instr.mapEntry 140 (.map (some b)) (plVal a e)).run Tryz.prog w = .ok (.tuple #[.int .i64 (f a e), .int .i64 st]) (setBlock w b o1) ∧
      (Instr.lookup 140 (.map (some b)) (plVal a e) false).run Tryz.prog (setBlock w b o1) = .ok (.int .i64 (f a e)) (setBlock w b o1) ∧
      ∀ w2 v, in64 v → w2.heap[b]? = (setBlock w b o1).heap[b]? → ∃ o2, (Instr.entryStore 140 (.map (some b)) (.int .i64 st) (.int .i64 v)).run Tryz.prog w2 = .ok () (setBlock w2 b o2) ∧ SumsAt (setBlock w2 b o2) b (n + 1) (D.put (plKey a e) (.lit (.int .i64 v))) (upd2 f a e v) := by
  obtain ⟨hl1, hl2⟩ := h.look ha he
  obtain ⟨es, clock, hb, F, hs, hD⟩ := h.own
  obtain ⟨v0, st, es1, clock1, hrun, hv0, hst⟩ := WideElems.entry_then_store plLaw Tryz.underlying140 zeroInt hb F (keyOf_pl ha he)
  have hfind := plLaw.find w (keyOf_pl ha he) es.toList F.keys
  have key : v0 = .int .i64 (f a e) ∧ (Instr.lookup 140 (.map (some b)) (plVal a e) false).run Tryz.prog (setBlock w b (.map es1 clock1)) = .ok (.int .i64 (f a e)) (setBlock w b (.map es1 clock1)) := by
    rcases hfind with ⟨g1, g2⟩ | ⟨j, e0, g1, g2, g3⟩
    · have hz : v0 = .int .i64 0 := by
        rcases hv0 with ⟨e1, m1, m2, _⟩ | ⟨_, hz⟩
        · exact absurd m2 (g2 e1 m1)
        · exact hz
      have hf0 : f a e = 0 := by
        have := hl1
        simp [Instr.lookup, run_underlying Tryz.underlying140, MapKept.run_getObj_map hb, plLaw.check w es.isEmpty (keyOf_pl ha he), g1, Result.andThen] at this
        exact this.symm
      have hr : (Instr.mapEntry 140 (.map (some b)) (plVal a e)).run Tryz.prog w = .ok (.tuple #[.int .i64 0, goInt clock]) (setBlock w b (.map (es.push ⟨plVal a e, .int .i64 0, clock⟩) (clock + 1))) := by
        simp [Instr.mapEntry, run_underlying Tryz.underlying140, MapKept.run_getObj_map hb, plLaw.check w false (keyOf_pl ha he), g1, MapKept.run_setObj_map _ hb, Result.andThen, setBlock]
      have hu : (Instr.mapUpdate 140 (.map (some b)) (plVal a e) (.int .i64 0)).run Tryz.prog w = .ok () (setBlock w b (.map (es.push ⟨plVal a e, .int .i64 0, clock⟩) (clock + 1))) := by
        simp [Instr.mapUpdate, run_underlying Tryz.underlying140, MapKept.run_getObj_map hb, plLaw.check w false (keyOf_pl ha he), g1, MapKept.run_setObj_map _ hb, Result.andThen, setBlock]
      have hw1 : setBlock w b (.map es1 clock1) = setBlock w b (.map (es.push ⟨plVal a e, .int .i64 0, clock⟩) (clock + 1)) := by
        rw [hr] at hrun
        injection hrun with _ hrun
        exact hrun.symm
      obtain ⟨w', hu', ho', _⟩ := h.own.update plKeyed Tryz.underlying140 hn (keyOf_pl ha he) (plainElem_int Tryz.underlying3 (wf64 (x := 0) ⟨by omega, by omega⟩))
      rw [hu] at hu'
      injection hu' with _ hu'
      rw [← hu', ← hw1] at ho'
      have h2 := (h.put ha he ho').look ha he
      unfold upd2 at h2
      rw [if_pos ⟨rfl, rfl⟩] at h2
      rw [hf0]
      exact ⟨hz, h2.1⟩
    · have hj : es[j]? = some e0 := by simpa using g2
      have hval : e0.val = .int .i64 (f a e) := by
        have := hl1
        simp [Instr.lookup, run_underlying Tryz.underlying140, MapKept.run_getObj_map hb, plLaw.check w es.isEmpty (keyOf_pl ha he), g1, Result.andThen] at this
        exact this
      have hsame : es.modify j (fun q => { q with key := plVal a e }) = es := by
        apply Array.ext'
        rw [Array.toList_modify, ChangeMaps.modify_eq_set _ _ _ _ g2]
        have : ({ e0 with key := plVal a e } : MapEntry) = e0 := by rw [← g3]
        rw [this]
        exact WideElems.set_self _ _ _ g2
      have hr : (Instr.mapEntry 140 (.map (some b)) (plVal a e)).run Tryz.prog w = .ok (.tuple #[e0.val, goInt e0.born]) (setBlock w b (.map es clock)) := by
        simp [Instr.mapEntry, run_underlying Tryz.underlying140, MapKept.run_getObj_map hb, plLaw.check w false (keyOf_pl ha he), g1, hj, g3, plLaw.stays w (keyOf_pl ha he), hsame, MapKept.run_setObj_map _ hb, Result.andThen, setBlock]
      rw [hr] at hrun
      injection hrun with hr1 hr2
      injection hr1 with hr1
      have hr1 := congrArg Array.toList hr1
      simp at hr1
      refine ⟨hr1.1.symm.trans hval, ?_⟩
      rw [← hr2]
      have hk : (setBlock w b (.map es clock)).heap[b]? = w.heap[b]? := (heap_setBlock_same hb _).trans hb.symm
      exact ((h.kept hk).look ha he).1
  obtain ⟨rfl, hlook⟩ := key
  refine ⟨st, .map es1 clock1, hrun, hlook, fun w2 v hv hw2 => ?_⟩
  rw [heap_setBlock_same hb] at hw2
  obtain ⟨es', clock', k1, k2⟩ := hst w2 (.int .i64 v) hw2
  obtain ⟨w', hu', ho', _⟩ := h.own.update plKeyed Tryz.underlying140 hn (keyOf_pl ha he) (plainElem_int Tryz.underlying3 (wf64 hv))
  rw [k2] at hu'
  injection hu' with _ hu'
  rw [← hu'] at ho'
  exact ⟨_, k1, h.put ha he (ownsMap_heap ho' ((heap_setBlock_same hw2 _).trans (heap_setBlock_same hb _).symm))⟩
end
end Go.Proofs.YtmgncoialppmpaaGreat

