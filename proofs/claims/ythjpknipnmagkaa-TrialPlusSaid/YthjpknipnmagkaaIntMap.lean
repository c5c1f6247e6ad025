/-
  A map of integers by integers: what it holds, what its operations do. No code.
-/
import Derived.Test.YthjpknipnmagkaaMany2
import Derived.Maps.RangeWalk
import Derived.Maps.OwnOps
import Derived.Maps.OwnSet
import Derived.Maps.Views
import Derived.WideKeyEntry
namespace Go.Proofs.Ythjpknipnmagkaa
open Go.RowKit
open Go.Maps (Keyed IsMap)
open Go.ChangeMaps (setBlock heap_setBlock_same heap_setBlock_other modify_eq_set)

def is64 (x : Int) : Prop := -9223372036854775808 ≤ x ∧ x ≤ 9223372036854775807
theorem wf_is64 {x : Int} (h : is64 x) : (Lit.int .i64 x).wf = true := WalkArith.wf_i64 h
theorem is64_wf {x : Int} (h : (Lit.int .i64 x).wf = true) : is64 x := by
  unfold Lit.wf at h
  simp only [Bool.and_eq_true, decide_eq_true_eq] at h
  exact h
theorem imKeyed : Keyed Try.prog 3 := Maps.int_keyed Try.underlying3
theorem imKey {a : Int} (h : is64 a) : keyOf Try.prog 3 (.int .i64 a) = some (.int .i64 a) := Maps.keyOf_int_mk Try.underlying3 (wf_is64 h)
theorem imZero (w : World) : (zeroValue 3).run Try.prog w = .ok (.int .i64 0) w := by kernel_rfl
noncomputable abbrev imR : Value → Option (DataW Unit × List MemPlace) := plainElem Try.prog 3

section
variable {H : Type} {P : Program} {w : World} {t k e : TypeId} {R : Value → Option (DataW H × List MemPlace)} {b : Nat} {es : Array MapEntry} {clock : Nat}
/-- 'm[k] op= ..' by whatever key: the entry, and then the store into it, which is the update. -/
theorem keyed_entry (K : Keyed P k) (ht : P.underlying t = some (.map k e)) {z : Value} (hz : ∀ u : World, (zeroValue e).run P u = .ok z u) (hb : w.heap[b]? = some (.map es clock)) (F : WideElems.Fit P k R es clock) {key : Value} {kl : Lit} (hkey : keyOf P k key = some kl) :
    ∃ (v0 : Value) (st : Nat) (es1 : Array MapEntry) (c1 : Nat), (Instr.mapEntry t (.map (some b)) key).run P w = .ok (.tuple #[v0, goInt st]) (setBlock w b (.map es1 c1)) ∧
      (Instr.lookup t (.map (some b)) key false).run P w = .ok v0 w ∧ (Instr.lookup t (.map (some b)) key false).run P (setBlock w b (.map es1 c1)) = .ok v0 (setBlock w b (.map es1 c1)) ∧
      ∀ (w2 : World) (val : Value), w2.heap[b]? = some (.map es1 c1) → ∃ es2 c2, (Instr.entryStore t (.map (some b)) (goInt st) val).run P w2 = .ok () (setBlock w2 b (.map es2 c2)) ∧
        (Instr.mapUpdate t (.map (some b)) key val).run P w = .ok () (setBlock w b (.map es2 c2)) := by
  obtain ⟨s1, s2, s3⟩ := F.stamped
  rcases K.find w hkey es.toList F.keys with ⟨h1, h2⟩ | ⟨j, e0, h1, h2, h3⟩
  · have hb1 : (setBlock w b (.map (es.push ⟨key, z, clock⟩) (clock + 1))).heap[b]? = some (.map (es.push ⟨key, z, clock⟩) (clock + 1)) := heap_setBlock_same hb _
    refine ⟨z, clock, es.push ⟨key, z, clock⟩, clock + 1, ?_, ?_, ?_, fun w2 val hw2 => ⟨es.push ⟨key, val, clock⟩, clock + 1, ?_, ?_⟩⟩
    · simp [Instr.mapEntry, run_underlying ht, MapKept.run_getObj_map hb, K.check w false hkey, h1, hz, MapKept.run_setObj_map _ hb, Result.andThen, setBlock]
    · simp [Instr.lookup, run_underlying ht, MapKept.run_getObj_map hb, K.check w es.isEmpty hkey, h1, hz, Result.andThen]
    · rcases K.find (setBlock w b (.map (es.push ⟨key, z, clock⟩) (clock + 1))) hkey (es.push ⟨key, z, clock⟩).toList (fun x hx => by
        rw [Array.toList_push] at hx
        rcases List.mem_append.1 hx with hx | hx
        · exact F.keys x hx
        · rw [List.mem_singleton] at hx; subst hx; exact ⟨_, hkey⟩) with ⟨_, g2⟩ | ⟨i, x, g1, g2, g3⟩
      · exact absurd rfl (g2 ⟨key, z, clock⟩ (by simp))
      · have hx : x.val = z := by
          have hm := List.mem_of_getElem? g2
          rw [Array.toList_push] at hm
          rcases List.mem_append.1 hm with hm | hm
          · exact absurd g3 (h2 x hm)
          · rw [List.mem_singleton] at hm; subst hm; rfl
        rw [hx] at g1
        rw [Array.toList_push] at g1
        simp [Instr.lookup, run_underlying ht, MapKept.run_getObj_map hb1, K.check _ false hkey, g1, Result.andThen]
    · have hidx : (es.push ⟨key, z, clock⟩).findIdx? (fun e => ((e.born : Nat) : Int) == ((clock : Nat) : Int)) = some es.size := by
        rw [WideElems.findIdx_arr]
        have := WideElems.findIdx_born (l := (es.push ⟨key, z, clock⟩).toList) (j := es.size) (e0 := ⟨key, z, clock⟩) (by
          simp only [Array.toList_push, List.map_append, List.map_cons, List.map_nil]
          refine List.nodup_append.2 ⟨s2, by simp, fun a ha c hc e1 => ?_⟩
          simp only [List.mem_singleton] at hc
          obtain ⟨x, hx, rfl⟩ := List.mem_map.1 ha
          have := s1 x hx
          omega) (by simp)
        exact this
      have hmod : (es.push ⟨key, z, clock⟩).modify es.size (fun e => { e with val := val }) = es.push ⟨key, val, clock⟩ := by
        apply Array.ext'
        rw [Array.toList_modify, Array.toList_push, Array.toList_push, ← Array.length_toList, WideElems.modify_last]
      simp [Instr.entryStore, MapKept.run_getObj_map hw2, asInt, asIntOf, goInt, hidx, hmod, MapKept.run_setObj_map _ hw2, Result.andThen, setBlock]
    · simp [Instr.mapUpdate, run_underlying ht, MapKept.run_getObj_map hb, K.check w false hkey, h1, MapKept.run_setObj_map _ hb, Result.andThen, setBlock]
  · have hj : es[j]? = some e0 := by simpa using h2
    have hsame : es.modify j (fun e => { e with key := key }) = es := by
      apply Array.ext'
      rw [Array.toList_modify, modify_eq_set _ _ _ _ h2]
      have : ({ e0 with key := key } : MapEntry) = e0 := by rw [← h3]
      rw [this]
      exact WideElems.set_self _ _ _ h2
    have hl : (Instr.lookup t (.map (some b)) key false).run P w = .ok e0.val w := by
      simp [Instr.lookup, run_underlying ht, MapKept.run_getObj_map hb, K.check w es.isEmpty hkey, h1, Result.andThen]
    have hb1 : (setBlock w b (.map es clock)).heap[b]? = some (.map es clock) := heap_setBlock_same hb _
    refine ⟨e0.val, e0.born, es, clock, ?_, hl, ?_, fun w2 val hw2 => ⟨es.modify j (fun e' => { e' with key := key, val := val }), clock, ?_, ?_⟩⟩
    · simp [Instr.mapEntry, run_underlying ht, MapKept.run_getObj_map hb, K.check w false hkey, h1, hj, h3, K.stays w hkey, hsame, MapKept.run_setObj_map _ hb, Result.andThen, setBlock]
    · rcases K.find (setBlock w b (.map es clock)) hkey es.toList F.keys with ⟨_, g2⟩ | ⟨i, x, g1, g2, g3⟩
      · exact absurd h3 (g2 e0 (List.mem_of_getElem? h2))
      · have hx : x = e0 := by
          obtain ⟨hi, hxi⟩ := List.getElem?_eq_some_iff.1 g2
          obtain ⟨hj2, hxj⟩ := List.getElem?_eq_some_iff.1 h2
          have hij : i = j := by
            refine (List.getElem_inj (xs := es.toList.map (·.key)) (h₀ := by simpa using hi) (h₁ := by simpa using hj2) s3).1 ?_
            rw [List.getElem_map, List.getElem_map, hxi, hxj, g3, h3]
          subst hij
          rw [← hxi, ← hxj]
        rw [hx] at g1
        simp [Instr.lookup, run_underlying ht, MapKept.run_getObj_map hb1, K.check _ es.isEmpty hkey, g1, Result.andThen]
    · have hidx : es.findIdx? (fun e => ((e.born : Nat) : Int) == ((e0.born : Nat) : Int)) = some j := by
        rw [WideElems.findIdx_arr]
        exact WideElems.findIdx_born s2 h2
      have hmod : es.modify j (fun e => { e with val := val }) = es.modify j (fun e' => { e' with key := key, val := val }) := by
        apply Array.ext'
        rw [Array.toList_modify, Array.toList_modify, modify_eq_set _ _ _ _ h2, modify_eq_set _ _ _ _ h2, ← h3]
      simp [Instr.entryStore, MapKept.run_getObj_map hw2, asInt, asIntOf, goInt, hidx, hmod, MapKept.run_setObj_map _ hw2, Result.andThen, setBlock]
    · simp [Instr.mapUpdate, run_underlying ht, MapKept.run_getObj_map hb, K.check w false hkey, h1, hj, h3, K.stays w hkey, MapKept.run_setObj_map _ hb, Result.andThen, setBlock]
end

/-- Block b is a map: f says what stands at each key. -/
structure IMapAt (w : World) (b n : Nat) (D : DataW Unit) (f : Int → Int) : Prop where
  own : w.ownsMap Try.prog 3 imR b n D
  map : IsMap D
  at' : ∀ a, is64 a → D.atKey (.int .i64 a) (.lit (.int .i64 0)) = .lit (.int .i64 (f a))
section
variable {w w' : World} {b n : Nat} {D : DataW Unit} {f : Int → Int}
theorem ownsMap_heapI (h : w.ownsMap Try.prog 3 imR b n D) (hk : w'.heap[b]? = w.heap[b]?) : w'.ownsMap Try.prog 3 imR b n D := by
  obtain ⟨es, clock, hb, F, hs, hD⟩ := h
  exact ⟨es, clock, hk.trans hb, F, hs, hD⟩
theorem IMapAt.kept (h : IMapAt w b n D f) (hk : w'.heap[b]? = w.heap[b]?) : IMapAt w' b n D f := ⟨ownsMap_heapI h.own hk, h.map, h.at'⟩
theorem IMapAt.lt (h : IMapAt w b n D f) : b < w.heap.size := h.own.lt
theorem IMapAt.below (h : IMapAt w b n D f) (hb : Below w.heap.size w w') : IMapAt w' b n D f := h.kept (hb.block b h.lt)
theorem IMapAt.congr {g : Int → Int} (h : IMapAt w b n D f) (hfg : ∀ a, is64 a → f a = g a) : IMapAt w b n D g := ⟨h.own, h.map, fun a ha => by rw [← hfg a ha]; exact h.at' a ha⟩
theorem IMapAt.mapBlk (h : IMapAt w b n D f) : ∃ es clock, w.heap[b]? = some (.map es clock) := by
  obtain ⟨es, clock, hb, _⟩ := h.own
  exact ⟨es, clock, hb⟩
/-- A cell never lies in the map's block. -/
theorem IMapAt.off (h : IMapAt w b n D f) {p : Addr} {v : Value} (hp : w.cell? p = some v) : p.block ≠ b := by
  obtain ⟨es, clock, hb⟩ := h.mapBlk
  intro e
  subst e
  simp [World.cell?, hb] at hp
theorem imap_made (w : World) : IMapAt (w.alloc (.map #[] 0)) w.heap.size 0 (.map []) (fun _ => 0) := ⟨World.ownsMap_made _ _ _ _, ⟨_, rfl⟩, fun _ _ => rfl⟩
theorem IMapAt.look (h : IMapAt w b n D f) {a : Int} (ha : is64 a) : (Instr.lookup 34 (.map (some b)) (.int .i64 a) false).run Try.prog w = .ok (.int .i64 (f a)) w ∧ is64 (f a) := by
  obtain ⟨c, h1, h2, h3⟩ := h.own.lookup_int imKeyed Try.underlying34 Try.underlying3 (imZero w) (imKey ha)
  rw [h.at' a ha] at h2
  injection h2 with h2
  injection h2 with _ h2
  rw [h2]
  exact ⟨h1, is64_wf h3⟩
def updI (f : Int → Int) (a v : Int) (a' : Int) : Int := if a' = a then v else f a'
theorem IMapAt.put {a v : Int} (h : IMapAt w b n D f) (ha : is64 a) (hown : w'.ownsMap Try.prog 3 imR b (n + 1) (D.put (.int .i64 a) (.lit (.int .i64 v)))) : IMapAt w' b (n + 1) (D.put (.int .i64 a) (.lit (.int .i64 v))) (updI f a v) := by
  refine ⟨hown, h.map.put _ _, fun a' ha' => ?_⟩
  unfold updI
  by_cases hx : a' = a
  · subst hx
    rw [if_pos rfl, Maps.atKey_put_same h.map (imKeyed.key (imKey ha))]
  · rw [if_neg hx, Maps.atKey_put_other (fun e1 => hx (by injection e1))]
    exact h.at' a' ha'
theorem setBlock_keptI {W : World} {o : Obj} {k : Nat} (h : k ≠ b) : (setBlock W b o).heap[k]? = W.heap[k]? := by simp [setBlock, Ne.symm h]
theorem setBlock_butI (W : World) (o : Obj) : But (fun k => k = b) W (setBlock W b o) := ⟨rfl, rfl, rfl, by simp [setBlock], fun k _ hk => setBlock_keptI hk⟩
/-- 'm[a] += ..': the entry, then the store. -/
theorem IMapAt.entry (h : IMapAt w b n D f) (hn : n < maxLen) {a : Int} (ha : is64 a) :
    ∃ st o1, (Instr.mapEntry 34 (.map (some b)) (.int .i64 a)).run Try.prog w = .ok (.tuple #[.int .i64 (f a), .int .i64 st]) (setBlock w b o1) ∧
      (Instr.lookup 34 (.map (some b)) (.int .i64 a) false).run Try.prog (setBlock w b o1) = .ok (.int .i64 (f a)) (setBlock w b o1) ∧
      ∀ w2 v, is64 v → w2.heap[b]? = (setBlock w b o1).heap[b]? → ∃ o2, (Instr.entryStore 34 (.map (some b)) (.int .i64 st) (.int .i64 v)).run Try.prog w2 = .ok () (setBlock w2 b o2) ∧ IMapAt (setBlock w2 b o2) b (n + 1) (D.put (.int .i64 a) (.lit (.int .i64 v))) (updI f a v) := by
  obtain ⟨hl1, hl2⟩ := h.look ha
  obtain ⟨es, clock, hb, F, hs, hD⟩ := h.own
  obtain ⟨v0, st, es1, c1, hrun, hlk, hlk2, hst⟩ := keyed_entry imKeyed Try.underlying34 imZero hb F (imKey ha)
  rw [hl1] at hlk
  injection hlk with hlk
  subst hlk
  refine ⟨st, .map es1 c1, hrun, hlk2, fun w2 v hv hw2 => ?_⟩
  rw [heap_setBlock_same hb] at hw2
  obtain ⟨es', clock', k1, k2⟩ := hst w2 (.int .i64 v) hw2
  obtain ⟨w', hu', ho', _⟩ := h.own.update imKeyed Try.underlying34 hn (imKey ha) (plainElem_int Try.underlying3 (wf_is64 hv))
  rw [k2] at hu'
  injection hu' with _ hu'
  rw [← hu'] at ho'
  exact ⟨_, k1, h.put ha (ownsMap_heapI ho' ((heap_setBlock_same hw2 _).trans (heap_setBlock_same hb _).symm))⟩
theorem IMapAt.absent (h : IMapAt w b n D f) {a : Int} (ha : is64 a) (hno : Maps.has D (.int .i64 a) = false) : f a = 0 := by
  have h1 := h.at' a ha
  rw [Maps.atKey_of_not_has hno] at h1
  injection h1 with h1
  injection h1 with _ h1
  exact h1.symm
/-- Beside a map that is written all cells stay. -/
theorem imap_cell {n' : Nat} {D' : DataW Unit} {g : Int → Int} (h : IMapAt w b n D f) (h' : IMapAt w' b n' D' g) (hb : But (fun k => k = b) w w') : ∀ p : Addr, p.block < w.heap.size → w'.cell? p = w.cell? p := by
  intro p hp
  by_cases e : p.block = b
  · obtain ⟨es, clock, h1⟩ := h.mapBlk
    obtain ⟨es', clock', h2⟩ := h'.mapBlk
    rw [← e] at h1 h2
    simp [World.cell?, h1, h2]
  · simp [World.cell?, hb.block p.block hp e]
theorem but_drewI {S : Nat → Prop} (w : World) : But S w w.drew := ⟨rfl, rfl, rfl, Nat.le_refl _, fun _ _ _ => rfl⟩
end
end Go.Proofs.Ythjpknipnmagkaa

