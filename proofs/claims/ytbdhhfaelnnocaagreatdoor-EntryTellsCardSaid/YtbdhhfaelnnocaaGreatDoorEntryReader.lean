/-
  Contracts of strings.Cut at one byte, of entry's reader: newReader, part.
-/
import Derived.Test.YtbdhhfaelnnocaaGreatDoorParseMath
import Derived.Test.YtbdhhfaelnnocaaGreatDoorEntryText2
namespace Go.Proofs.YtbdhhfaelnnocaaGreatDoor
open Go.RowKit Go.Sort

/-- Blocks out of S stay. -/
structure Kp (S : Nat → Prop) (w w' : World) : Prop where
  os : w'.os = w.os
  tape : w'.tape = w.tape
  output : w'.output = w.output
  size : w.heap.size ≤ w'.heap.size
  block : ∀ k, k < w.heap.size → ¬ S k → w'.heap[k]? = w.heap[k]?
section
variable {S T : Nat → Prop} {a b c : World}
theorem Kp.refl (S : Nat → Prop) (w : World) : Kp S w w := ⟨rfl, rfl, rfl, Nat.le_refl _, fun _ _ _ => rfl⟩
theorem Kp.trans (h : Kp S a b) (k : Kp S b c) : Kp S a c := ⟨k.os.trans h.os, k.tape.trans h.tape, k.output.trans h.output, Nat.le_trans h.size k.size, fun i hi hs => (k.block i (Nat.lt_of_lt_of_le hi h.size) hs).trans (h.block i hi hs)⟩
theorem Kp.mono (h : Kp S a b) (hs : ∀ k, S k → T k) : Kp T a b := ⟨h.os, h.tape, h.output, h.size, fun i hi ht => h.block i hi fun h => ht (hs i h)⟩
theorem Kp.of_below (h : Below a.heap.size a b) : Kp S a b := ⟨h.os, h.tape, h.output, h.size, fun i hi _ => h.block i hi⟩
theorem Kp.of_drew (h : Drew a b) : Kp S a b := by obtain ⟨k, rfl⟩ := h; exact ⟨rfl, rfl, rfl, Nat.le_refl _, fun _ _ _ => rfl⟩
theorem Kp.setCell (h : Kp S a b) {p : Addr} (hp : S p.block) (v : Value) : Kp S a (b.setCell p v) := by
  have hk := (Below.refl p.block b).setCell (p := p) (Nat.le_refl _) v
  exact ⟨hk.os.trans h.os, hk.tape.trans h.tape, hk.output.trans h.output, Nat.le_trans h.size hk.size, fun i hi hs => (Below.heap_setCell _ _ _ _ (fun e => hs (by rw [e]; exact hp))).trans (h.block i hi hs)⟩
theorem Kp.alloc (h : Kp S a b) (o : Obj) : Kp S a (b.alloc o) := h.trans (Kp.of_below ((Below.refl _ _).alloc (Nat.le_refl _) o))
theorem Kp.below {B : Nat} (h : Kp S a b) (hS : ∀ k, S k → B ≤ k) (hB : B ≤ a.heap.size) : Below B a b :=
  ⟨h.os, h.tape, h.output, h.size, fun i hi => h.block i (by omega) fun hs => by have := hS i hs; omega⟩
/-- What S holds need not have been there. -/
theorem Kp.fresh (h : Kp S a b) (hb : Kp S b c) (hS : ∀ k, S k → T k ∨ a.heap.size ≤ k) : Kp T a c := by
  have := h.trans hb
  exact ⟨this.os, this.tape, this.output, this.size, fun i hi ht => this.block i hi fun hs => by
    rcases hS i hs with h1 | h1
    · exact ht h1
    · omega⟩
end

theorem ix_none {g : UInt8} : ∀ l : List UInt8, g ∉ l → Lib.indexByte l g = -1
  | [], _ => rfl
  | b :: l, h => by
    have h1 : ¬ b = g := fun e => h (by simp [e])
    have ih := ix_none l (fun e => h (List.mem_cons_of_mem _ e))
    rw [Lib.indexByte, ih]
    simp [h1]
theorem ix_some {g : UInt8} (r : List UInt8) : ∀ x : List UInt8, g ∉ x → Lib.indexByte (x ++ g :: r) g = (x.length : Int)
  | [], _ => by simp [Lib.indexByte]
  | b :: x, h => by
    have h1 : ¬ b = g := fun e => h (by simp [e])
    have ih := ix_some r x (fun e => h (List.mem_cons_of_mem _ e))
    rw [List.cons_append, Lib.indexByte, ih]
    have h2 : ¬ ((x.length : Int) = -1) := by omega
    simp [h1, h2]

set_option maxRecDepth 100000 in
set_option maxHeartbeats 1000000 in
theorem liteCut_none (s : ByteArray) (g : UInt8) (w : World) (h : g ∉ s.data.toList) :
    Calls Tryz.prog 134 #[.string s, .string ⟨#[g]⟩] w fun e w' => e = .returned (.tuple #[.string s, .string ⟨#[]⟩, .bool false]) ∧ Drew w w' := by
  have ki := Tryz.stringslite_Index_one s g w
  rw [ix_none _ h] at ki
  have KI := Lib.hid ki
  clear ki h
  go_enter Tryz.func134, Tryz.ntmps134
  go_wp2_with fail
  refine KI.out.mono ?_
  rintro e w1 ⟨rfl, rfl⟩
  go_wp2_with fail
  go_ret3
  exact ⟨rfl, Drew.refl _⟩

set_option maxRecDepth 100000 in
set_option maxHeartbeats 1000000 in
theorem liteCut_some (s : ByteArray) (g : UInt8) (x r : List UInt8) (w : World) (hs : s.data.toList = x ++ g :: r) (h : g ∉ x) (hm : s.size ≤ 1000000000) :
    Calls Tryz.prog 134 #[.string s, .string ⟨#[g]⟩] w fun e w' => e = .returned (.tuple #[.string (bs x), .string (bs r), .bool true]) ∧ Drew w w' := by
  have ki := Tryz.stringslite_Index_one s g w
  rw [hs, ix_some r x h] at ki
  have hz : s.size = x.length + 1 + r.length := by
    have : s.data.toList.length = s.size := by rw [Array.length_toList]; rfl
    rw [← this, hs]; simp; omega
  have e1 : s.extract 0 x.length = bs x := by
    apply ByteArray.ext
    apply Array.toList_inj.1
    rw [Lib.extract_data, hs, bs_list]
    simp
  have e2 : s.extract (x.length + 1) s.size = bs r := by
    apply ByteArray.ext
    apply Array.toList_inj.1
    rw [Lib.extract_data, hs, bs_list, hz]
    rw [show x.length + 1 + r.length - (x.length + 1) = r.length by omega, show x ++ g :: r = (x ++ [g]) ++ r by simp, show x.length + 1 = (x ++ [g]).length by simp, List.drop_left]
    simp
  have KI := Lib.hid ki
  have hx : x.length < s.size := by omega
  have hx2 : x.length + 1 ≤ s.size := by omega
  have hx3 : (x.length : Int) + 1 ≤ (s.size : Int) := by omega
  have hx4 : (x.length : Int) ≤ (s.size : Int) := by omega
  generalize x.length = n at *
  clear ki h hs hz
  go_enter Tryz.func134, Tryz.ntmps134
  go_wp2_with fail
  refine KI.out.mono ?_
  rintro e w1 ⟨rfl, rfl⟩
  go_wp2_with fail
  go_big_quiet (fail)
  go_wp2_with fail
  go_ret3
  exact ⟨rfl, ⟨_, rfl⟩⟩

/-- What is left of a text's parts: cut once more. -/
theorem liteCut_parts (ps : List (List UInt8)) (g : UInt8) (w : World) (h : ∀ p ∈ ps, g ∉ p) (hm : (Lib.join ps [g]).length ≤ 1000000000) :
    Calls Tryz.prog 134 #[.string (bs (Lib.join ps [g])), .string ⟨#[g]⟩] w fun e w' => e = .returned (.tuple #[.string (bs (ps.headD [])), .string (bs (Lib.join ps.tail [g])), .bool (!ps.tail.isEmpty)]) ∧ Drew w w' := by
  match ps, h, hm with
  | [], _, _ => exact liteCut_none (bs []) g w (by simp [bs])
  | [p], h, _ =>
    have := liteCut_none (bs p) g w (by rw [bs_list]; exact h p (by simp))
    rw [Lib.join_one]
    exact this
  | p :: q :: r, h, hm => exact liteCut_some _ g p (Lib.join (q :: r) [g]) w (by rw [bs_list, join_cons2]) (h p (by simp)) (by rw [bs_size]; exact hm)

set_option maxRecDepth 100000 in
set_option maxHeartbeats 1000000 in
theorem cut_parts (ps : List (List UInt8)) (g : UInt8) (w : World) (h : ∀ p ∈ ps, g ∉ p) (hm : (Lib.join ps [g]).length ≤ 1000000000) :
    Calls Tryz.prog 125 #[.string (bs (Lib.join ps [g])), .string ⟨#[g]⟩] w fun e w' => e = .returned (.tuple #[.string (bs (ps.headD [])), .string (bs (Lib.join ps.tail [g])), .bool (!ps.tail.isEmpty)]) ∧ Drew w w' := by
  have KI := Lib.hid (liteCut_parts ps g w h hm)
  generalize bs (ps.headD []) = v0 at *
  generalize bs (Lib.join ps.tail [g]) = v1 at *
  generalize (!ps.tail.isEmpty) = v2 at *
  generalize bs (Lib.join ps [g]) = v3 at *
  go_enter Tryz.func125, Tryz.ntmps125
  go_wp2_with fail
  refine KI.out.mono ?_
  rintro e w1 ⟨rfl, hd⟩
  have HD := Lib.hid hd
  clear hd
  go_wp2_with fail
  go_ret3
  exact ⟨rfl, HD.out⟩

/-- A reader in its block: what is left of the parts. -/
structure RdrAt (w : World) (b : Nat) (g : UInt8) (ps : List (List UInt8)) : Prop where
  blk : w.heap[b]? = some (.cells #[.string (bs (Lib.join ps [g])), .string ⟨#[g]⟩, .bool (!ps.isEmpty)] 143 (0, 0))
  free : ∀ p ∈ ps, g ∉ p
  len : (Lib.join ps [g]).length ≤ 1000000
theorem RdrAt.kept {w w' : World} {b : Nat} {g : UInt8} {ps : List (List UInt8)} (h : RdrAt w b g ps) {S : Nat → Prop} (hk : Kp S w w') (hb : ¬ S b) : RdrAt w' b g ps := ⟨(hk.block b (lt_of_blk h.blk) hb).trans h.blk, h.free, h.len⟩
theorem join_tail_le (g : UInt8) (ps : List (List UInt8)) : (Lib.join ps.tail [g]).length ≤ (Lib.join ps [g]).length := by
  match ps with
  | [] => simp
  | [p] => simp [Lib.join_nil]
  | p :: q :: r =>
    rw [join_cons2]
    simp
    omega

set_option maxRecDepth 100000 in
set_option maxHeartbeats 1000000 in
theorem part_any (b : Nat) (g : UInt8) (ps : List (List UInt8)) (w : World) (h : RdrAt w b g ps) :
    Calls Tryz.prog 115 #[.pointer (some ⟨b, 0, none⟩)] w fun e w' => e = .returned (.string (bs (ps.headD []))) ∧ RdrAt w' b g ps.tail ∧ Kp (fun k => k = b) w w' := by
  have c0 := cell_of h.blk 0
  have c1 := cell_of h.blk 1
  have c2 := cell_of h.blk 2
  have f0 := warm_of h.blk 0
  have f2 := warm_of h.blk 2
  have HH := Lib.hid h
  have KC : Hid (∀ w, Calls Tryz.prog 125 #[.string (bs (Lib.join ps [g])), .string ⟨#[g]⟩] w fun e w'' => e = .returned (.tuple #[.string (bs (ps.headD [])), .string (bs (Lib.join ps.tail [g])), .bool (!ps.tail.isEmpty)]) ∧ Drew w w'') := fun w => cut_parts ps g w h.free (by have := h.len; omega)
  have HE : Hid (∀ q, RdrAt (((w.drewN q).setCell ⟨b, 0, none⟩ (.string (bs (Lib.join ps.tail [g])))).setCell ⟨b, 2, none⟩ (.bool (!ps.tail.isEmpty))) b g ps.tail) := fun q => ⟨set_here (set_here (w := w.drewN q) h.blk), fun p hp => h.free p (List.mem_of_mem_tail hp), Nat.le_trans (join_tail_le g ps) h.len⟩
  simp only [List.getElem?_toArray, List.getElem?_cons_zero, List.getElem?_cons_succ] at c0 c1 c2
  clear h
  generalize bs (ps.headD []) = v0 at *
  generalize bs (Lib.join ps.tail [g]) = v1 at *
  generalize (!ps.tail.isEmpty) = v2 at *
  generalize bs (Lib.join ps [g]) = v3 at *
  go_enter Tryz.func115, Tryz.ntmps115
  go_wp2_with fail
  go_region_law (go_simp; go_at_call 125; refine (KC.out _).mono ?_; rintro e w2 ⟨rfl, q, rfl⟩)
  all_goals
    go_wp2_with fail
    go_ret
    refine ⟨rfl, ?_, ?_⟩
    · first | exact HE.out _ | exact HE.out (q + 1) | exact HE.out (1 + q)
    · refine Kp.setCell (S := fun k => k = b) (p := ⟨b, 2, none⟩) (Kp.setCell (S := fun k => k = b) (p := ⟨b, 0, none⟩) (Kp.of_drew ?_) (Eq.refl b) _) (Eq.refl b) _
      first | exact ⟨_, rfl⟩ | exact ⟨q + 1, rfl⟩ | exact ⟨1 + q, rfl⟩
end Go.Proofs.YtbdhhfaelnnocaaGreatDoor
