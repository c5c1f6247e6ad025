/-
  Several texts, one behind the other: what each holds stands ahead of it.
-/
import Derived.Test.YtjlokkjbdgcooaaGreatMany8
import Derived.Test.YtjlokkjbdgcooaaGreatOwn
import Derived.Test.YtjlokkjbdgcooaaGreatMany13
import Derived.Test.YtjlokkjbdgcooaaGreatMany14

/-
  Journals as rows of a list, their lines elsewhere. No code.
-/
namespace Go.Proofs.YtjlokkjbdgcooaaGreat
open Go.RowKit

/-- A journal as a row: its lines lie at A. -/
structure JR where
  j : Jrn
  A : Option Addr
  c : Nat
def JR.lv (a : JR) : Value := .slice a.A a.j.lines.length a.c
def JR.val (a : JR) : Value := a.j.val a.A a.j.lines.length a.c
def JR.id (a : JR) : Int := a.j.id
def JR.cells (a : JR) : List Value := [.int .i64 a.j.id, .int .i64 a.j.ent, .int .i64 a.j.per, .string a.j.ref, .slice a.A a.j.lines.length a.c, .bool a.j.void]
def jrs (l : List JR) : List Value := l.flatMap JR.cells
theorem jrs_len : ∀ l : List JR, (jrs l).length = l.length * 6
  | [] => rfl
  | a :: l => by have := jrs_len l; unfold jrs at this ⊢; simp [JR.cells, this]; omega
theorem jrs_append (l m : List JR) : jrs (l ++ m) = jrs l ++ jrs m := by simp [jrs]
theorem jrs_at : ∀ (l : List JR) (k : Nat) (a : JR), l[k]? = some a → ∀ i u, a.cells[i]? = some u → (jrs l)[k * 6 + i]? = some u
  | [], k, a, h, _, _, _ => by simp at h
  | b :: l, 0, a, h, i, u, hu => by
    simp at h; subst h
    have hi : i < b.cells.length := (List.getElem?_eq_some_iff.1 hu).1
    unfold jrs
    rw [List.flatMap_cons, Nat.zero_mul, Nat.zero_add, List.getElem?_append_left hi]
    exact hu
  | b :: l, k + 1, a, h, i, u, hu => by
    have := jrs_at l k a (by simpa using h) i u hu
    unfold jrs at this ⊢
    rw [List.flatMap_cons, show (k + 1) * 6 + i = b.cells.length + (k * 6 + i) by simp [JR.cells]; omega, List.getElem?_append_right (by omega), Nat.add_sub_cancel_left]
    exact this
theorem Rd.jrs_len {w : World} {B n : Nat} {A : Option Addr} {l : List JR} (h : Rd w B 6 A n (jrs l)) : l.length = n := by
  have := h.1; rw [Go.Proofs.YtjlokkjbdgcooaaGreat.jrs_len] at this; omega
/-- A row of a list that can be read, as a walk spells its cells. -/
theorem Rd.jr {w : World} {B n i : Nat} {A : Option Addr} {l : List JR} (h : Rd w B 6 A n (jrs l)) (hi : i < n) :
    ∃ ad a, A = some ad ∧ ad.block < B ∧ l[i]? = some a ∧ w.cell? (ad.add (i * 6)) = some (.int .i64 a.j.id) ∧ w.cell? ⟨(ad.add (i * 6)).block, (ad.add (i * 6)).off + 1, none⟩ = some (.int .i64 a.j.ent) ∧ w.cell? ⟨(ad.add (i * 6)).block, (ad.add (i * 6)).off + 2, none⟩ = some (.int .i64 a.j.per) ∧
      w.cell? ⟨(ad.add (i * 6)).block, (ad.add (i * 6)).off + 3, none⟩ = some (.string a.j.ref) ∧ w.cell? ⟨(ad.add (i * 6)).block, (ad.add (i * 6)).off + 4, none⟩ = some (.slice a.A a.j.lines.length a.c) ∧ w.cell? ⟨(ad.add (i * 6)).block, (ad.add (i * 6)).off + 5, none⟩ = some (.bool a.j.void) := by
  obtain ⟨ad, e, hb, hc⟩ := h.2 (by omega)
  have hl := h.jrs_len
  have hg : l[i]? = some l[i] := List.getElem?_eq_getElem (by omega)
  have hk := fun k u hu => hc _ _ (jrs_at l i _ hg k u hu)
  exact ⟨ad, _, e, hb, hg, hk 0 _ rfl, cell_behind (hk 1 _ rfl) (by omega), cell_behind (hk 2 _ rfl) (by omega), cell_behind (hk 3 _ rfl) (by omega), cell_behind (hk 4 _ rfl) (by omega), cell_behind (hk 5 _ rfl) (by omega)⟩
theorem infoJrn : (Tryz.prog.info? 111).map (fun i => (i.zero, i.size, i.bytes)) = some (some (.agg #[.int .i64 0, .int .i64 0, .int .i64 0, .string ⟨#[]⟩, .slice none 0 0, .bool false]), 6, 72) := by kernel_rfl
theorem cells_oneJ (a : JR) : ∀ u ∈ a.cells, u.oneCell' = true := by
  intro u hu
  simp [JR.cells] at hu
  rcases hu with rfl | rfl | rfl | rfl | rfl | rfl <;> rfl
theorem jrs_one (l : List JR) : ∀ u ∈ jrs l, u.oneCell' = true := by
  intro u hu
  obtain ⟨a, _, hu⟩ := List.mem_flatMap.1 hu
  exact cells_oneJ a u hu
theorem jrs_take : ∀ (l : List JR) (i : Nat), (jrs l).take (i * 6) = jrs (l.take i)
  | [], i => by simp [jrs]
  | a :: l, 0 => by simp [jrs]
  | a :: l, i + 1 => by
    have := jrs_take l i
    unfold jrs at this ⊢
    rw [List.take_succ_cons, List.flatMap_cons, List.flatMap_cons, ← this, show (i + 1) * 6 = (JR.cells a).length + i * 6 by simp [JR.cells]; omega, List.take_length_add_append]
theorem jrs_drop : ∀ (l : List JR) (i : Nat), (jrs l).drop (i * 6) = jrs (l.drop i)
  | [], i => by simp [jrs]
  | a :: l, 0 => by simp [jrs]
  | a :: l, i + 1 => by
    have := jrs_drop l i
    unfold jrs at this ⊢
    rw [List.drop_succ_cons, List.flatMap_cons, ← this, show (i + 1) * 6 = (JR.cells a).length + i * 6 by simp [JR.cells]; omega, List.drop_length_add_append]
theorem jrs_ins (l : List JR) (i : Nat) (a : JR) : jrs (l.take i ++ a :: l.drop i) = (jrs l).take (i * 6) ++ (a.cells ++ (jrs l).drop (i * 6)) := by
  rw [jrs_take, jrs_drop, jrs_append]
  rfl
theorem cons_form {l : List JR} {p : Nat} {a : JR} (h : l[p]? = some a) : l = l.take p ++ a :: l.drop (p + 1) := by
  have hl := (List.getElem?_eq_some_iff.1 h).1
  have he : l[p] = a := by rw [List.getElem?_eq_getElem hl] at h; injection h
  conv => lhs; rw [← List.take_append_drop p l, List.drop_eq_getElem_cons hl, he]
/-- A row that gets another one's cells. -/
theorem jrs_setAll {l : List JR} {p : Nat} {a : JR} (b : JR) (h : l[p]? = some a) : setL (jrs l) (p * 6) b.cells = jrs (l.set p b) := by
  have hl := (List.getElem?_eq_some_iff.1 h).1
  have e1 : jrs l = jrs (l.take p) ++ (a.cells ++ jrs (l.drop (p + 1))) := by
    conv => lhs; rw [cons_form h]
    rw [jrs_append]; rfl
  have hlen : (jrs (l.take p)).length = p * 6 := by rw [jrs_len]; simp; omega
  rw [e1, setL_off (jrs (l.take p)) (a.cells ++ jrs (l.drop (p + 1))) b.cells hlen (by simp [JR.cells]), List.set_eq_take_append_cons_drop, if_pos hl, jrs_append, List.append_assoc]
  congr 1
theorem jrs_setVoid {l : List JR} {p : Nat} {a : JR} (x : Bool) (h : l[p]? = some a) : (jrs l).set (p * 6 + 5) (.bool x) = jrs (l.set p ⟨{ a.j with void := x }, a.A, a.c⟩) := by
  have hl := (List.getElem?_eq_some_iff.1 h).1
  have e1 : jrs l = jrs (l.take p) ++ (a.cells ++ jrs (l.drop (p + 1))) := by
    conv => lhs; rw [cons_form h]
    rw [jrs_append]; rfl
  have hlen : (jrs (l.take p)).length = p * 6 := by rw [jrs_len]; simp; omega
  have e2 : ∀ b : JR, l.set p b = l.take p ++ b :: l.drop (p + 1) := fun b => by rw [List.set_eq_take_append_cons_drop, if_pos hl]
  rw [e1, List.set_append_right _ _ (by omega), hlen, e2, jrs_append]
  congr 1
  rw [show p * 6 + 5 - p * 6 = 5 by omega]
  rfl

/-- A list of journals that can be read. -/
structure JlRd (w : World) (B : Nat) (A : Option Addr) (n : Nat) (l : List JR) : Prop where
  rd : Rd w B 6 A n (jrs l)
  lines : ∀ a ∈ l, Rd w B 3 a.A a.j.lines.length (lins a.j.lines)
  nil : ∀ a ∈ l, a.A = none → a.c = 0
  size : ∀ a ∈ l, a.j.ref.size ≤ maxLen ∧ a.j.lines.length ≤ maxLen
theorem JlRd.far {w w' : World} {B B0 n : Nat} {A : Option Addr} {l : List JR} (h : JlRd w B A n l) (hb : Below B0 w w') (hB : B ≤ B0) : JlRd w' B A n l := ⟨h.rd.far hb hB, fun a ha => (h.lines a ha).far hb hB, h.nil, h.size⟩
theorem JlRd.wide {w : World} {B B' n : Nat} {A : Option Addr} {l : List JR} (h : JlRd w B A n l) (hB : B ≤ B') : JlRd w B' A n l := ⟨h.rd.wide hB, fun a ha => (h.lines a ha).wide hB, h.nil, h.size⟩
theorem JlRd.len {w : World} {B n : Nat} {A : Option Addr} {l : List JR} (h : JlRd w B A n l) : l.length = n := h.rd.jrs_len
theorem own_nil {w : World} {B n c size : Nat} {e : TypeId} {A : Option Addr} {xs : List Value} (h : w.ownsRow B e size (.slice A n c) n xs) : A = none → c = 0 := by
  intro e
  rcases h.2 with ⟨h1, _⟩ | ⟨g2, c2, cur, h1, _⟩
  · injection h1
  · injection h1 with h1; rw [e] at h1; cases h1
/-- Journals in rows of one's own. -/
structure OwnJl (w : World) (B : Nat) (A : Option Addr) (n c : Nat) (l : List JR) : Prop where
  own : w.ownsRow B 111 6 (.slice A n c) n (jrs l)
  lines : ∀ a ∈ l, w.ownsRow B 113 3 a.lv a.j.lines.length (lins a.j.lines)
theorem OwnJl.kept {w w' : World} {B n c : Nat} {A : Option Addr} {l : List JR} (h : OwnJl w B A n c l) (hb : Below w.heap.size w w') : OwnJl w' B A n c l := ⟨own_kept h.own fun k hk _ => hb.block k hk, fun a ha => own_kept (h.lines a ha) fun k hk _ => hb.block k hk⟩
theorem OwnJl.rd {w : World} {B n c : Nat} {A : Option Addr} {l : List JR} (h : OwnJl w B A n c l) (hs : ∀ a ∈ l, a.j.ref.size ≤ maxLen ∧ a.j.lines.length ≤ maxLen) : JlRd w w.heap.size A n l := ⟨rd_of_own h.own, fun a ha => rd_of_own (h.lines a ha), fun a ha => own_nil (h.lines a ha), hs⟩
/-- A journal appended to a row of one's own. -/
theorem append_jr {w : World} {base m : Nat} {v : Value} {L : List JR} (a : JR) (h : w.ownsRow base 111 6 v m (jrs L)) (hb : base ≤ w.heap.size) (hm : m ≤ 1000000) :
    ∃ v' w', (∀ ty, (Builtin.append_ #[48, 48] ty #[v, .slice (some ⟨w.heap.size, 0, none⟩) 1 1]).run Tryz.prog (w.alloc (.cells #[.int .i64 a.j.id, .int .i64 a.j.ent, .int .i64 a.j.per, .string a.j.ref, .slice a.A a.j.lines.length a.c, .bool a.j.void] 111)) = .ok v' w') ∧ w'.ownsRow base 111 6 v' (m + 1) (jrs (L ++ [a])) ∧ But (fun k => v.ownBlock = some k) w w' ∧ Below base w w' := by
  have hR : Rd (w.alloc (.cells #[.int .i64 a.j.id, .int .i64 a.j.ent, .int .i64 a.j.per, .string a.j.ref, .slice a.A a.j.lines.length a.c, .bool a.j.void] 111)) (w.heap.size + 1) 6 (some ⟨w.heap.size, 0, none⟩) 1 a.cells := ⟨rfl, fun _ => ⟨_, rfl, by simp, cells_new w a.cells 111⟩⟩
  have h1 : (w.alloc (.cells #[.int .i64 a.j.id, .int .i64 a.j.ent, .int .i64 a.j.per, .string a.j.ref, .slice a.A a.j.lines.length a.c, .bool a.j.void] 111)).ownsRow base 111 6 v m (jrs L) := own_kept h fun k hk _ => Below.heap_alloc w _ _ hk
  obtain ⟨v', w', hrun, hown, hg, hp⟩ := append_fresh (P := Tryz.prog) (ty := 0) (c := 1) infoJrn Tryz.underlying48 rfl (by omega) base v m (jrs L) h1 hR (cells_oneJ a) (by unfold maxLen; omega) (by omega) (by simp; omega)
  refine ⟨v', w', fun ty => hrun, by rw [jrs_append]; exact (show jrs [a] = a.cells by simp [jrs]) ▸ hown, ?_, ?_⟩
  · exact (But.of_below ((Below.refl _ _).alloc (Nat.le_refl _) _)).trans (But.of_grown hg)
  · exact ((Below.refl _ _).alloc hb _).grown hg (by simp; omega) (own_ge h)

theorem wpList_append_ex {P : Program} {w : World} {ops : Array Oper} {rest : List Oper} {o : Oper} {a : Act} {Q : Exit → Act → World → Prop} (hgd : o.guard = none) (s x : Operand) (t : TypeId)
    (ho : o.op = .call { callee := .builtin .append, args := #[s, x], argTypes := #[t, t] }) (vs vx : Value) (R : Value → World → Prop) (hs : a.eval s = vs) (hx : a.eval x = vx)
    (hrun : ∃ v' w', (∀ ty, (Builtin.append_ #[t, t] ty #[vs, vx]).run P w = .ok v' w') ∧ R v' w') (h : ∀ v' w', R v' w' → wpList P ops Q rest (a.put o.dst v') w') : wpList P ops Q (o :: rest) a w := by
  obtain ⟨v', w', hr, hR⟩ := hrun
  exact wpList_append_run hgd s x t ho vs vx v' w' hs hx (hr _) (h v' w' hR)
end Go.Proofs.YtjlokkjbdgcooaaGreat

/-
  A text's bytes as a list. No code.
-/
namespace Go.Proofs.YtjlokkjbdgcooaaGreat
open Go.RowKit

theorem at_list (s : ByteArray) (k : Nat) (hk : k < s.size) : ∃ h : k < s.data.toList.length, s[k] = s.data.toList[k] := ⟨by rw [Array.length_toList]; exact hk, rfl⟩
end Go.Proofs.YtjlokkjbdgcooaaGreat

/-
  Contracts of entry.within, refMayBe, frontMayBe, linesMayBe, Check.
-/
namespace Go.Proofs.YtjlokkjbdgcooaaGreat
open Go.RowKit

set_option maxHeartbeats 400000 in
theorem within_any (n a b : Int) (w : World) :
    Calls Tryz.prog 214 #[.int .i64 n, .int .i64 a, .int .i64 b] w fun e w' => e = .returned (.bool (inB n a b)) ∧ w = w' := by
  go_enter Tryz.func214, Tryz.ntmps214
  go_wp2
  all_goals
    go_ret
    exact ⟨ret_bool (by unfold inB; rw [Bool.eq_iff_iff]; simp; try omega), rfl⟩

theorem fits_one (p : Int) (w : World) {T : TypeId} : Calls Tryz.prog 174 #[.slice (some ⟨w.heap.size, 0, none⟩) 1 1] (w.alloc (.cells #[.int .i64 p] T)) fun e w' => e = .returned (.bool (fits1 p)) ∧ w.alloc (.cells #[.int .i64 p] T) = w' := by
  have := fits_any [p] _ 1 1 _ _ (rd_oneI w p (T := T)) (by unfold maxLen; omega)
  rwa [show fitsAll [p] = fits1 p by simp [fitsAll]] at this

set_option maxRecDepth 100000 in
set_option maxHeartbeats 1000000 in
theorem refMayBe_any (s : ByteArray) (w : World) (hs : s.size ≤ maxLen) :
    Calls Tryz.prog 215 #[.string s] w fun e w' => e = .returned (.bool (refOk s.data.toList)) ∧ w = w' := by
  unfold maxLen at hs
  by_cases h8 : 8 < s.size
  · go_enter Tryz.func215, Tryz.ntmps215
    go_wp2
    go_ret
    refine ⟨ret_bool ?_, rfl⟩
    symm
    unfold refOk
    rw [show decide (s.data.toList.length ≤ 8) = false by rw [Array.length_toList]; simp; exact h8]; rfl
  · have HR : Hid (refOk s.data.toList = refAll s.data.toList) := by
      unfold Hid refOk
      rw [show decide (s.data.toList.length ≤ 8) = true by rw [Array.length_toList]; simp; omega]; rfl
    rw [HR.out]
    go_enter Tryz.func215, Tryz.ntmps215
    go_wp2
    go_loop [10, 3, 4] (fun iv _ _ => ∃ k : Nat, k ≤ s.size ∧ iv = .int .i64 k ∧ Hid (refAll (s.data.toList.take k) = true)) (fun iv _ _ => s.size - (intOf iv).toNat)
    case atStart => exact ⟨0, Nat.zero_le _, rfl, rfl⟩
    case round =>
      obtain ⟨k, hk, rfl, hf⟩ := hrel
      by_cases hlt : k < s.size
      · obtain ⟨hl, hg⟩ := at_list s k hlt
        obtain ⟨x, hx⟩ : ∃ x : Int, x = ((s[k]'hlt).toNat : Int) := ⟨_, rfl⟩
        have hi1 : ∀ w, (Instr.index 9 (.string s) (.int .i64 (k : Int))).run Tryz.prog w = .ok (.int .u8 x) w := fun w => by
          rw [run_index_string w _ _ _ _ Tryz.underlying9, dif_pos (by omega), hx]
          rfl
        obtain ⟨b, HK⟩ : ∃ b, Hid (s.data.toList[k]? = some b ∧ refB b = (decide (65 ≤ x ∧ x ≤ 90) || decide (48 ≤ x ∧ x ≤ 57))) := by
          refine ⟨s[k], by rw [hg]; exact List.getElem?_eq_getElem hl, ?_⟩
          rw [hx]
          unfold refB
          generalize s[k].toNat = m
          rw [Bool.eq_iff_iff]; simp; omega
        clear hx hg hl
        have key : (65 ≤ x ∧ x ≤ 90) ∨ (48 ≤ x ∧ x ≤ 57) ∨ (x < 48 ∨ 57 < x ∧ x < 65 ∨ 90 < x) := by omega
        rcases key with h1 | h1 | h1
        · have c1 : ¬ x < 65 := by omega
          have c2 : ¬ 90 < x := by omega
          go_wp2
          exact ⟨⟨k + 1, by omega, by go_num, refAll_step hf.out HK.out.1 (by rw [HK.out.2]; simp; omega)⟩, by simp [intOf]; omega⟩
        · have c1 : x < 65 := by omega
          have c3 : ¬ x < 48 := by omega
          have c4 : ¬ 57 < x := by omega
          go_wp2
          exact ⟨⟨k + 1, by omega, by go_num, refAll_step hf.out HK.out.1 (by rw [HK.out.2]; simp; omega)⟩, by simp [intOf]; omega⟩
        · have HN : Hid (refAll s.data.toList = false) := refAll_no HK.out.1 (by rw [HK.out.2]; simp; omega)
          by_cases c1 : x < 65
          · by_cases c3 : x < 48
            · go_wp2
              go_ret
              exact ⟨ret_bool HN.out.symm, rfl⟩
            · have c4 : 57 < x := by omega
              go_wp2
              go_ret
              exact ⟨ret_bool HN.out.symm, rfl⟩
          · have c2 : 90 < x := by omega
            have c3 : ¬ x < 48 := by omega
            have c4 : 57 < x := by omega
            go_wp2
            go_ret
            exact ⟨ret_bool HN.out.symm, rfl⟩
      · go_wp2
        go_ret
        exact ⟨ret_bool (refAll_end hf.out (by rw [Array.length_toList]; exact Nat.le_of_not_lt hlt)).symm, rfl⟩

set_option maxRecDepth 100000 in
set_option maxHeartbeats 1000000 in
theorem frontMayBe_any (j : Jrn) (A : Option Addr) (n c : Nat) (w : World) (hs : j.ref.size ≤ maxLen) :
    Calls Tryz.prog 184 #[j.val A n c] w fun e w' => e = .returned (.bool (frontOk j)) ∧ Below w.heap.size w w' := by
  obtain ⟨id, ent, per, ref, L, void⟩ := j
  unfold Jrn.val frontOk
  dsimp only at hs ⊢
  have HS := Lib.hid hs
  clear hs
  cases h1 : inB id 1 999999
  · go_enter Tryz.func184, Tryz.ntmps184
    go_wp2_with (go_at_call 214; refine (within_any _ _ _ _).mono ?_; rintro e w' ⟨rfl, rfl⟩)
    go_ret
    exact ⟨rfl, (Below.refl _ _).alloc (Nat.le_refl _) _⟩
  cases h2 : inB ent 1 9
  · go_enter Tryz.func184, Tryz.ntmps184
    go_wp2_with (go_at_call 214; refine (within_any _ _ _ _).mono ?_; rintro e w' ⟨rfl, rfl⟩)
    go_ret
    exact ⟨rfl, (Below.refl _ _).alloc (Nat.le_refl _) _⟩
  have kv : ∀ (o : Obj) (T : TypeId), Calls Tryz.prog 134 #[.slice (some ⟨w.heap.size + 1, 0, none⟩) 1 1] ((w.alloc o).alloc (.cells #[.int .i64 per] T)) fun e w' => e = .returned (.bool (okP per)) ∧ (w.alloc o).alloc (.cells #[.int .i64 per] T) = w' := fun o T => by
    have := valid_one per (w.alloc o) (T := T)
    rw [show (w.alloc o).heap.size = w.heap.size + 1 by simp] at this
    exact this
  have hB1 : ∀ o1 o2, Below w.heap.size w ((w.alloc o1).alloc o2) := fun o1 o2 => ((Below.refl _ _).alloc (Nat.le_refl _) _).alloc (by simp) _
  cases h3 : okP per
  · go_enter Tryz.func184, Tryz.ntmps184
    go_wp2_with (first | (go_at_call 214; refine (within_any _ _ _ _).mono ?_; rintro e w' ⟨rfl, rfl⟩) | (go_at_call 134; refine (kv _ _).mono ?_; rintro e w' ⟨rfl, rfl⟩))
    go_ret
    exact ⟨rfl, hB1 _ _⟩
  · go_enter Tryz.func184, Tryz.ntmps184
    go_wp2_with (first | (go_at_call 214; refine (within_any _ _ _ _).mono ?_; rintro e w' ⟨rfl, rfl⟩) | (go_at_call 134; refine (kv _ _).mono ?_; rintro e w' ⟨rfl, rfl⟩) | (go_at_call 215; refine (refMayBe_any ref _ HS.out).mono ?_; rintro e w' ⟨rfl, rfl⟩))
    go_ret
    exact ⟨rfl, hB1 _ _⟩

set_option maxRecDepth 100000 in
set_option maxHeartbeats 1000000 in
theorem linesMayBe_any (j : Jrn) (A : Option Addr) (n c B : Nat) (w : World) (h : Rd w B 3 A n (lins j.lines)) (hB : B ≤ w.heap.size) (hn : n ≤ maxLen) :
    Calls Tryz.prog 185 #[j.val A n c] w fun e w' => e = .returned (.bool (linesOk j)) ∧ Below w.heap.size w w' := by
  obtain ⟨id, ent, per, ref, L, void⟩ := j
  unfold Jrn.val linesOk
  unfold maxLen at hn
  dsimp only at h ⊢
  have HL := Lib.hid h.lins_len
  rw [HL.out]
  cases h1 : inB n 2 8
  · go_enter Tryz.func185, Tryz.ntmps185
    go_wp2_with (go_at_call 214; refine (within_any _ _ _ _).mono ?_; rintro e w' ⟨rfl, rfl⟩)
    go_ret
    exact ⟨rfl, (Below.refl _ _).alloc (Nat.le_refl _) _⟩
  · rw [Bool.true_and]
    have hb1 : Below w.heap.size w (w.alloc (.cells #[.int .i64 id, .int .i64 ent, .int .i64 per, .string ref, .slice A n c, .bool void] 111)) := (Below.refl _ _).alloc (Nat.le_refl _) _
    have hr1 := h.far hb1 hB
    have hE : (w.alloc (.cells #[.int .i64 id, .int .i64 ent, .int .i64 per, .string ref, .slice A n c, .bool void] 111)).cell? ⟨w.heap.size, 1, none⟩ = some (.int .i64 ent) := box_cell 1
    have hz1 : w.heap.size < (w.alloc (.cells #[.int .i64 id, .int .i64 ent, .int .i64 per, .string ref, .slice A n c, .bool void] 111)).heap.size := by simp
    go_enter Tryz.func185, Tryz.ntmps185
    go_wp2_with (go_at_call 214; refine (within_any _ _ _ _).mono ?_; rintro e w' ⟨rfl, rfl⟩)
    have HB1 := Lib.hid hb1
    have HR1 := Lib.hid hr1
    have HE := Lib.hid hE
    have HZ := Lib.hid hz1
    clear hb1 hr1 hE hz1 h
    generalize w.alloc (.cells #[.int .i64 id, .int .i64 ent, .int .i64 per, .string ref, .slice A n c, .bool void] 111) = W1 at *
    go_loopw [13, 4] (fun iv _ wr => ∃ k : Nat, k ≤ n ∧ iv = .int .i64 k ∧ Hid (linesAll ent (L.take k) = true) ∧ Below W1.heap.size W1 wr) (fun iv _ _ => n - (intOf iv).toNat)
    case atStart => exact ⟨0, Nat.zero_le _, rfl, rfl, Below.refl _ _⟩
    case round =>
      obtain ⟨k, hk, rfl, hf, hbel⟩ := hrel
      have hzr := hbel.size
      by_cases hlt : k < n
      · obtain ⟨ad, x, rfl, hbk, hx, p1, p2, p3⟩ := (HR1.out.far hbel (by have := HZ.out; omega)).lin hlt
        have hkn : (k : Int) < (n : Int) := by omega
        have p2' := cell_behind p2 (by omega)
        have p3' := cell_behind p3 (by omega)
        have hE2 : wr.cell? ⟨w.heap.size, 1, none⟩ = some (.int .i64 ent) := (hbel.cell (by have := HZ.out; exact this)).trans HE.out
        have hzw : w.heap.size < wr.heap.size := by have := HZ.out; omega
        have HX := Lib.hid hx
        have HBL : Hid (∀ o, Below w.heap.size w (wr.alloc o)) := fun o => HB1.out.trans ((hbel.alloc hzr o).mono HB1.out.size)
        have HBR : Hid (∀ o, Below W1.heap.size W1 (wr.alloc o)) := fun o => hbel.alloc hzr o
        clear hx p2 p3 hbel
        obtain ⟨x1, x2, x3⟩ := x
        cases c1 : inB x1 1 9999
        · go_wp2_with (go_at_call 214; refine (within_any _ _ _ _).mono ?_; rintro e w' ⟨rfl, rfl⟩)
          go_ret
          exact ⟨ret_bool (linesAll_no HX.out (by simp [lineOk, c1])).symm, HBL.out _⟩
        cases c2 : (x2 == 0)
        rotate_left
        · go_wp2_with (go_at_call 214; refine (within_any _ _ _ _).mono ?_; rintro e w' ⟨rfl, rfl⟩)
          go_ret
          exact ⟨ret_bool (linesAll_no HX.out (by simp [lineOk, c2])).symm, HBL.out _⟩
        cases c3 : inB x3 0 9
        · go_wp2_with (go_at_call 214; refine (within_any _ _ _ _).mono ?_; rintro e w' ⟨rfl, rfl⟩)
          go_ret
          exact ⟨ret_bool (linesAll_no HX.out (by simp [lineOk, c3])).symm, HBL.out _⟩
        cases c4 : (x3 == ent)
        rotate_left
        · go_wp2_with (go_at_call 214; refine (within_any _ _ _ _).mono ?_; rintro e w' ⟨rfl, rfl⟩)
          go_ret
          exact ⟨ret_bool (linesAll_no HX.out (by simp [lineOk, c4])).symm, HBL.out _⟩
        · go_wp2_with (go_at_call 214; refine (within_any _ _ _ _).mono ?_; rintro e w' ⟨rfl, rfl⟩)
          exact ⟨⟨k + 1, by omega, by go_num, linesAll_step hf.out HX.out (by simp [lineOk, c1, c2, c3, c4]), HBR.out _⟩, by simp [intOf]; omega⟩
      · go_wp2
        go_ret
        exact ⟨ret_bool (linesAll_end hf.out (by have := HL.out; omega)).symm, HB1.out.trans (hbel.mono HB1.out.size)⟩
end Go.Proofs.YtjlokkjbdgcooaaGreat
