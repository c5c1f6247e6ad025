/-
  EntryOrder: three copies and three variables, made in whatever order.
-/
import Derived.Test.YtakjiehncoankaaDoorOrderMath
import Derived.Test.YtakjiehncoankaaDoorRefCopy
import Derived.Test.YtakjiehncoankaaDoorCodeSub
namespace Go.Proofs.YtakjiehncoankaaDoor
open Go.RowKit Go.Sort

def eo0 : Oper := ⟨some 39, .load 24 (.tmp 3), 24, "law.go:98", #[], none⟩
def eo1 : Oper := ⟨some 40, .call { callee := .value (.func 12), args := #[.tmp 39], argTypes := #[24] }, 24, "law.go:98", #[⟨0, .data⟩], none⟩
def eo2 : Oper := ⟨some 41, .load 24 (.tmp 3), 24, "law.go:98", #[], none⟩
def eo3 : Oper := ⟨some 42, .call { callee := .value (.func 12), args := #[.tmp 41], argTypes := #[24] }, 24, "law.go:98", #[⟨2, .data⟩, ⟨1, .chain⟩], none⟩
def eo4 : Oper := ⟨some 43, .load 24 (.tmp 3), 24, "law.go:98", #[], none⟩
def eo5 : Oper := ⟨some 44, .call { callee := .value (.func 12), args := #[.tmp 43], argTypes := #[24] }, 24, "law.go:98", #[⟨4, .data⟩, ⟨3, .chain⟩], none⟩
def eo6 : Oper := ⟨some 8, .alloc 24, 0, "law.go:98", #[], none⟩
def eo7 : Oper := ⟨some 9, .alloc 24, 0, "law.go:98", #[], none⟩
def eo8 : Oper := ⟨some 10, .alloc 24, 0, "law.go:98", #[], none⟩
def eo9 : Oper := ⟨none, .store 24 (.tmp 8) (.tmp 40), 0, "law.go:98", #[⟨6, .data⟩, ⟨1, .data⟩, ⟨5, .chain⟩, ⟨0, .phase⟩, ⟨1, .phase⟩, ⟨2, .textOnly .lateStores⟩, ⟨3, .textOnly .lateStoresUnsure⟩, ⟨4, .textOnly .lateStores⟩, ⟨5, .textOnly .lateStoresUnsure⟩, ⟨6, .phase⟩, ⟨7, .phase⟩, ⟨8, .phase⟩], none⟩
def eo10 : Oper := ⟨none, .store 24 (.tmp 9) (.tmp 42), 0, "law.go:98", #[⟨7, .data⟩, ⟨3, .data⟩, ⟨9, .chain⟩, ⟨0, .phase⟩, ⟨1, .phase⟩, ⟨2, .phase⟩, ⟨3, .phase⟩, ⟨4, .textOnly .lateStores⟩, ⟨5, .textOnly .lateStoresUnsure⟩, ⟨6, .phase⟩, ⟨7, .phase⟩, ⟨8, .phase⟩, ⟨9, .phase⟩], none⟩
def eo11 : Oper := ⟨none, .store 24 (.tmp 10) (.tmp 44), 0, "law.go:98", #[⟨8, .data⟩, ⟨5, .data⟩, ⟨10, .chain⟩, ⟨0, .phase⟩, ⟨1, .phase⟩, ⟨2, .phase⟩, ⟨3, .phase⟩, ⟨4, .phase⟩, ⟨5, .phase⟩, ⟨6, .phase⟩, ⟨7, .phase⟩, ⟨8, .phase⟩, ⟨9, .phase⟩, ⟨10, .phase⟩], none⟩
/-- The operations of that region. -/
def eoOps : Array Oper := #[eo0, eo1, eo2, eo3, eo4, eo5, eo6, eo7, eo8, eo9, eo10, eo11]
noncomputable def eoR4 : Code := subCode [1, 1, 1, 0] (Tryd.f4.body.getD .skip)
theorem eoR4_eq : eoR4 = Code.region 4 eoOps true := by kernel_rfl

def Row (W w : World) (j : Jrn) (n g c : Nat) : Prop := w.ownsRow W.heap.size 39 3 (.slice (some ⟨g, 0, none⟩) n c) n (lins j.lines)
def Box (W w : World) (b : Nat) : Prop := JAt w b zeroJ none 0 0 ∧ W.heap.size ≤ b
theorem Row.below {W w w' : World} {j : Jrn} {n g c : Nat} (h : Row W w j n g c) (hb : Below w.heap.size w w') : Row W w' j n g c := own_kept h fun q hq _ => hb.block q hq
theorem Row.lt {W w : World} {j : Jrn} {n g c : Nat} (h : Row W w j n g c) : g < w.heap.size := own_lt h g rfl
theorem Box.below {W w w' : World} {b : Nat} (h : Box W w b) (hb : Below w.heap.size w w') : Box W w' b := ⟨(hb.block b (lt_of_blk h.1)).trans h.1, h.2⟩
theorem Box.lt {W w : World} {b : Nat} (h : Box W w b) : b < w.heap.size := lt_of_blk h.1
/-- What holds while some of the first nine have come up (d: which), in whatever order. -/
def OI (W : World) (j : Jrn) (A : Option Addr) (n c : Nat) (d0 d1 d2 d3 d4 d5 d6 d7 d8 : Bool) (u8 u9 u10 u39 u40 u41 u42 u43 u44 : Value) (w : World) : Prop :=
  (Below W.heap.size W w ∧ (d1 = true → d0 = true) ∧ (d3 = true → d1 = true ∧ d2 = true) ∧ (d5 = true → d3 = true ∧ d4 = true)) ∧
  ((d0 = true → u39 = j.val A n c) ∧ (d2 = true → u41 = j.val A n c) ∧ (d4 = true → u43 = j.val A n c)) ∧
  ∃ g1 c1 g2 c2 g3 c3 b1 b2 b3 : Nat,
    ((d1 = true → u40 = j.val (some ⟨g1, 0, none⟩) n c1 ∧ Row W w j n g1 c1) ∧ (d3 = true → u42 = j.val (some ⟨g2, 0, none⟩) n c2 ∧ Row W w j n g2 c2 ∧ g1 < g2) ∧ (d5 = true → u44 = j.val (some ⟨g3, 0, none⟩) n c3 ∧ Row W w j n g3 c3 ∧ g2 < g3)) ∧
    ((d6 = true → u8 = .pointer (some ⟨b1, 0, none⟩) ∧ Box W w b1) ∧ (d7 = true → u9 = .pointer (some ⟨b2, 0, none⟩) ∧ Box W w b2) ∧ (d8 = true → u10 = .pointer (some ⟨b3, 0, none⟩) ∧ Box W w b3)) ∧
    ((d6 = true → d7 = true → b1 ≠ b2) ∧ (d6 = true → d8 = true → b1 ≠ b3) ∧ (d7 = true → d8 = true → b2 ≠ b3))
section
variable {W w w' : World} {j : Jrn} {A : Option Addr} {n c : Nat} {d0 d1 d2 d3 d4 d5 d6 d7 d8 : Bool} {u8 u9 u10 u39 u40 u41 u42 u43 u44 : Value}
theorem OI.op0 (h : OI W j A n c d0 d1 d2 d3 d4 d5 d6 d7 d8 u8 u9 u10 u39 u40 u41 u42 u43 u44 w) : OI W j A n c true d1 d2 d3 d4 d5 d6 d7 d8 u8 u9 u10 (j.val A n c) u40 u41 u42 u43 u44 w := by
  obtain ⟨⟨a1, a2, a3, a4⟩, ⟨e1, e2, e3⟩, r⟩ := h
  exact ⟨⟨a1, fun _ => rfl, a3, a4⟩, ⟨fun _ => rfl, e2, e3⟩, r⟩
theorem OI.op2 (h : OI W j A n c d0 d1 d2 d3 d4 d5 d6 d7 d8 u8 u9 u10 u39 u40 u41 u42 u43 u44 w) : OI W j A n c d0 d1 true d3 d4 d5 d6 d7 d8 u8 u9 u10 u39 u40 (j.val A n c) u42 u43 u44 w := by
  obtain ⟨⟨a1, a2, a3, a4⟩, ⟨e1, e2, e3⟩, r⟩ := h
  exact ⟨⟨a1, a2, fun h => ⟨(a3 h).1, rfl⟩, a4⟩, ⟨e1, fun _ => rfl, e3⟩, r⟩
theorem OI.op4 (h : OI W j A n c d0 d1 d2 d3 d4 d5 d6 d7 d8 u8 u9 u10 u39 u40 u41 u42 u43 u44 w) : OI W j A n c d0 d1 d2 d3 true d5 d6 d7 d8 u8 u9 u10 u39 u40 u41 u42 (j.val A n c) u44 w := by
  obtain ⟨⟨a1, a2, a3, a4⟩, ⟨e1, e2, e3⟩, r⟩ := h
  exact ⟨⟨a1, a2, a3, fun h => ⟨(a4 h).1, rfl⟩⟩, ⟨e1, e2, fun _ => rfl⟩, r⟩
theorem OI.op1 {g cc : Nat} (h : OI W j A n c d0 d1 d2 d3 d4 d5 d6 d7 d8 u8 u9 u10 u39 u40 u41 u42 u43 u44 w) (h0 : d0 = true) (hn : d1 = false) (hown : w'.ownsRow w.heap.size 39 3 (.slice (some ⟨g, 0, none⟩) n cc) n (lins j.lines)) (hb : Below w.heap.size w w') : OI W j A n c d0 true d2 d3 d4 d5 d6 d7 d8 u8 u9 u10 u39 (j.val (some ⟨g, 0, none⟩) n cc) u41 u42 u43 u44 w' := by
  obtain ⟨⟨a1, a2, a3, a4⟩, e, g1, c1, g2, c2, g3, c3, b1, b2, b3, ⟨r1, r2, r3⟩, ⟨x1, x2, x3⟩, y⟩ := h
  have hbw : Below W.heap.size W w' := a1.trans (hb.mono a1.size)
  have hrow : Row W w' j n g cc := own_base hown a1.size
  have hge := own_ge hown g rfl
  have n3 : d3 = true → False := fun h => by have := (a3 h).1; rw [hn] at this; cases this
  have n5 : d5 = true → False := fun h => n3 (a4 h).1
  exact ⟨⟨hbw, fun _ => h0, fun h => (n3 h).elim, fun h => (n5 h).elim⟩, e, g, cc, g2, c2, g3, c3, b1, b2, b3, ⟨fun _ => ⟨rfl, hrow⟩, fun h => (n3 h).elim, fun h => (n5 h).elim⟩, ⟨fun h => ⟨(x1 h).1, (x1 h).2.below hb⟩, fun h => ⟨(x2 h).1, (x2 h).2.below hb⟩, fun h => ⟨(x3 h).1, (x3 h).2.below hb⟩⟩, y⟩
theorem OI.op3 {g cc : Nat} (h : OI W j A n c d0 d1 d2 d3 d4 d5 d6 d7 d8 u8 u9 u10 u39 u40 u41 u42 u43 u44 w) (h0 : d1 = true) (h00 : d2 = true) (hn : d3 = false) (hown : w'.ownsRow w.heap.size 39 3 (.slice (some ⟨g, 0, none⟩) n cc) n (lins j.lines)) (hb : Below w.heap.size w w') : OI W j A n c d0 d1 d2 true d4 d5 d6 d7 d8 u8 u9 u10 u39 u40 u41 (j.val (some ⟨g, 0, none⟩) n cc) u43 u44 w' := by
  obtain ⟨⟨a1, a2, a3, a4⟩, e, g1, c1, g2, c2, g3, c3, b1, b2, b3, ⟨r1, r2, r3⟩, ⟨x1, x2, x3⟩, y⟩ := h
  have hbw : Below W.heap.size W w' := a1.trans (hb.mono a1.size)
  have hrow : Row W w' j n g cc := own_base hown a1.size
  have hge := own_ge hown g rfl
  have n5 : d5 = true → False := fun h => by have := (a4 h).1; rw [hn] at this; cases this
  exact ⟨⟨hbw, a2, fun _ => ⟨h0, h00⟩, fun h => (n5 h).elim⟩, e, g1, c1, g, cc, g3, c3, b1, b2, b3, ⟨fun h => ⟨(r1 h).1, (r1 h).2.below hb⟩, fun _ => ⟨rfl, hrow, by have := (r1 h0).2.lt; omega⟩, fun h => (n5 h).elim⟩, ⟨fun h => ⟨(x1 h).1, (x1 h).2.below hb⟩, fun h => ⟨(x2 h).1, (x2 h).2.below hb⟩, fun h => ⟨(x3 h).1, (x3 h).2.below hb⟩⟩, y⟩
theorem OI.op5 {g cc : Nat} (h : OI W j A n c d0 d1 d2 d3 d4 d5 d6 d7 d8 u8 u9 u10 u39 u40 u41 u42 u43 u44 w) (h0 : d3 = true) (h00 : d4 = true) (hown : w'.ownsRow w.heap.size 39 3 (.slice (some ⟨g, 0, none⟩) n cc) n (lins j.lines)) (hb : Below w.heap.size w w') : OI W j A n c d0 d1 d2 d3 d4 true d6 d7 d8 u8 u9 u10 u39 u40 u41 u42 u43 (j.val (some ⟨g, 0, none⟩) n cc) w' := by
  obtain ⟨⟨a1, a2, a3, a4⟩, e, g1, c1, g2, c2, g3, c3, b1, b2, b3, ⟨r1, r2, r3⟩, ⟨x1, x2, x3⟩, y⟩ := h
  have hbw : Below W.heap.size W w' := a1.trans (hb.mono a1.size)
  have hrow : Row W w' j n g cc := own_base hown a1.size
  have hge := own_ge hown g rfl
  
  exact ⟨⟨hbw, a2, a3, fun _ => ⟨h0, h00⟩⟩, e, g1, c1, g2, c2, g, cc, b1, b2, b3, ⟨fun h => ⟨(r1 h).1, (r1 h).2.below hb⟩, fun h => ⟨(r2 h).1, (r2 h).2.1.below hb, (r2 h).2.2⟩, fun _ => ⟨rfl, hrow, by have := (r2 h0).2.1.lt; omega⟩⟩, ⟨fun h => ⟨(x1 h).1, (x1 h).2.below hb⟩, fun h => ⟨(x2 h).1, (x2 h).2.below hb⟩, fun h => ⟨(x3 h).1, (x3 h).2.below hb⟩⟩, y⟩
theorem OI.op6 (h : OI W j A n c d0 d1 d2 d3 d4 d5 d6 d7 d8 u8 u9 u10 u39 u40 u41 u42 u43 u44 w) : OI W j A n c d0 d1 d2 d3 d4 d5 true d7 d8 (.pointer (some ⟨w.heap.size, 0, none⟩)) u9 u10 u39 u40 u41 u42 u43 u44 (w.alloc (.cells #[.int .i64 0, .int .i64 0, .int .i64 0, .string ⟨#[]⟩, .slice none 0 0, .bool false] 24)) := by
  obtain ⟨⟨a1, a2, a3, a4⟩, e, g1, c1, g2, c2, g3, c3, b1, b2, b3, ⟨r1, r2, r3⟩, ⟨x1, x2, x3⟩, ⟨y1, y2, y3⟩⟩ := h
  have hb : Below w.heap.size w (w.alloc (.cells #[.int .i64 0, .int .i64 0, .int .i64 0, .string ⟨#[]⟩, .slice none 0 0, .bool false] 24)) := (Below.refl _ _).alloc (Nat.le_refl _) _
  have hbw : Below W.heap.size W (w.alloc (.cells #[.int .i64 0, .int .i64 0, .int .i64 0, .string ⟨#[]⟩, .slice none 0 0, .bool false] 24)) := a1.trans (hb.mono a1.size)
  have hbox : Box W (w.alloc (.cells #[.int .i64 0, .int .i64 0, .int .i64 0, .string ⟨#[]⟩, .slice none 0 0, .bool false] 24)) w.heap.size := ⟨heap_new w _, a1.size⟩
  exact ⟨⟨hbw, a2, a3, a4⟩, e, g1, c1, g2, c2, g3, c3, w.heap.size, b2, b3, ⟨fun h => ⟨(r1 h).1, (r1 h).2.below hb⟩, fun h => ⟨(r2 h).1, (r2 h).2.1.below hb, (r2 h).2.2⟩, fun h => ⟨(r3 h).1, (r3 h).2.1.below hb, (r3 h).2.2⟩⟩, ⟨fun _ => ⟨rfl, hbox⟩, fun h => ⟨(x2 h).1, (x2 h).2.below hb⟩, fun h => ⟨(x3 h).1, (x3 h).2.below hb⟩⟩, ⟨fun _ h => (Nat.ne_of_lt (x2 h).2.lt).symm, fun _ h => (Nat.ne_of_lt (x3 h).2.lt).symm, y3⟩⟩
theorem OI.op7 (h : OI W j A n c d0 d1 d2 d3 d4 d5 d6 d7 d8 u8 u9 u10 u39 u40 u41 u42 u43 u44 w) : OI W j A n c d0 d1 d2 d3 d4 d5 d6 true d8 u8 (.pointer (some ⟨w.heap.size, 0, none⟩)) u10 u39 u40 u41 u42 u43 u44 (w.alloc (.cells #[.int .i64 0, .int .i64 0, .int .i64 0, .string ⟨#[]⟩, .slice none 0 0, .bool false] 24)) := by
  obtain ⟨⟨a1, a2, a3, a4⟩, e, g1, c1, g2, c2, g3, c3, b1, b2, b3, ⟨r1, r2, r3⟩, ⟨x1, x2, x3⟩, ⟨y1, y2, y3⟩⟩ := h
  have hb : Below w.heap.size w (w.alloc (.cells #[.int .i64 0, .int .i64 0, .int .i64 0, .string ⟨#[]⟩, .slice none 0 0, .bool false] 24)) := (Below.refl _ _).alloc (Nat.le_refl _) _
  have hbw : Below W.heap.size W (w.alloc (.cells #[.int .i64 0, .int .i64 0, .int .i64 0, .string ⟨#[]⟩, .slice none 0 0, .bool false] 24)) := a1.trans (hb.mono a1.size)
  have hbox : Box W (w.alloc (.cells #[.int .i64 0, .int .i64 0, .int .i64 0, .string ⟨#[]⟩, .slice none 0 0, .bool false] 24)) w.heap.size := ⟨heap_new w _, a1.size⟩
  exact ⟨⟨hbw, a2, a3, a4⟩, e, g1, c1, g2, c2, g3, c3, b1, w.heap.size, b3, ⟨fun h => ⟨(r1 h).1, (r1 h).2.below hb⟩, fun h => ⟨(r2 h).1, (r2 h).2.1.below hb, (r2 h).2.2⟩, fun h => ⟨(r3 h).1, (r3 h).2.1.below hb, (r3 h).2.2⟩⟩, ⟨fun h => ⟨(x1 h).1, (x1 h).2.below hb⟩, fun _ => ⟨rfl, hbox⟩, fun h => ⟨(x3 h).1, (x3 h).2.below hb⟩⟩, ⟨fun h _ => Nat.ne_of_lt (x1 h).2.lt, y2, fun _ h => (Nat.ne_of_lt (x3 h).2.lt).symm⟩⟩
theorem OI.op8 (h : OI W j A n c d0 d1 d2 d3 d4 d5 d6 d7 d8 u8 u9 u10 u39 u40 u41 u42 u43 u44 w) : OI W j A n c d0 d1 d2 d3 d4 d5 d6 d7 true u8 u9 (.pointer (some ⟨w.heap.size, 0, none⟩)) u39 u40 u41 u42 u43 u44 (w.alloc (.cells #[.int .i64 0, .int .i64 0, .int .i64 0, .string ⟨#[]⟩, .slice none 0 0, .bool false] 24)) := by
  obtain ⟨⟨a1, a2, a3, a4⟩, e, g1, c1, g2, c2, g3, c3, b1, b2, b3, ⟨r1, r2, r3⟩, ⟨x1, x2, x3⟩, ⟨y1, y2, y3⟩⟩ := h
  have hb : Below w.heap.size w (w.alloc (.cells #[.int .i64 0, .int .i64 0, .int .i64 0, .string ⟨#[]⟩, .slice none 0 0, .bool false] 24)) := (Below.refl _ _).alloc (Nat.le_refl _) _
  have hbw : Below W.heap.size W (w.alloc (.cells #[.int .i64 0, .int .i64 0, .int .i64 0, .string ⟨#[]⟩, .slice none 0 0, .bool false] 24)) := a1.trans (hb.mono a1.size)
  have hbox : Box W (w.alloc (.cells #[.int .i64 0, .int .i64 0, .int .i64 0, .string ⟨#[]⟩, .slice none 0 0, .bool false] 24)) w.heap.size := ⟨heap_new w _, a1.size⟩
  exact ⟨⟨hbw, a2, a3, a4⟩, e, g1, c1, g2, c2, g3, c3, b1, b2, w.heap.size, ⟨fun h => ⟨(r1 h).1, (r1 h).2.below hb⟩, fun h => ⟨(r2 h).1, (r2 h).2.1.below hb, (r2 h).2.2⟩, fun h => ⟨(r3 h).1, (r3 h).2.1.below hb, (r3 h).2.2⟩⟩, ⟨fun h => ⟨(x1 h).1, (x1 h).2.below hb⟩, fun h => ⟨(x2 h).1, (x2 h).2.below hb⟩, fun _ => ⟨rfl, hbox⟩⟩, ⟨y1, fun h _ => Nat.ne_of_lt (x1 h).2.lt, fun h _ => Nat.ne_of_lt (x2 h).2.lt⟩⟩
end
end Go.Proofs.YtakjiehncoankaaDoor
