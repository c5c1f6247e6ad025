/-
  EntryTells: two copies and two variables, made in whatever order.
-/
import Derived.Test.YtbdhhfaelnnocaaGreatDoorEntryCopy
import Derived.Test.YtbdhhfaelnnocaaGreatDoorEntryParse
import Derived.Test.YtbdhhfaelnnocaaGreatDoorCodeSub
namespace Go.Proofs.YtbdhhfaelnnocaaGreatDoor
open Go.RowKit Go.Sort

def et0 : Oper := ⟨some 85, .load 24 (.tmp 5), 24, "law.go:46", #[], none⟩
def et1 : Oper := ⟨some 86, .call { callee := .value (.func 11), args := #[.tmp 85], argTypes := #[24] }, 24, "law.go:46", #[⟨0, .data⟩], none⟩
def et2 : Oper := ⟨some 87, .load 24 (.tmp 5), 24, "law.go:46", #[], none⟩
def et3 : Oper := ⟨some 88, .call { callee := .value (.func 11), args := #[.tmp 87], argTypes := #[24] }, 24, "law.go:46", #[⟨2, .data⟩, ⟨1, .chain⟩], none⟩
def et4 : Oper := ⟨some 12, .alloc 24, 0, "law.go:46", #[], none⟩
def et5 : Oper := ⟨some 13, .alloc 24, 0, "law.go:46", #[], none⟩
def et6 : Oper := ⟨none, .store 24 (.tmp 12) (.tmp 86), 0, "law.go:46", #[⟨4, .data⟩, ⟨1, .data⟩, ⟨3, .chain⟩, ⟨0, .phase⟩, ⟨1, .phase⟩, ⟨2, .textOnly .lateStores⟩, ⟨3, .textOnly .lateStoresUnsure⟩, ⟨4, .phase⟩, ⟨5, .phase⟩], none⟩
def et7 : Oper := ⟨none, .store 24 (.tmp 13) (.tmp 88), 0, "law.go:46", #[⟨5, .data⟩, ⟨3, .data⟩, ⟨6, .chain⟩, ⟨0, .phase⟩, ⟨1, .phase⟩, ⟨2, .phase⟩, ⟨3, .phase⟩, ⟨4, .phase⟩, ⟨5, .phase⟩, ⟨6, .phase⟩], none⟩
/-- The operations of that region. -/
def etOps : Array Oper := #[et0, et1, et2, et3, et4, et5, et6, et7]
noncomputable def etR15 : Code := subCode [1, 1, 1, 1, 1, 1, 1, 1, 1, 1, 0] (Tryz.f3.body.getD .skip)
theorem etR15_eq : etR15 = Code.region 15 etOps true := by kernel_rfl

def RowA (W w : World) (j : Jrn) (n : Nat) (A : Option Addr) (c : Nat) : Prop := w.ownsRow W.heap.size 34 3 (.slice A n c) n (lins j.lines)
def Box (W w : World) (b : Nat) : Prop := JAt w b zeroJ none 0 0 ∧ W.heap.size ≤ b
def Dis (A1 A2 : Option Addr) (n c1 c2 : Nat) : Prop := ∀ k, (Value.slice A2 n c2).ownBlock = some k → (Value.slice A1 n c1).ownBlock ≠ some k
theorem RowA.below {W w w' : World} {j : Jrn} {n c : Nat} {A : Option Addr} (h : RowA W w j n A c) (hb : Below w.heap.size w w') : RowA W w' j n A c := own_kept h fun q hq _ => hb.block q hq
theorem Box.below {W w w' : World} {b : Nat} (h : Box W w b) (hb : Below w.heap.size w w') : Box W w' b := ⟨(hb.block b (lt_of_blk h.1)).trans h.1, h.2⟩
theorem Box.lt {W w : World} {b : Nat} (h : Box W w b) : b < w.heap.size := lt_of_blk h.1
/-- What holds while some of the first six have come up (d: which), in whatever order. -/
def TI (W : World) (j : Jrn) (A : Option Addr) (n c : Nat) (d0 d1 d2 d3 d4 d5 : Bool) (u12 u13 u85 u86 u87 u88 : Value) (w : World) : Prop :=
  (Below W.heap.size W w ∧ (d1 = true → d0 = true) ∧ (d3 = true → d1 = true ∧ d2 = true)) ∧
  ((d0 = true → u85 = j.val A n c) ∧ (d2 = true → u87 = j.val A n c)) ∧
  ∃ (A1 : Option Addr) (c1 : Nat) (A2 : Option Addr) (c2 b1 b2 : Nat),
    ((d1 = true → u86 = j.val A1 n c1 ∧ RowA W w j n A1 c1) ∧ (d3 = true → u88 = j.val A2 n c2 ∧ RowA W w j n A2 c2 ∧ Dis A1 A2 n c1 c2)) ∧
    ((d4 = true → u12 = .pointer (some ⟨b1, 0, none⟩) ∧ Box W w b1) ∧ (d5 = true → u13 = .pointer (some ⟨b2, 0, none⟩) ∧ Box W w b2)) ∧
    (d4 = true → d5 = true → b1 ≠ b2)
section
variable {W w w' : World} {j : Jrn} {A : Option Addr} {n c : Nat} {d0 d1 d2 d3 d4 d5 : Bool} {u12 u13 u85 u86 u87 u88 : Value}
theorem TI.op0 (h : TI W j A n c d0 d1 d2 d3 d4 d5 u12 u13 u85 u86 u87 u88 w) : TI W j A n c true d1 d2 d3 d4 d5 u12 u13 (j.val A n c) u86 u87 u88 w := by
  obtain ⟨⟨a1, a2, a3⟩, ⟨e1, e2⟩, r⟩ := h
  exact ⟨⟨a1, fun _ => rfl, a3⟩, ⟨fun _ => rfl, e2⟩, r⟩
theorem TI.op2 (h : TI W j A n c d0 d1 d2 d3 d4 d5 u12 u13 u85 u86 u87 u88 w) : TI W j A n c d0 d1 true d3 d4 d5 u12 u13 u85 u86 (j.val A n c) u88 w := by
  obtain ⟨⟨a1, a2, a3⟩, ⟨e1, e2⟩, r⟩ := h
  exact ⟨⟨a1, a2, fun h => ⟨(a3 h).1, rfl⟩⟩, ⟨e1, fun _ => rfl⟩, r⟩
theorem TI.op1 {A' : Option Addr} {cc : Nat} (h : TI W j A n c d0 d1 d2 d3 d4 d5 u12 u13 u85 u86 u87 u88 w) (h0 : d0 = true) (hn : d1 = false) (hown : w'.ownsRow w.heap.size 34 3 (.slice A' n cc) n (lins j.lines)) (hb : Below w.heap.size w w') : TI W j A n c d0 true d2 d3 d4 d5 u12 u13 u85 (j.val A' n cc) u87 u88 w' := by
  obtain ⟨⟨a1, a2, a3⟩, e, A1, c1, A2, c2, b1, b2, ⟨r1, r2⟩, ⟨x1, x2⟩, y⟩ := h
  have n3 : d3 = true → False := fun h => by have := (a3 h).1; rw [hn] at this; cases this
  exact ⟨⟨a1.trans (hb.mono a1.size), fun _ => h0, fun h => (n3 h).elim⟩, e, A', cc, A2, c2, b1, b2, ⟨fun _ => ⟨rfl, own_base hown a1.size⟩, fun h => (n3 h).elim⟩, ⟨fun h => ⟨(x1 h).1, (x1 h).2.below hb⟩, fun h => ⟨(x2 h).1, (x2 h).2.below hb⟩⟩, y⟩
theorem TI.op3 {A' : Option Addr} {cc : Nat} (h : TI W j A n c d0 d1 d2 d3 d4 d5 u12 u13 u85 u86 u87 u88 w) (h0 : d1 = true) (h00 : d2 = true) (hown : w'.ownsRow w.heap.size 34 3 (.slice A' n cc) n (lins j.lines)) (hb : Below w.heap.size w w') : TI W j A n c d0 d1 d2 true d4 d5 u12 u13 u85 u86 u87 (j.val A' n cc) w' := by
  obtain ⟨⟨a1, a2, a3⟩, e, A1, c1, A2, c2, b1, b2, ⟨r1, r2⟩, ⟨x1, x2⟩, y⟩ := h
  have hdis : Dis A1 A' n c1 cc := fun k hk hk1 => by
    have h1 := own_ge hown k hk
    have h2 := own_lt (r1 h0).2 k hk1
    omega
  exact ⟨⟨a1.trans (hb.mono a1.size), a2, fun _ => ⟨h0, h00⟩⟩, e, A1, c1, A', cc, b1, b2, ⟨fun h => ⟨(r1 h).1, (r1 h).2.below hb⟩, fun _ => ⟨rfl, own_base hown a1.size, hdis⟩⟩, ⟨fun h => ⟨(x1 h).1, (x1 h).2.below hb⟩, fun h => ⟨(x2 h).1, (x2 h).2.below hb⟩⟩, y⟩
theorem TI.op4 (h : TI W j A n c d0 d1 d2 d3 d4 d5 u12 u13 u85 u86 u87 u88 w) : TI W j A n c d0 d1 d2 d3 true d5 (.pointer (some ⟨w.heap.size, 0, none⟩)) u13 u85 u86 u87 u88 (w.alloc (.cells #[.int .i64 0, .int .i64 0, .int .i64 0, .string ⟨#[]⟩, .slice none 0 0, .bool false] 24)) := by
  obtain ⟨⟨a1, a2, a3⟩, e, A1, c1, A2, c2, b1, b2, ⟨r1, r2⟩, ⟨x1, x2⟩, y⟩ := h
  have hb : Below w.heap.size w (w.alloc (.cells #[.int .i64 0, .int .i64 0, .int .i64 0, .string ⟨#[]⟩, .slice none 0 0, .bool false] 24)) := (Below.refl _ _).alloc (Nat.le_refl _) _
  exact ⟨⟨a1.trans (hb.mono a1.size), a2, a3⟩, e, A1, c1, A2, c2, w.heap.size, b2, ⟨fun h => ⟨(r1 h).1, (r1 h).2.below hb⟩, fun h => ⟨(r2 h).1, (r2 h).2.1.below hb, (r2 h).2.2⟩⟩, ⟨fun _ => ⟨rfl, heap_new w _, a1.size⟩, fun h => ⟨(x2 h).1, (x2 h).2.below hb⟩⟩, fun _ h => (Nat.ne_of_lt (x2 h).2.lt).symm⟩
theorem TI.op5 (h : TI W j A n c d0 d1 d2 d3 d4 d5 u12 u13 u85 u86 u87 u88 w) : TI W j A n c d0 d1 d2 d3 d4 true u12 (.pointer (some ⟨w.heap.size, 0, none⟩)) u85 u86 u87 u88 (w.alloc (.cells #[.int .i64 0, .int .i64 0, .int .i64 0, .string ⟨#[]⟩, .slice none 0 0, .bool false] 24)) := by
  obtain ⟨⟨a1, a2, a3⟩, e, A1, c1, A2, c2, b1, b2, ⟨r1, r2⟩, ⟨x1, x2⟩, y⟩ := h
  have hb : Below w.heap.size w (w.alloc (.cells #[.int .i64 0, .int .i64 0, .int .i64 0, .string ⟨#[]⟩, .slice none 0 0, .bool false] 24)) := (Below.refl _ _).alloc (Nat.le_refl _) _
  exact ⟨⟨a1.trans (hb.mono a1.size), a2, a3⟩, e, A1, c1, A2, c2, b1, w.heap.size, ⟨fun h => ⟨(r1 h).1, (r1 h).2.below hb⟩, fun h => ⟨(r2 h).1, (r2 h).2.1.below hb, (r2 h).2.2⟩⟩, ⟨fun h => ⟨(x1 h).1, (x1 h).2.below hb⟩, fun _ => ⟨rfl, heap_new w _, a1.size⟩⟩, fun h _ => Nat.ne_of_lt (x1 h).2.lt⟩
end

def nb (d : Bool) : Nat := if d = true then 0 else 1
theorem nb_t {d : Bool} (h : nb d = 0) : d = true := by cases d; cases h; rfl
theorem nb_f : nb false = 1 := rfl
theorem nb_tt : nb true = 0 := rfl

set_option maxRecDepth 100000 in
set_option maxHeartbeats 4000000 in
theorem et_heads (s0 s1 s2 s3 s4 s6 s7 s8 s9 s10 s11 s14 s15 s16 s17 s18 s19 s20 s21 s22 s23 s24 s25 s26 s27 s28 s29 s30 s31 s32 s33 s34 s35 s36 s37 s38 s39 s40 s41 s42 s43 s44 s45 s46 s47 s48 s49 s50 s51 s52 s53 s54 s55 s56 s57 s58 s59 s60 s61 s62 s63 s64 s65 s66 s67 s68 s69 s70 s71 s72 s73 s74 s75 s76 s77 s78 s79 s80 s81 s82 s83 s84 s89 s90 s91 s92 s93 s94 s95 s96 s97 s98 s99 s100 s101 s102 s103 s104 s105 s106 s107 s108 s109 s110 s111 s112 s113 s114 s115 s116 s117 s118 s119 s120 s121 s122 s123 s124 s125 s126 s127 s128 s129 s130 : Value) (Q0 : Exit → Act → World → Prop) (j : Jrn) (A : Option Addr) (n c jb B : Nat) (W : World) (hj : JAt W jb j A n c) (hR : Rd W B 3 A n (lins j.lines)) (hB : B ≤ W.heap.size) (hn : n ≤ 1000) (hA : A = none → c = 0)
    (hend : ∀ (u12 u13 u85 u86 u87 u88 : Value) (w : World), TI W j A n c true true true true true true u12 u13 u85 u86 u87 u88 w → wpAny Tryz.prog .any etOps Q0 2 #[true, true, true, true, true, true, false, false] ⟨#[s0, s1, s2, s3, s4, .pointer (some ⟨jb, 0, none⟩), s6, s7, s8, s9, s10, s11, u12, u13, s14, s15, s16, s17, s18, s19, s20, s21, s22, s23, s24, s25, s26, s27, s28, s29, s30, s31, s32, s33, s34, s35, s36, s37, s38, s39, s40, s41, s42, s43, s44, s45, s46, s47, s48, s49, s50, s51, s52, s53, s54, s55, s56, s57, s58, s59, s60, s61, s62, s63, s64, s65, s66, s67, s68, s69, s70, s71, s72, s73, s74, s75, s76, s77, s78, s79, s80, s81, s82, s83, s84, u85, u86, u87, u88, s89, s90, s91, s92, s93, s94, s95, s96, s97, s98, s99, s100, s101, s102, s103, s104, s105, s106, s107, s108, s109, s110, s111, s112, s113, s114, s115, s116, s117, s118, s119, s120, s121, s122, s123, s124, s125, s126, s127, s128, s129, s130], []⟩ w) :
    ∀ (f : Nat) (d0 d1 d2 d3 d4 d5 : Bool) (u12 u13 u85 u86 u87 u88 : Value) (w : World), nb d0 + nb d1 + nb d2 + nb d3 + nb d4 + nb d5 = f → TI W j A n c d0 d1 d2 d3 d4 d5 u12 u13 u85 u86 u87 u88 w → wpAny Tryz.prog .any etOps Q0 (f + 2) #[d0, d1, d2, d3, d4, d5, false, false] ⟨#[s0, s1, s2, s3, s4, .pointer (some ⟨jb, 0, none⟩), s6, s7, s8, s9, s10, s11, u12, u13, s14, s15, s16, s17, s18, s19, s20, s21, s22, s23, s24, s25, s26, s27, s28, s29, s30, s31, s32, s33, s34, s35, s36, s37, s38, s39, s40, s41, s42, s43, s44, s45, s46, s47, s48, s49, s50, s51, s52, s53, s54, s55, s56, s57, s58, s59, s60, s61, s62, s63, s64, s65, s66, s67, s68, s69, s70, s71, s72, s73, s74, s75, s76, s77, s78, s79, s80, s81, s82, s83, s84, u85, u86, u87, u88, s89, s90, s91, s92, s93, s94, s95, s96, s97, s98, s99, s100, s101, s102, s103, s104, s105, s106, s107, s108, s109, s110, s111, s112, s113, s114, s115, s116, s117, s118, s119, s120, s121, s122, s123, s124, s125, s126, s127, s128, s129, s130], []⟩ w := by
  intro f
  induction f with
  | zero =>
    intro d0 d1 d2 d3 d4 d5 u12 u13 u85 u86 u87 u88 w hc h
    obtain rfl : d0 = true := nb_t (by omega)
    obtain rfl : d1 = true := nb_t (by omega)
    obtain rfl : d2 = true := nb_t (by omega)
    obtain rfl : d3 = true := nb_t (by omega)
    obtain rfl : d4 = true := nb_t (by omega)
    obtain rfl : d5 = true := nb_t (by omega)
    exact hend u12 u13 u85 u86 u87 u88 w h
  | succ f ih =>
    intro d0 d1 d2 d3 d4 d5 u12 u13 u85 u86 u87 u88 w hc h
    have hz := h.1.1.size
    have hjw : JAt w jb j A n c := (h.1.1.block jb (lt_of_blk hj)).trans hj
    have hRw : Rd w B 3 A n (lins j.lines) := hR.below (h.1.1.mono hB)
    obtain ⟨z0, z1, z2, z3, z4, z5⟩ := six_cells hjw
    rw [show f + 1 + 2 = (f + 2) + 1 by omega]
    refine ⟨fun hr => ?_, fun i hi => ?_⟩
    · exfalso
      have go : ∀ i, i ∈ Region.ready .any etOps #[d0, d1, d2, d3, d4, d5, false, false] → False := fun i hi => by rw [hr] at hi; cases hi
      cases d0
      · exact go 0 (mem_ready.2 ⟨rfl, et0, rfl, fun e he => by simp [et0] at he⟩)
      cases d2
      · exact go 2 (mem_ready.2 ⟨rfl, et2, rfl, fun e he => by simp [et2] at he⟩)
      cases d4
      · exact go 4 (mem_ready.2 ⟨rfl, et4, rfl, fun e he => by simp [et4] at he⟩)
      cases d5
      · exact go 5 (mem_ready.2 ⟨rfl, et5, rfl, fun e he => by simp [et5] at he⟩)
      cases d1
      · exact go 1 (mem_ready.2 ⟨rfl, et1, rfl, fun e he _ => by simp [et1] at he; subst he; rfl⟩)
      cases d3
      · exact go 3 (mem_ready.2 ⟨rfl, et3, rfl, fun e he _ => by simp [et3] at he; rcases he with rfl | rfl <;> rfl⟩)
      simp [nb] at hc
    · obtain ⟨hf, o, ho, hd⟩ := mem_ready.1 hi
      have hlt : i < 8 := (Array.getElem?_eq_some_iff.1 ho).1
      obtain rfl | rfl | rfl | rfl | rfl | rfl | rfl | rfl : i = 0 ∨ i = 1 ∨ i = 2 ∨ i = 3 ∨ i = 4 ∨ i = 5 ∨ i = 6 ∨ i = 7 := by omega
      · obtain rfl : d0 = false := hf
        have hnew := Lib.hid h.op0
        have hcc := Lib.hid hc
        clear h hR hRw hi ho hd hc
        refine wpOp_step (o := et0) rfl (fun K hK => ?_)
        unfold et0
        go_simp
        refine hK _ _ ?_
        exact ih true d1 d2 d3 d4 d5 u12 u13 _ u86 u87 u88 w (by have := hcc.out; simp only [nb_f, nb_tt] at this ⊢; omega) hnew.out
      · obtain rfl : d1 = false := hf
        obtain rfl : o = et1 := by have h2 : etOps[1]? = some et1 := rfl; rw [h2] at ho; injection ho with ho; exact ho.symm
        have hd0 : d0 = true := hd ⟨0, .data⟩ (by simp [et1]) rfl
        subst hd0
        have hu := h.2.1.1 rfl
        subst hu
        have kc := Lib.hid (entryCopy_any j A n c B w hRw (by omega) (by omega) hA)
        have H := Lib.hid h
        have hcc := Lib.hid hc
        clear h hR hRw hi ho hd hc
        unfold Jrn.val at kc
        unfold Jrn.val
        refine wpOp_step (o := et1) rfl (fun K hK => ?_)
        unfold et1
        go_simp
        go_at_call 11
        refine kc.out.mono ?_
        rintro e w' ⟨A', c', rfl, hown, hb⟩
        have hnew := Lib.hid (TI.op1 H.out rfl rfl hown hb)
        clear hown hb H
        go_simp
        refine hK _ _ ?_
        exact ih true true d2 d3 d4 d5 u12 u13 _ _ u87 u88 w' (by have := hcc.out; simp only [nb_f, nb_tt] at this ⊢; omega) hnew.out
      · obtain rfl : d2 = false := hf
        have hnew := Lib.hid h.op2
        have hcc := Lib.hid hc
        clear h hR hRw hi ho hd hc
        refine wpOp_step (o := et2) rfl (fun K hK => ?_)
        unfold et2
        go_simp
        refine hK _ _ ?_
        exact ih d0 d1 true d3 d4 d5 u12 u13 u85 u86 _ u88 w (by have := hcc.out; simp only [nb_f, nb_tt] at this ⊢; omega) hnew.out
      · obtain rfl : d3 = false := hf
        obtain rfl : o = et3 := by have h2 : etOps[3]? = some et3 := rfl; rw [h2] at ho; injection ho with ho; exact ho.symm
        obtain ⟨hd0, hd1⟩ : d2 = true ∧ d1 = true := ⟨hd ⟨2, .data⟩ (by simp [et3]) rfl, hd ⟨1, .chain⟩ (by simp [et3]) rfl⟩
        subst hd0 hd1
        have hu := h.2.1.2 rfl
        subst hu
        have kc := Lib.hid (entryCopy_any j A n c B w hRw (by omega) (by omega) hA)
        have H := Lib.hid h
        have hcc := Lib.hid hc
        clear h hR hRw hi ho hd hc
        unfold Jrn.val at kc
        unfold Jrn.val
        refine wpOp_step (o := et3) rfl (fun K hK => ?_)
        unfold et3
        go_simp
        go_at_call 11
        refine kc.out.mono ?_
        rintro e w' ⟨A', c', rfl, hown, hb⟩
        have hnew := Lib.hid (TI.op3 H.out rfl rfl hown hb)
        clear hown hb H
        go_simp
        refine hK _ _ ?_
        exact ih d0 true true true d4 d5 u12 u13 u85 u86 _ _ w' (by have := hcc.out; simp only [nb_f, nb_tt] at this ⊢; omega) hnew.out
      · obtain rfl : d4 = false := hf
        have hnew := Lib.hid h.op4
        have hcc := Lib.hid hc
        clear h hR hRw hi ho hd hc
        refine wpOp_step (o := et4) rfl (fun K hK => ?_)
        unfold et4
        go_simp
        refine hK _ _ ?_
        exact ih d0 d1 d2 d3 true d5 _ u13 u85 u86 u87 u88 _ (by have := hcc.out; simp only [nb_f, nb_tt] at this ⊢; omega) hnew.out
      · obtain rfl : d5 = false := hf
        have hnew := Lib.hid h.op5
        have hcc := Lib.hid hc
        clear h hR hRw hi ho hd hc
        refine wpOp_step (o := et5) rfl (fun K hK => ?_)
        unfold et5
        go_simp
        refine hK _ _ ?_
        exact ih d0 d1 d2 d3 d4 true u12 _ u85 u86 u87 u88 _ (by have := hcc.out; simp only [nb_f, nb_tt] at this ⊢; omega) hnew.out
      · exfalso
        obtain rfl : o = et6 := by have h2 : etOps[6]? = some et6 := rfl; rw [h2] at ho; injection ho with ho; exact ho.symm
        have e3 : d3 = true := hd ⟨3, .chain⟩ (by simp [et6]) rfl
        have e4 : d4 = true := hd ⟨4, .phase⟩ (by simp [et6]) rfl
        have e5 : d5 = true := hd ⟨5, .phase⟩ (by simp [et6]) rfl
        obtain ⟨e1, e2⟩ := h.1.2.2 e3
        have e0 := h.1.2.1 e1
        subst e0 e1 e2 e3 e4 e5
        simp [nb] at hc
      · exfalso
        obtain rfl : o = et7 := by have h2 : etOps[7]? = some et7 := rfl; rw [h2] at ho; injection ho with ho; exact ho.symm
        have e9 : false = true := hd ⟨6, .chain⟩ (by simp [et7]) rfl
        cases e9

theorem jat_put {w : World} {b : Nat} {a0 a1 a2 a3 a4 a5 : Value} (j : Jrn) (A : Option Addr) (n c : Nat) (h : w.heap[b]? = some (.cells #[a0, a1, a2, a3, a4, a5] 24 (0, 0))) :
    JAt ((((((w.setCell ⟨b, 0, none⟩ (.int .i64 j.id)).setCell ⟨b, 1, none⟩ (.int .i64 j.ent)).setCell ⟨b, 2, none⟩ (.int .i64 j.per)).setCell ⟨b, 3, none⟩ (.string j.ref)).setCell ⟨b, 4, none⟩ (.slice A n c)).setCell ⟨b, 5, none⟩ (.bool j.void)) b j A n c := by
  unfold JAt
  rw [set_here (set_here (set_here (set_here (set_here (set_here h)))))]
  rfl
theorem six_other {w : World} {b q : Nat} (hq : q ≠ b) (v0 v1 v2 v3 v4 v5 : Value) : ((((((w.setCell ⟨b, 0, none⟩ v0).setCell ⟨b, 1, none⟩ v1).setCell ⟨b, 2, none⟩ v2).setCell ⟨b, 3, none⟩ v3).setCell ⟨b, 4, none⟩ v4).setCell ⟨b, 5, none⟩ v5).heap[q]? = w.heap[q]? := by
  have e : ∀ (u : World) (i : Nat) (v : Value), (u.setCell ⟨b, i, none⟩ v).heap[q]? = u.heap[q]? := fun u i v => Below.heap_setCell _ _ _ _ hq
  rw [e, e, e, e, e, e]
theorem rowA_six {W w : World} {j : Jrn} {n c b : Nat} {A : Option Addr} (h : RowA W w j n A c) {jj : Jrn} {A' : Option Addr} {n' c' : Nat} (hb : JAt w b jj A' n' c') (v0 v1 v2 v3 v4 v5 : Value) : RowA W ((((((w.setCell ⟨b, 0, none⟩ v0).setCell ⟨b, 1, none⟩ v1).setCell ⟨b, 2, none⟩ v2).setCell ⟨b, 3, none⟩ v3).setCell ⟨b, 4, none⟩ v4).setCell ⟨b, 5, none⟩ v5) j n A c := by
  refine own_kept h fun q _ hq => six_other ?_ _ _ _ _ _ _
  rintro rfl
  exact own_ne h hb (by decide) hq

set_option maxRecDepth 100000 in
set_option maxHeartbeats 4000000 in
theorem etR15_any (s0 s1 s2 s3 s4 s6 s7 s8 s9 s10 s11 s12 s13 s14 s15 s16 s17 s18 s19 s20 s21 s22 s23 s24 s25 s26 s27 s28 s29 s30 s31 s32 s33 s34 s35 s36 s37 s38 s39 s40 s41 s42 s43 s44 s45 s46 s47 s48 s49 s50 s51 s52 s53 s54 s55 s56 s57 s58 s59 s60 s61 s62 s63 s64 s65 s66 s67 s68 s69 s70 s71 s72 s73 s74 s75 s76 s77 s78 s79 s80 s81 s82 s83 s84 s85 s86 s87 s88 s89 s90 s91 s92 s93 s94 s95 s96 s97 s98 s99 s100 s101 s102 s103 s104 s105 s106 s107 s108 s109 s110 s111 s112 s113 s114 s115 s116 s117 s118 s119 s120 s121 s122 s123 s124 s125 s126 s127 s128 s129 s130 : Value) (Q0 : Exit → Act → World → Prop) (j : Jrn) (A : Option Addr) (n c jb B : Nat) (W : World) (hj : JAt W jb j A n c) (hR : Rd W B 3 A n (lins j.lines)) (hB : B ≤ W.heap.size) (hn : n ≤ 1000) (hA : A = none → c = 0)
    (hQ : ∀ (u85 u86 u87 u88 : Value) (b1 b2 : Nat) (A1 A2 : Option Addr) (c1 c2 : Nat) (w : World), JAt w b1 j A1 n c1 → JAt w b2 j A2 n c2 → RowA W w j n A1 c1 → RowA W w j n A2 c2 → Dis A1 A2 n c1 c2 → b1 ≠ b2 → W.heap.size ≤ b1 → W.heap.size ≤ b2 → Below W.heap.size W w →
      Q0 .normal ⟨#[s0, s1, s2, s3, s4, .pointer (some ⟨jb, 0, none⟩), s6, s7, s8, s9, s10, s11, .pointer (some ⟨b1, 0, none⟩), .pointer (some ⟨b2, 0, none⟩), s14, s15, s16, s17, s18, s19, s20, s21, s22, s23, s24, s25, s26, s27, s28, s29, s30, s31, s32, s33, s34, s35, s36, s37, s38, s39, s40, s41, s42, s43, s44, s45, s46, s47, s48, s49, s50, s51, s52, s53, s54, s55, s56, s57, s58, s59, s60, s61, s62, s63, s64, s65, s66, s67, s68, s69, s70, s71, s72, s73, s74, s75, s76, s77, s78, s79, s80, s81, s82, s83, s84, u85, u86, u87, u88, s89, s90, s91, s92, s93, s94, s95, s96, s97, s98, s99, s100, s101, s102, s103, s104, s105, s106, s107, s108, s109, s110, s111, s112, s113, s114, s115, s116, s117, s118, s119, s120, s121, s122, s123, s124, s125, s126, s127, s128, s129, s130], []⟩ w) :
    Code.wp Tryz.prog etR15 Q0 ⟨#[s0, s1, s2, s3, s4, .pointer (some ⟨jb, 0, none⟩), s6, s7, s8, s9, s10, s11, s12, s13, s14, s15, s16, s17, s18, s19, s20, s21, s22, s23, s24, s25, s26, s27, s28, s29, s30, s31, s32, s33, s34, s35, s36, s37, s38, s39, s40, s41, s42, s43, s44, s45, s46, s47, s48, s49, s50, s51, s52, s53, s54, s55, s56, s57, s58, s59, s60, s61, s62, s63, s64, s65, s66, s67, s68, s69, s70, s71, s72, s73, s74, s75, s76, s77, s78, s79, s80, s81, s82, s83, s84, s85, s86, s87, s88, s89, s90, s91, s92, s93, s94, s95, s96, s97, s98, s99, s100, s101, s102, s103, s104, s105, s106, s107, s108, s109, s110, s111, s112, s113, s114, s115, s116, s117, s118, s119, s120, s121, s122, s123, s124, s125, s126, s127, s128, s129, s130], []⟩ W := by
  have HQ := Lib.hid hQ
  clear hQ
  rw [etR15_eq]
  refine wp_region_any (by kernel_rfl) ?_
  change wpAny Tryz.prog .any etOps Q0 (6 + 2) #[false, false, false, false, false, false, false, false] _ W.drew
  refine et_heads _ _ _ _ _ _ _ _ _ _ _ _ _ _ _ _ _ _ _ _ _ _ _ _ _ _ _ _ _ _ _ _ _ _ _ _ _ _ _ _ _ _ _ _ _ _ _ _ _ _ _ _ _ _ _ _ _ _ _ _ _ _ _ _ _ _ _ _ _ _ _ _ _ _ _ _ _ _ _ _ _ _ _ _ _ _ _ _ _ _ _ _ _ _ _ _ _ _ _ _ _ _ _ _ _ _ _ _ _ _ _ _ _ _ _ _ _ _ _ _ _ _ _ _ Q0 j A n c jb B W.drew hj (hR.below ((Below.refl _ _).drew)) hB hn hA ?_ 6 false false false false false false s12 s13 s85 s86 s87 s88 W.drew rfl ⟨⟨Below.refl _ _, (fun h => by cases h), fun h => by cases h⟩, ⟨(fun h => by cases h), fun h => by cases h⟩, none, 0, none, 0, 0, 0, ⟨(fun h => by cases h), fun h => by cases h⟩, ⟨(fun h => by cases h), fun h => by cases h⟩, fun h => by cases h⟩
  clear hj hR
  intro u12 u13 u85 u86 u87 u88 w h
  obtain ⟨⟨hbel, _, _⟩, ⟨e1, e2⟩, A1, c1, A2, c2, b1, b2, ⟨r1, r2⟩, ⟨x1, x2⟩, y1⟩ := h
  obtain ⟨rfl, R1⟩ := r1 rfl
  obtain ⟨rfl, R2, hdis⟩ := r2 rfl
  obtain ⟨rfl, B1⟩ := x1 rfl
  obtain ⟨rfl, B2⟩ := x2 rfl
  have n12 := y1 rfl rfl
  clear e1 e2 r1 r2 x1 x2 y1
  unfold Jrn.val
  obtain ⟨p0, p1, p2, p3, p4, p5⟩ := six_cells B1.1
  have pf := fun o => warm_of B1.1 o
  refine wpAny_ready (rs := [6]) (by kernel_rfl) (by simp) ?_
  refine AllReady.cons (o := et6) rfl (fun K hK => ?_) AllReady.nil
  unfold et6
  go_simp
  refine hK _ _ ?_
  clear hK K p0 p1 p2 p3 p4 p5 pf
  have J1 := jat_put j A1 n c1 B1.1
  have hb1 := below_six hbel B1.2 (.int .i64 j.id) (.int .i64 j.ent) (.int .i64 j.per) (.string j.ref) (.slice A1 n c1) (.bool j.void)
  have R1' := rowA_six R1 B1.1 (.int .i64 j.id) (.int .i64 j.ent) (.int .i64 j.per) (.string j.ref) (.slice A1 n c1) (.bool j.void)
  have R2' := rowA_six R2 B1.1 (.int .i64 j.id) (.int .i64 j.ent) (.int .i64 j.per) (.string j.ref) (.slice A1 n c1) (.bool j.void)
  have B2' : _ ∧ _ := And.intro ((six_other (w := w) (b := b1) (by omega) (.int .i64 j.id) (.int .i64 j.ent) (.int .i64 j.per) (.string j.ref) (.slice A1 n c1) (.bool j.void)).trans B2.1) B2.2
  have low1 := B1.2
  clear R1 R2 hbel B1 B2
  generalize (World.setCell (World.setCell (World.setCell (World.setCell (World.setCell (World.setCell w ⟨b1, 0, none⟩ (.int .i64 j.id)) ⟨b1, 1, none⟩ (.int .i64 j.ent)) ⟨b1, 2, none⟩ (.int .i64 j.per)) ⟨b1, 3, none⟩ (.string j.ref)) ⟨b1, 4, none⟩ (.slice A1 n c1)) ⟨b1, 5, none⟩ (.bool j.void)) = w1 at *
  have B2 : Box W.drew w1 b2 := B2'
  clear B2'
  obtain ⟨p0, p1, p2, p3, p4, p5⟩ := six_cells B2.1
  have pf := fun o => warm_of B2.1 o
  refine wpAny_ready (rs := [7]) (by kernel_rfl) (by simp) ?_
  refine AllReady.cons (o := et7) rfl (fun K hK => ?_) AllReady.nil
  unfold et7
  go_simp
  refine hK _ _ ?_
  clear hK K p0 p1 p2 p3 p4 p5 pf
  have J2 := jat_put j A2 n c2 B2.1
  have hb2 := below_six hb1 B2.2 (.int .i64 j.id) (.int .i64 j.ent) (.int .i64 j.per) (.string j.ref) (.slice A2 n c2) (.bool j.void)
  have R1 := rowA_six R1' B2.1 (.int .i64 j.id) (.int .i64 j.ent) (.int .i64 j.per) (.string j.ref) (.slice A2 n c2) (.bool j.void)
  have R2 := rowA_six R2' B2.1 (.int .i64 j.id) (.int .i64 j.ent) (.int .i64 j.per) (.string j.ref) (.slice A2 n c2) (.bool j.void)
  replace J1 := (six_other (w := w1) (b := b2) (by omega) (.int .i64 j.id) (.int .i64 j.ent) (.int .i64 j.per) (.string j.ref) (.slice A2 n c2) (.bool j.void)).trans J1
  have low2 := B2.2
  clear R1' R2' hb1 B2
  generalize (World.setCell (World.setCell (World.setCell (World.setCell (World.setCell (World.setCell w1 ⟨b2, 0, none⟩ (.int .i64 j.id)) ⟨b2, 1, none⟩ (.int .i64 j.ent)) ⟨b2, 2, none⟩ (.int .i64 j.per)) ⟨b2, 3, none⟩ (.string j.ref)) ⟨b2, 4, none⟩ (.slice A2 n c2)) ⟨b2, 5, none⟩ (.bool j.void)) = w2 at *
  refine wpAny_done (by kernel_rfl) ?_ _
  exact HQ.out _ _ _ _ b1 b2 A1 A2 c1 c2 w2 J1 J2 R1 R2 hdis n12 low1 low2 ((Below.refl _ W).drew.trans hb2)
end Go.Proofs.YtbdhhfaelnnocaaGreatDoor
