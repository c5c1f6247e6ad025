/-
  Several texts, one behind the other: what each holds stands ahead of it.
-/
import Derived.Test.YtpbdmohccebhhaaGreatMany10
import Derived.Test.YtpbdmohccebhhaaGreatMany17
import Derived.Test.YtpbdmohccebhhaaGreatMany4
import Derived.Lib.SmallJoins

/-
  The first call of chapter 6's statements.
-/
namespace Go.Proofs.YtpbdmohccebhhaaGreat
open Go.RowKit

def alJ (id : Int) (v : Bool) : Jrn := ⟨id, 1, 0, ⟨#[65]⟩, [⟨1, 5, 0⟩, ⟨2, -5, 0⟩], v⟩
theorem al1 : postE [] (alJ 1 false) = 0 ∧ postL [] (alJ 1 false) = [alJ 1 false] := ⟨by kernel_rfl, by kernel_rfl⟩
theorem al2 : postE [alJ 1 false] (alJ 2 false) = 8 ∧ postL [alJ 1 false] (alJ 2 false) = [alJ 1 false] := ⟨by kernel_rfl, by kernel_rfl⟩
theorem al3 : liveE [alJ 1 false] 1 = 0 ∧ voidL [alJ 1 false] 1 = [alJ 1 true] := ⟨by kernel_rfl, by kernel_rfl⟩
theorem al4 : postE [alJ 1 true] (alJ 2 false) = 0 ∧ postL [alJ 1 true] (alJ 2 false) = [alJ 1 true, alJ 2 false] := ⟨by kernel_rfl, by kernel_rfl⟩
theorem al5 : refJ [alJ 1 true, alJ 2 false] ⟨#[65]⟩ = 2 := by kernel_rfl
set_option maxRecDepth 100000 in
set_option maxHeartbeats 2000000 in
theorem alive_any (w : World) : Calls Tryz.prog 9 #[] w fun e w' => e = .returned (.bool true) ∧ Below w.heap.size w w' := by
  obtain ⟨W0, hW0⟩ : ∃ W0, w.alloc (.cells #[.slice none 0 0] 27) = W0 := ⟨_, rfl⟩
  obtain ⟨W1, hW1⟩ : ∃ W1, W0.alloc (.cells #[.int .i64 1, .int .i64 5, .int .i64 0, .int .i64 2, .int .i64 (-5), .int .i64 0] 100) = W1 := ⟨_, rfl⟩
  obtain ⟨W2, hW2⟩ : ∃ W2, W1.alloc (.cells #[.int .i64 1, .int .i64 1, .int .i64 0, .string ⟨#[65]⟩, .slice (some ⟨w.heap.size + 1, 0, none⟩) 2 2, .bool false] 43) = W2 := ⟨_, rfl⟩
  obtain ⟨W, hW⟩ : ∃ W, W2.alloc (.cells #[.int .i64 2, .int .i64 1, .int .i64 0, .string ⟨#[65]⟩, .slice (some ⟨w.heap.size + 1, 0, none⟩) 2 2, .bool false] 43) = W := ⟨_, rfl⟩
  have z0 : W0.heap.size = w.heap.size + 1 := by rw [← hW0]; simp
  have z1 : W1.heap.size = w.heap.size + 2 := by rw [← hW1]; simp [z0]
  have z2 : W2.heap.size = w.heap.size + 3 := by rw [← hW2]; simp [z1]
  have z3 : W.heap.size = w.heap.size + 4 := by rw [← hW]; simp [z2]
  have b0 : Below w.heap.size w W0 := by rw [← hW0]; exact (Below.refl _ _).alloc (Nat.le_refl _) _
  have b1 : Below W0.heap.size W0 W1 := by rw [← hW1]; exact (Below.refl _ _).alloc (Nat.le_refl _) _
  have b2 : Below W1.heap.size W1 W2 := by rw [← hW2]; exact (Below.refl _ _).alloc (Nat.le_refl _) _
  have b3 : Below W2.heap.size W2 W := by rw [← hW]; exact (Below.refl _ _).alloc (Nat.le_refl _) _
  have b13 : Below W1.heap.size W1 W := b2.trans (b3.mono b2.size)
  have b03 : Below W0.heap.size W0 W := b1.trans (b13.mono b1.size)
  have HBW : Hid (Below w.heap.size w W) := b0.trans (b03.mono b0.size)
  obtain ⟨X, hX⟩ : ∃ X : Nat → Prop, X = fun k => k < W.heap.size ∧ k ≠ w.heap.size := ⟨_, rfl⟩
  have hXi : ∀ k, k < W.heap.size → k ≠ w.heap.size → X k := fun k h1 h2 => by rw [hX]; exact ⟨h1, h2⟩
  have ht : TomeIn X W w.heap.size w.heap.size [] W := by rw [hX]; exact TomeIn.start (by have := tome_new w; rw [hW0] at this; exact this.below b03) rfl
  have hR : Rd W W1.heap.size 3 (some ⟨w.heap.size + 1, 0, none⟩) 2 (lins [⟨1, 5, 0⟩, ⟨2, -5, 0⟩]) := by
    have := rd_twoL W0 1 5 0 2 (-5) 0 (T := 100)
    rw [hW1, z0] at this
    exact (this.below (b13.mono (by omega))).wide (by omega)
  have k2 : W.heap[w.heap.size + 1 + 1]? = some (.cells #[.int .i64 1, .int .i64 1, .int .i64 0, .string ⟨#[65]⟩, .slice (some ⟨w.heap.size + 1, 0, none⟩) 2 2, .bool false] 43 (0, 0)) := by
    refine (b3.block _ (by omega)).trans ?_
    have := heap_new W1 (.cells #[.int .i64 1, .int .i64 1, .int .i64 0, .string ⟨#[65]⟩, .slice (some ⟨w.heap.size + 1, 0, none⟩) 2 2, .bool false] 43)
    rw [hW2, z1] at this
    exact this
  have k3 : W.heap[w.heap.size + 1 + 1 + 1]? = some (.cells #[.int .i64 2, .int .i64 1, .int .i64 0, .string ⟨#[65]⟩, .slice (some ⟨w.heap.size + 1, 0, none⟩) 2 2, .bool false] 43 (0, 0)) := by
    have := heap_new W2 (.cells #[.int .i64 2, .int .i64 1, .int .i64 0, .string ⟨#[65]⟩, .slice (some ⟨w.heap.size + 1, 0, none⟩) 2 2, .bool false] 43)
    rw [hW, z2] at this
    exact this
  have kp : Hid (∀ M i w1, TomeIn X W w.heap.size w.heap.size M w1 → Calls Tryz.prog 12 #[.pointer (some ⟨w.heap.size, 0, none⟩), .agg #[.int .i64 i, .int .i64 1, .int .i64 0, .string ⟨#[65]⟩, .slice (some ⟨w.heap.size + 1, 0, none⟩) 2 2, .bool false]] w1 fun e w' => e = .returned (.int .i64 (postE M (alJ i false))) ∧ TomeIn X W w.heap.size w.heap.size (postL M (alJ i false)) w') := fun M i w1 h =>
    post_in (alJ i false) (some ⟨w.heap.size + 1, 0, none⟩) 2 W1.heap.size h (h.rd hR (by omega) fun ad e => by injection e with e; subst e; exact hXi _ (by show w.heap.size + 1 < _; omega) (by show w.heap.size + 1 ≠ w.heap.size; omega)) (by have := h.but.size; omega) (fun e => by cases e) (by show (2 : Nat) ≤ _; unfold maxLen; omega) (by show (1 : Nat) ≤ _; unfold maxLen; omega)
  have HX3 : Hid (X (w.heap.size + 1 + 1 + 1)) := hXi _ (by omega) (by omega)
  have HXL : Hid (∀ k, k < w.heap.size → X k) := fun k hk => hXi k (by omega) (by omega)
  have K3 := Lib.hid k3
  have H0 := Lib.hid ht
  have HW : Hid ((((w.alloc (.cells #[.slice none 0 0] 27)).alloc (.cells #[.int .i64 1, .int .i64 5, .int .i64 0, .int .i64 2, .int .i64 (-5), .int .i64 0] 100)).alloc (.cells #[.int .i64 1, .int .i64 1, .int .i64 0, .string ⟨#[65]⟩, .slice (some ⟨w.heap.size + 1, 0, none⟩) 2 2, .bool false] 43)).alloc (.cells #[.int .i64 2, .int .i64 1, .int .i64 0, .string ⟨#[65]⟩, .slice (some ⟨w.heap.size + 1, 0, none⟩) 2 2, .bool false] 43) = W) := by
    unfold Hid
    rw [hW0, hW1, hW2, hW]
  clear hX hXi hW0 hW1 hW2 hW z0 z1 z2 z3 b0 b1 b2 b3 b13 b03 ht hR k2 k3
  go_enter Tryz.func9, Tryz.ntmps9
  go_wp2_with fail
  rw [HW.out]
  refine (kp.out _ 1 _ H0.out).mono ?_
  rintro e w1 ⟨rfl, h1⟩
  rw [al1.2] at h1
  rw [al1.1]
  have H1 := Lib.hid h1
  obtain ⟨x0, x1, x2, x3, x4, x5⟩ := six_cells (h1.heap K3.out HX3.out)
  clear h1
  go_wp2_with fail
  refine (kp.out _ 2 _ H1.out).mono ?_
  rintro e w2 ⟨rfl, h2⟩
  rw [al2.2] at h2
  rw [al2.1]
  have H2 := Lib.hid h2
  clear h2 x0 x1 x2 x3 x4 x5
  go_wp2_with fail
  refine (void_in 1 H2.out).mono ?_
  rintro e w3 ⟨rfl, h3⟩
  rw [al3.2] at h3
  rw [al3.1]
  have H3 := Lib.hid h3
  obtain ⟨x0, x1, x2, x3, x4, x5⟩ := six_cells (h3.heap K3.out HX3.out)
  clear h3
  go_wp2_with fail
  refine (kp.out _ 2 _ H3.out).mono ?_
  rintro e w4 ⟨rfl, h4⟩
  rw [al4.2] at h4
  rw [al4.1]
  have H4 := Lib.hid h4
  clear h4 x0 x1 x2 x3 x4 x5
  go_wp2_with fail
  refine (len_in H4.out).mono ?_
  rintro e w5 ⟨rfl, rfl⟩
  go_wp2_with fail
  refine (get_in 2 (alJ 2 false) H4.out (by kernel_rfl)).mono ?_
  rintro e w5 ⟨A', c', rfl, hown, hb5⟩
  have HB5 := Lib.hid hb5
  have H5 : Hid (∀ o, TomeIn X W w.heap.size w.heap.size [alJ 1 true, alJ 2 false] (w5.alloc o)) := fun o => (H4.out.quiet hb5).quiet ((Below.refl _ _).alloc (Nat.le_refl _) o)
  clear hown hb5
  go_wp2_with fail
  refine (ref_in ⟨#[65]⟩ (H5.out _)).mono ?_
  rintro e w6 ⟨rfl, hb6⟩
  rw [al5]
  have H6 := Lib.hid ((H5.out _).quiet hb6)
  clear hb6
  go_wp2_with fail
  go_ret
  exact ⟨rfl, H6.out.below w HBW.out HXL.out⟩
end Go.Proofs.YtpbdmohccebhhaaGreat

/-
  A journal that came in.
-/
namespace Go.Proofs.YtpbdmohccebhhaaGreat
open Go.RowKit

instance : Inhabited Lin := ⟨⟨0, 0, 0⟩⟩
set_option maxRecDepth 100000 in
theorem argLins {H : Type} {enc : TypeId × Value → H} {w : World} {base : Nat} {spare : Nat → Bool} {held : Bool} {fuel : Nat} {A : Option Addr} {n c : Nat} {x : DataW H × List MemPlace}
    (h : DataW.trod enc Tryz.prog w base spare held fuel 41 (Value.cells (.slice A n c)).toList = some x) : ∃ l : List Lin, ArgRd Lin.cells 3 Lin.ok64 w A n c l :=
  argRd_of_trod _ 3 Lin.ok64 Tryz.underlying41 (by kernel_rfl) (by omega) (fun _ => rfl) (fun m cs y hy => by
    obtain ⟨xs, q, _, _, hl, hx, hf⟩ := DataW.trod_struct Tryz.underlying100 hy
    have hl : cs.length = 3 := hl.trans (by kernel_rfl)
    have hx : xs.length = 3 := hx
    match cs, hl with
    | [c0, c1, c2], _ =>
      obtain ⟨y0, h0⟩ := part_at (k := 1) (by kernel_rfl) (hf 0 _ rfl) (by omega)
      obtain ⟨y1, h1⟩ := part_at (k := 1) (by kernel_rfl) (hf 1 _ rfl) (by omega)
      obtain ⟨y2, h2⟩ := part_at (k := 1) (by kernel_rfl) (hf 2 _ rfl) (by omega)
      obtain ⟨n0, e0, _, w0⟩ := DataW.trod_int Tryz.underlying3 h0
      obtain ⟨n1, e1, _, w1⟩ := DataW.trod_int Tryz.underlying3 h1
      obtain ⟨n2, e2, _, w2⟩ := DataW.trod_int Tryz.underlying3 h2
      simp at e0 e1 e2
      subst e0 e1 e2
      exact ⟨⟨n0, n1, n2⟩, rfl, bounds_i64 w0, bounds_i64 w1, bounds_i64 w2⟩) h
theorem agg_of_six {v : Value} (h : v.cells.toList.length = 6) : ∃ cs, v = .agg cs ∧ v.cells = cs := by
  cases v <;> first | exact ⟨_, rfl, rfl⟩ | (simp [Value.cells] at h)
set_option maxRecDepth 100000 in
theorem argJrn {H : Type} {enc : TypeId × Value → H} {w : World} {base : Nat} {spare : Nat → Bool} {held : Bool} {fuel : Nat} {v : Value} {x : DataW H × List MemPlace}
    (h : DataW.trod enc Tryz.prog w base spare held fuel 43 v.cells.toList = some x) : ∃ (j : Jrn) (A : Option Addr) (n c : Nat), v = j.val A n c ∧ ArgRd Lin.cells 3 Lin.ok64 w A n c j.lines ∧ j.ok64 ∧ j.ref.size ≤ maxLen := by
  obtain ⟨xs, q, _, _, hl, hx, hf⟩ := DataW.trod_struct Tryz.underlying43 h
  have hl : v.cells.toList.length = 6 := hl.trans (by kernel_rfl)
  have hx : xs.length = 6 := hx
  obtain ⟨cs, rfl, hcs⟩ := agg_of_six hl
  rw [hcs] at hl hf
  obtain ⟨l⟩ := cs
  match l, hl with
  | [c0, c1, c2, c3, c4, c5], _ =>
    obtain ⟨y0, h0⟩ := part_at (k := 1) (by kernel_rfl) (hf 0 _ rfl) (by omega)
    obtain ⟨y1, h1⟩ := part_at (k := 1) (by kernel_rfl) (hf 1 _ rfl) (by omega)
    obtain ⟨y2, h2⟩ := part_at (k := 1) (by kernel_rfl) (hf 2 _ rfl) (by omega)
    obtain ⟨y3, h3⟩ := part_at (k := 1) (by kernel_rfl) (hf 3 _ rfl) (by omega)
    obtain ⟨y4, h4⟩ := part_at (k := 1) (by kernel_rfl) (hf 4 _ rfl) (by omega)
    obtain ⟨y5, h5⟩ := part_at (k := 1) (by kernel_rfl) (hf 5 _ rfl) (by omega)
    obtain ⟨n0, e0, _, w0⟩ := DataW.trod_int Tryz.underlying3 h0
    obtain ⟨n1, e1, _, w1⟩ := DataW.trod_int Tryz.underlying3 h1
    obtain ⟨n2, e2, _, w2⟩ := DataW.trod_int Tryz.underlying3 h2
    obtain ⟨s3, e3, _, w3⟩ := DataW.trod_string Tryz.underlying9 h3
    obtain ⟨A, n, c, e4⟩ := Joins.slice_form Tryz.underlying41 h4
    obtain ⟨b5, e5, _⟩ := DataW.trod_bool Tryz.underlying4 h5
    simp at e0 e1 e2 e3 e4 e5
    subst e0 e1 e2 e3 e4 e5
    obtain ⟨L, hL⟩ := argLins (A := A) (n := n) (c := c) (fuel := q) (x := y4) h4
    exact ⟨⟨n0, n1, n2, s3, L, b5⟩, A, n, c, rfl, hL, ⟨bounds_i64 w0, bounds_i64 w1, bounds_i64 w2, hL.wf⟩, w3⟩
end Go.Proofs.YtpbdmohccebhhaaGreat
