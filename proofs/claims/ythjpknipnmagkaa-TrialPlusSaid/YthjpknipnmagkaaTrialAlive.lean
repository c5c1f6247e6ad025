/-
  The first call of chapter 10's statements.
-/
import Derived.Test.YthjpknipnmagkaaTrialBals
import Derived.Test.YthjpknipnmagkaaTomeFit
namespace Go.Proofs.Ythjpknipnmagkaa
open Go.RowKit
open Mo

def j10 : Jrn := ⟨1, 1, 3, ⟨#[]⟩, [⟨100, 5, 0⟩, ⟨200, -5, 0⟩], false⟩
def r10 : List Bal := [⟨100, 5⟩, ⟨200, -5⟩]
theorem of10 : ofE [] [j10] = 0 ∧ ofM [] [j10] = [j10] := ⟨by kernel_rfl, by kernel_rfl⟩
theorem bal10 : balsOf (gathL (pkL ⟨1, 0, 5⟩) [j10]) = r10 := by kernel_rfl
theorem plus10 : plusB r10 = true := by kernel_rfl
theorem may10 : mayO ⟨1, 0, 5⟩ = true := by kernel_rfl
theorem plusOf10 : PlusOf r10 r10 := ⟨by unfold r10; simp, by unfold r10; simp, fun _ => rfl⟩
theorem sum10 : addV (amts r10) = 0 ∧ addE (amts r10) = 0 := ⟨by kernel_rfl, by kernel_rfl⟩
theorem rd_twoLn (w : World) (a b c d e f : Int) {T : TypeId} : Rd (w.alloc (.cells #[.int .i64 a, .int .i64 b, .int .i64 c, .int .i64 d, .int .i64 e, .int .i64 f] T)) (w.heap.size + 1) 3 (some ⟨w.heap.size, 0, none⟩) 2 (lins [⟨a, b, c⟩, ⟨d, e, f⟩]) :=
  ⟨rfl, fun _ => ⟨_, rfl, by simp, cells_new w [.int .i64 a, .int .i64 b, .int .i64 c, .int .i64 d, .int .i64 e, .int .i64 f] T⟩⟩
/-- A book that Of laid, as it lies. -/
theorem tome_of {X : Nat → Prop} {W w : World} {B c : Nat} {M : List Jrn} (h : TomeIn X W B c M w) : ∃ v l, TomeAt w B c v l ∧ l.map JR.j = M := by
  obtain ⟨v, l, h1, h2, _⟩ := h
  exact ⟨v, l, h1, h2⟩
set_option maxRecDepth 100000 in
set_option maxHeartbeats 2000000 in
theorem alive10_any (w : World) : Calls Try.prog 16 #[] w fun e w' => e = .returned (.bool true) ∧ Below w.heap.size w w' := by
  obtain ⟨W1, hW1⟩ : ∃ W1, w.alloc (.cells #[.int .i64 100, .int .i64 5, .int .i64 0, .int .i64 200, .int .i64 (-5), .int .i64 0] 40) = W1 := ⟨_, rfl⟩
  obtain ⟨W2, hW2⟩ : ∃ W2, W1.alloc (.cells #[.int .i64 1, .int .i64 1, .int .i64 3, .string ⟨#[]⟩, .slice (some ⟨w.heap.size, 0, none⟩) 2 2, .bool false] 38) = W2 := ⟨_, rfl⟩
  have z1 : W1.heap.size = w.heap.size + 1 := by rw [← hW1]; simp
  have z2 : W2.heap.size = w.heap.size + 2 := by rw [← hW2]; simp [z1]
  have b1 : Below w.heap.size w W1 := by rw [← hW1]; exact (Below.refl _ _).alloc (Nat.le_refl _) _
  have b2 : Below W1.heap.size W1 W2 := by rw [← hW2]; exact (Below.refl _ _).alloc (Nat.le_refl _) _
  have hR : Rd W2 W2.heap.size 3 (some ⟨w.heap.size, 0, none⟩) 2 (lins j10.lines) := by
    have := rd_twoLn w 100 5 0 200 (-5) 0 (T := 40)
    rw [hW1] at this
    exact (this.far b2 (by omega)).wide (by omega)
  have hJ : Rd W2 W2.heap.size 6 (some ⟨w.heap.size + 1, 0, none⟩) 1 (jrs [⟨j10, some ⟨w.heap.size, 0, none⟩, 2⟩]) := by
    refine ⟨rfl, fun _ => ⟨_, rfl, by show w.heap.size + 1 < _; omega, fun j u hu => ?_⟩⟩
    have := cells_new W1 (jrs [⟨j10, some ⟨w.heap.size, 0, none⟩, 2⟩]) 38 j u hu
    rw [z1] at this
    rw [← hW2]
    exact this
  have hJl : JlRd W2 W2.heap.size (some ⟨w.heap.size + 1, 0, none⟩) 1 [⟨j10, some ⟨w.heap.size, 0, none⟩, 2⟩] := by
    refine ⟨hJ, fun a ha => ?_, fun a ha e => ?_, fun a ha => ?_⟩
    · rw [List.mem_singleton] at ha; subst ha; exact hR
    · rw [List.mem_singleton] at ha; subst ha; cases e
    · rw [List.mem_singleton] at ha; subst ha; exact ⟨by show (0 : Nat) ≤ _; omega, by show (2 : Nat) ≤ _; unfold maxLen; omega⟩
  have ko := lawOf_any [⟨j10, some ⟨w.heap.size, 0, none⟩, 2⟩] (some ⟨w.heap.size + 1, 0, none⟩) 1 1 W2.heap.size W2 hJl (Nat.le_refl _) (by unfold maxLen; omega) of10.1
  rw [show ([⟨j10, some ⟨w.heap.size, 0, none⟩, 2⟩] : List JR).map JR.j = [j10] from rfl, of10.2] at ko
  have KO := Lib.hid ko
  have HB2 : Hid (Below w.heap.size w W2) := b1.trans (b2.mono b1.size)
  have HW1 := Lib.hid hW1; have HW2 := Lib.hid hW2
  clear hW1 hW2 hR hJ hJl ko b1 b2
  go_enter Try.func16, Try.ntmps16
  go_wp2_with fail
  rw [HW1.out, HW2.out]
  refine KO.out.mono ?_
  rintro e w3 ⟨rfl, hT⟩
  have HB3 : Hid (Below w.heap.size w w3) := HB2.out.trans ((hT.below W2 ((Below.refl _ _).alloc (Nat.le_refl _) _) fun k hk => ⟨by omega, by omega⟩).mono HB2.out.size)
  obtain ⟨v, l, hat, hl⟩ := tome_of hT
  have kb := balances_any ⟨1, 0, 5⟩ _ _ v l w3 hat (by have := congrArg List.length hl; simp at this; omega)
  rw [hl, z2] at kb
  have KB := Lib.hid kb
  have HL := Lib.hid hl
  clear hT hat kb KO hl
  unfold OfT.val at KB
  dsimp only at KB
  go_wp2_with fail
  refine KB.out.mono ?_
  rintro e w4 hbe
  have hbe2 : PlusEnd w3 r10 e w4 := by
    rcases hbe with ⟨h1, _⟩ | ⟨_, h⟩
    · rw [may10] at h1; cases h1
    · rw [bal10] at h; exact h
  obtain ⟨hb4, ⟨hbad, _⟩ | ⟨_, A, c, R, hR, rfl, hown⟩⟩ := hbe2
  · rw [plus10] at hbad; cases hbad
  have hRR : R = r10 := hR.unique plusOf10 fun _ => rfl
  subst hRR
  have HB4 := Lib.hid (HB3.out.trans (hb4.mono HB3.out.size))
  have hrd : Rd w4 w4.heap.size 2 A 2 (bals r10) := rd_of_own hown
  have ks := sumBals_any r10 A 2 c w4.heap.size w4 hrd (Nat.le_refl _) (by omega)
  rw [sum10.1, sum10.2] at ks
  have KS := Lib.hid ks
  obtain ⟨ad, hA, hbl, hcl⟩ := hrd.2 (by omega)
  subst hA
  have p0 : w4.cell? ad = some (.int .i64 100) := by
    have := hcl 0 _ rfl
    rwa [addr_zero] at this
  have p1 : w4.cell? ⟨ad.block, ad.off + 1, none⟩ = some (.int .i64 5) := by
    have := hcl 1 _ rfl
    rwa [add_pos _ (by omega)] at this
  have P0 := Lib.hid p0; have P1 := Lib.hid p1
  clear hbe hb4 hR hown hrd ks hcl KB p0 p1
  rw [show r10.length = 2 from rfl]
  go_wp2_with fail
  refine KS.out.mono ?_
  rintro e w5 ⟨rfl, hb5⟩
  have HB5 := Lib.hid (HB4.out.trans (hb5.mono HB4.out.size))
  have p0 := (hb5.cell (p := ad) hbl).trans P0.out
  have p1 := (hb5.cell (p := ⟨ad.block, ad.off + 1, none⟩) hbl).trans P1.out
  clear hb5 KS
  go_wp2_with fail
  go_ret
  exact ⟨rfl, HB5.out⟩
end Go.Proofs.Ythjpknipnmagkaa

