/-
  Several texts, one behind the other: what each holds stands ahead of it.
-/
import Derived.Test.YthjpknipnmagkaaGreatTrialBals
import Derived.Test.YthjpknipnmagkaaGreatMany23
import Derived.Test.YthjpknipnmagkaaGreatChartPut
import Derived.Test.YthjpknipnmagkaaGreatChartMath
import Derived.Test.YthjpknipnmagkaaGreatMany6

/-
  The first call of chapter 10's statements.
-/
namespace Go.Proofs.YthjpknipnmagkaaGreat
open Go.RowKit
open Mo

def j10 : Jrn := ⟨1, 1, 3, ⟨#[]⟩, [⟨100, 5, 0⟩, ⟨200, -5, 0⟩], false⟩
def r10 : List Bal := [⟨100, 5⟩, ⟨200, -5⟩]
theorem of10 : ofE [] [j10] = 0 ∧ ofM [] [j10] = [j10] := ⟨by kernel_rfl, by kernel_rfl⟩
theorem bal10 : balsOf (gathL (pkL ⟨1, 0, 5⟩) [j10]) = r10 := by kernel_rfl
theorem plus10 : plusB r10 = true := by kernel_rfl
theorem may10 : mayO ⟨1, 0, 5⟩ = true := by kernel_rfl
theorem plusOf10 : PlusOf r10 r10 := ⟨by unfold r10; simp, by unfold r10; simp, fun _ => rfl⟩
theorem sum10 : Mo.addV (amts r10) = 0 ∧ Mo.addE (amts r10) = 0 := ⟨by kernel_rfl, by kernel_rfl⟩
theorem rd_twoLn (w : World) (a b c d e f : Int) {T : TypeId} : Rd (w.alloc (.cells #[.int .i64 a, .int .i64 b, .int .i64 c, .int .i64 d, .int .i64 e, .int .i64 f] T)) (w.heap.size + 1) 3 (some ⟨w.heap.size, 0, none⟩) 2 (lins [⟨a, b, c⟩, ⟨d, e, f⟩]) :=
  ⟨rfl, fun _ => ⟨_, rfl, by simp, cells_new w [.int .i64 a, .int .i64 b, .int .i64 c, .int .i64 d, .int .i64 e, .int .i64 f] T⟩⟩
/-- A book that Of laid, as it lies. -/
theorem tome_of {X : Nat → Prop} {W w : World} {B c : Nat} {M : List Jrn} (h : TomeIn X W B c M w) : ∃ v l, TomeAt w B c v l ∧ l.map JR.j = M := by
  obtain ⟨v, l, h1, h2, _⟩ := h
  exact ⟨v, l, h1, h2⟩
set_option maxRecDepth 100000 in
set_option maxHeartbeats 2000000 in
theorem alive10_any (w : World) : Calls Tryz.prog 30 #[] w fun e w' => e = .returned (.bool true) ∧ Below w.heap.size w w' := by
  obtain ⟨W1, hW1⟩ : ∃ W1, w.alloc (.cells #[.int .i64 100, .int .i64 5, .int .i64 0, .int .i64 200, .int .i64 (-5), .int .i64 0] 106) = W1 := ⟨_, rfl⟩
  obtain ⟨W2, hW2⟩ : ∃ W2, W1.alloc (.cells #[.int .i64 1, .int .i64 1, .int .i64 3, .string ⟨#[]⟩, .slice (some ⟨w.heap.size, 0, none⟩) 2 2, .bool false] 104) = W2 := ⟨_, rfl⟩
  have z1 : W1.heap.size = w.heap.size + 1 := by rw [← hW1]; simp
  have z2 : W2.heap.size = w.heap.size + 2 := by rw [← hW2]; simp [z1]
  have b1 : Below w.heap.size w W1 := by rw [← hW1]; exact (Below.refl _ _).alloc (Nat.le_refl _) _
  have b2 : Below W1.heap.size W1 W2 := by rw [← hW2]; exact (Below.refl _ _).alloc (Nat.le_refl _) _
  have hR : Rd W2 W2.heap.size 3 (some ⟨w.heap.size, 0, none⟩) 2 (lins j10.lines) := by
    have := rd_twoLn w 100 5 0 200 (-5) 0 (T := 106)
    rw [hW1] at this
    exact (this.far b2 (by omega)).wide (by omega)
  have hJ : Rd W2 W2.heap.size 6 (some ⟨w.heap.size + 1, 0, none⟩) 1 (jrs [⟨j10, some ⟨w.heap.size, 0, none⟩, 2⟩]) := by
    refine ⟨rfl, fun _ => ⟨_, rfl, by show w.heap.size + 1 < _; omega, fun j u hu => ?_⟩⟩
    have := cells_new W1 (jrs [⟨j10, some ⟨w.heap.size, 0, none⟩, 2⟩]) 104 j u hu
    rw [z1] at this
    rw [← hW2]
    exact this
  have hJl : JlRd W2 W2.heap.size (some ⟨w.heap.size + 1, 0, none⟩) 1 [⟨j10, some ⟨w.heap.size, 0, none⟩, 2⟩] := by
    refine ⟨hJ, fun a ha => ?_, fun a ha e => ?_, fun a ha => ?_⟩
    · rw [List.mem_singleton] at ha; subst ha; exact hR
    · rw [List.mem_singleton] at ha; subst ha; cases e
    · rw [List.mem_singleton] at ha; subst ha; exact ⟨by show (0 : Nat) ≤ _; omega, by show (2 : Nat) ≤ _; unfold maxLen; omega⟩
  have ko := lawOf_any [⟨j10, some ⟨w.heap.size, 0, none⟩, 2⟩] (some ⟨w.heap.size + 1, 0, none⟩) 1 1 W2.heap.size W2 hJl (Nat.le_refl _) (by unfold maxLen; omega) of10.1
  rw [show ([⟨j10, some ⟨w.heap.size, 0, none⟩, 2⟩] : List JR).map JR.j = [j10] from rfl, of10.2] at ko
  have KO := Lib.hid ko
  have HB2 : Hid (Below w.heap.size w W2) := b1.trans (b2.mono b1.size)
  have HW1 := Lib.hid hW1; have HW2 := Lib.hid hW2
  clear hW1 hW2 hR hJ hJl ko b1 b2
  go_enter Tryz.func30, Tryz.ntmps30
  go_wp2_with fail
  rw [HW1.out, HW2.out]
  refine KO.out.mono ?_
  rintro e w3 ⟨rfl, hT⟩
  have HB3 : Hid (Below w.heap.size w w3) := HB2.out.trans ((hT.below W2 ((Below.refl _ _).alloc (Nat.le_refl _) _) fun k hk => ⟨by omega, by omega⟩).mono HB2.out.size)
  obtain ⟨v, l, hat, hl⟩ := tome_of hT
  have kb := balances_any ⟨1, 0, 5⟩ _ _ v l w3 hat (by have := congrArg List.length hl; simp at this; omega)
  rw [hl, z2] at kb
  have KB := Lib.hid kb
  have HL := Lib.hid hl
  clear hT hat kb KO hl
  unfold OfT.val at KB
  dsimp only at KB
  go_wp2_with fail
  refine KB.out.mono ?_
  rintro e w4 hbe
  have hbe2 : PlusEnd w3 r10 e w4 := by
    rcases hbe with ⟨h1, _⟩ | ⟨_, h⟩
    · rw [may10] at h1; cases h1
    · rw [bal10] at h; exact h
  obtain ⟨hb4, ⟨hbad, _⟩ | ⟨_, A, c, R, hR, rfl, hown⟩⟩ := hbe2
  · rw [plus10] at hbad; cases hbad
  have hRR : R = r10 := hR.unique plusOf10 fun _ => rfl
  subst hRR
  have HB4 := Lib.hid (HB3.out.trans (hb4.mono HB3.out.size))
  have hrd : Rd w4 w4.heap.size 2 A 2 (bals r10) := rd_of_own hown
  have ks := sumBals_any r10 A 2 c w4.heap.size w4 hrd (Nat.le_refl _) (by omega)
  rw [sum10.1, sum10.2] at ks
  have KS := Lib.hid ks
  obtain ⟨ad, hA, hbl, hcl⟩ := hrd.2 (by omega)
  subst hA
  have p0 : w4.cell? ad = some (.int .i64 100) := by
    have := hcl 0 _ rfl
    rwa [addr_zero] at this
  have p1 : w4.cell? ⟨ad.block, ad.off + 1, none⟩ = some (.int .i64 5) := by
    have := hcl 1 _ rfl
    rwa [add_pos _ (by omega)] at this
  have P0 := Lib.hid p0; have P1 := Lib.hid p1
  clear hbe hb4 hR hown hrd ks hcl KB p0 p1
  rw [show r10.length = 2 from rfl]
  go_wp2_with fail
  refine KS.out.mono ?_
  rintro e w5 ⟨rfl, hb5⟩
  have HB5 := Lib.hid (HB4.out.trans (hb5.mono HB4.out.size))
  have p0 := (hb5.cell (p := ad) hbl).trans P0.out
  have p1 := (hb5.cell (p := ⟨ad.block, ad.off + 1, none⟩) hbl).trans P1.out
  clear hb5 KS
  go_wp2_with fail
  go_ret
  exact ⟨rfl, HB5.out⟩
end Go.Proofs.YthjpknipnmagkaaGreat

/-
  Contract of chart.New.
-/
namespace Go.Proofs.YthjpknipnmagkaaGreat
open Go.RowKit

/-- Accounts added one behind the other, till one has an error. -/
def newR (l : List Acc) : List Acc → List Acc × Int
  | [] => (l, 0)
  | a :: r => if addE l a = 0 then newR (insA l a) r else (l, addE l a)
def newE (xs0 : List Acc) : Int := (newR [] xs0).2
def newL (xs0 : List Acc) : List Acc := (newR [] xs0).1
theorem newR_append : ∀ (xs l ys : List Acc), newR l (xs ++ ys) = if (newR l xs).2 = 0 then newR (newR l xs).1 ys else newR l xs
  | [], l, ys => by simp [newR]
  | a :: xs, l, ys => by
    rw [List.cons_append, newR, newR]
    by_cases h : addE l a = 0
    · rw [if_pos h, if_pos h, newR_append xs]
    · rw [if_neg h, if_neg h, if_neg h]
theorem newR_good : ∀ (xs l : List Acc), GoodA l → GoodA (newR l xs).1
  | [], l, h => h
  | a :: xs, l, h => by
    rw [newR]
    by_cases h0 : addE l a = 0
    · rw [if_pos h0]
      obtain ⟨h1, h2⟩ := addE_ok h0
      exact newR_good xs _ (h.ins h1 h2)
    · rw [if_neg h0]; exact h
theorem newL_good (xs0 : List Acc) : GoodA (newL xs0) := newR_good xs0 [] GoodA.nil
theorem new_step {xs0 : List Acc} {j : Nat} {a : Acc} (ha : xs0[j]? = some a) (h0' : newE (xs0.take j) = 0) :
    (addE (newL (xs0.take j)) a = 0 → newE (xs0.take (j + 1)) = 0 ∧ newL (xs0.take (j + 1)) = addL (newL (xs0.take j)) a) ∧ (addE (newL (xs0.take j)) a ≠ 0 → newE xs0 = addE (newL (xs0.take j)) a) := by
  obtain ⟨hl, rfl⟩ := List.getElem?_eq_some_iff.1 ha
  have h0 : (newR [] (xs0.take j)).2 = 0 := h0'
  have h1 : newR [] (xs0.take (j + 1)) = newR (newL (xs0.take j)) [xs0[j]] := by
    rw [List.take_succ_eq_append_getElem hl, newR_append, if_pos h0]; rfl
  constructor
  · intro h
    unfold newE
    rw [show newL (xs0.take (j + 1)) = (newR [] (xs0.take (j + 1))).1 from rfl, h1]
    simp [newR, h, addL]
  · intro h
    have h2 : newR [] xs0 = newR (newL (xs0.take j)) (xs0[j] :: xs0.drop (j + 1)) := by
      conv => lhs; rw [← List.take_append_drop j xs0, newR_append, if_pos h0, List.drop_eq_getElem_cons hl]
      rfl
    unfold newE
    rw [h2, newR, if_neg h]

/-- What New answers. -/
def NewPost (w : World) (xs0 : List Acc) (e : Ending) (w' : World) : Prop :=
  Below w.heap.size w w' ∧ ((newE xs0 ≠ 0 ∧ e = .returned (.tuple #[.pointer none, .int .i64 (newE xs0)])) ∨
    (newE xs0 = 0 ∧ e = .returned (.tuple #[.pointer (some ⟨w.heap.size, 0, none⟩), .int .i64 0]) ∧ ∃ v, ChartAt w' w.heap.size w.heap.size v (newL xs0)))

/-- What stands at the loop's head. -/
def NewRel (w : World) (xs0 : List Acc) (j : Nat) (wr : World) : Prop :=
  newE (xs0.take j) = 0 ∧ Below w.heap.size w wr ∧ ∃ v, ChartAt wr w.heap.size w.heap.size v (newL (xs0.take j))

set_option maxRecDepth 100000 in
set_option maxHeartbeats 1000000 in
theorem new_any (xs0 : List Acc) (A : Option Addr) (n c B : Nat) (w : World) (h : Rd w B 3 A n (accs xs0)) (hB : B ≤ w.heap.size) (hn : n ≤ 1000000) :
    Calls Tryz.prog 163 #[.slice A n c] w (NewPost w xs0) := by
  have HL := Lib.hid h.accs_len
  have HR := Lib.hid h
  have HC0 : Hid (ChartAt (w.alloc (.cells #[.slice none 0 0] 237)) w.heap.size w.heap.size (.slice none 0 0) []) := ⟨heap_new _ _, Nat.le_refl _, World.ownsRow_nil _ _ _ _, GoodA.nil⟩
  clear h
  go_enter Tryz.func163, Tryz.ntmps163
  go_wp2_with fail
  go_loopw [11] (fun iv wr => ∃ j : Nat, j ≤ n ∧ iv = .int .i64 j ∧ NewRel w xs0 j wr) (fun iv _ => n - (intOf iv).toNat)
  case atStart => exact ⟨0, Nat.zero_le _, rfl, rfl, (Below.refl _ _).alloc (Nat.le_refl _) _, _, HC0.out⟩
  case round =>
    obtain ⟨j, hj, rfl, h0, hbel, v, hch⟩ := hrel
    have hzr := hbel.size
    have hclt := hch.lt
    have HCH := Lib.hid hch
    have H0 := Lib.hid h0
    have HBEL := Lib.hid hbel
    have HRr := Lib.hid (HR.out.below (hbel.mono hB))
    clear hch h0 hbel HC0
    by_cases hlt : j < n
    · obtain ⟨ad, a, rfl, hb1, hx, p1, p2, p3⟩ := HRr.out.acc hlt
      have p2' := cell_behind p2 (by omega)
      have p3' := cell_behind p3 (by omega)
      have HST := Lib.hid (new_step hx H0.out)
      have hjn : (j : Int) < (n : Int) := by omega
      obtain ⟨x1, x2, x3⟩ := a
      have kp := fun (w2 : World) (hb : Below wr.heap.size wr w2) => put_any w.heap.size w.heap.size v _ ⟨x1, x2, x3⟩ w2 (HCH.out.below hb)
      have KP := Lib.hid kp
      clear kp p2 p3 hx
      generalize hE : addE (newL (xs0.take j)) ⟨x1, x2, x3⟩ = E at *
      clear hE
      go_wp2_with fail
      refine (KP.out _ (by first | exact ((Below.refl _ _).alloc (Nat.le_refl _) _) | exact ((((Below.refl _ _).alloc (Nat.le_refl _) _).setCell (by simp) _).setCell (by simp) _).setCell (by simp) _)).mono ?_
      rintro e w2 ⟨rfl, v2, hch2, hbut, _⟩
      have HB2 : Hid (Below w.heap.size w w2) := (HBEL.out.trans (Below.mono (B := wr.heap.size) (by first | exact ((Below.refl _ _).alloc (Nat.le_refl _) _) | exact ((((Below.refl _ _).alloc (Nat.le_refl _) _).setCell (by simp) _).setCell (by simp) _).setCell (by simp) _) hzr)).trans (hbut.below (fun k _ hk => HCH.out.ge k hk) (by simp; omega))
      have HCH2 := Lib.hid hch2
      clear hch2 hbut
      by_cases h0 : E = 0
      · subst h0
        have HST2 := Lib.hid (HST.out.1 (by first | rfl | trivial))
        go_wp2
        exact ⟨⟨j + 1, by omega, by go_num, HST2.out.1, HB2.out, v2, by rw [HST2.out.2]; exact HCH2.out⟩, by simp [intOf]; omega⟩
      · have HST2 := Lib.hid (HST.out.2 h0)
        have h0' : (E == 0) = false := by simp [h0]
        have h0'' : (E != 0) = true := by simp [h0]
        go_wp2
        go_ret2
        exact ⟨HB2.out, .inl ⟨by rw [HST2.out]; exact h0, by rw [HST2.out]; rfl⟩⟩
    · obtain rfl : j = n := by omega
      have HE : Hid (newE xs0 = 0 ∧ newL xs0 = newL (xs0.take j)) := by
        have h1 : xs0.take j = xs0 := List.take_of_length_le (by have := HL.out; omega)
        have := H0.out
        rw [h1] at this ⊢
        exact ⟨this, rfl⟩
      go_wp2
      go_ret2
      exact ⟨HBEL.out, .inr ⟨HE.out.1, rfl, v, by rw [HE.out.2]; exact HCH.out⟩⟩
end Go.Proofs.YthjpknipnmagkaaGreat

/-
  Contract of the reference's Row.
-/
namespace Go.Proofs.YthjpknipnmagkaaGreat
open Go.RowKit

set_option maxRecDepth 100000 in
theorem refRow_any (x k : Int) (w : World) : Calls Tryz.prog 160 #[.int .i64 x, .int .i64 k] w fun e w' => e = .returned (.bool (okRow x k)) ∧ w = w' := by
  by_cases h1 : 1 ≤ x
  · by_cases h2 : x ≤ 9999
    · by_cases h3 : 1 ≤ k
      · by_cases h4 : k ≤ 5
        · have HO : Hid (okRow x k = true) := by simp [okRow, Hid, h1, h2, h3, h4]
          go_enter Tryz.func160, Tryz.ntmps160
          go_wp2
          go_ret
          exact ⟨ret_bool (by rw [HO.out]; try simp [h4]), rfl⟩
        · have HO : Hid (okRow x k = false) := by simp [okRow, Hid]; omega
          go_enter Tryz.func160, Tryz.ntmps160
          go_wp2
          go_ret
          exact ⟨ret_bool (by rw [HO.out]; try simp [h4]), rfl⟩
      · have HO : Hid (okRow x k = false) := by simp [okRow, Hid]; omega
        go_enter Tryz.func160, Tryz.ntmps160
        go_wp2
        go_ret
        exact ⟨ret_bool HO.out.symm, rfl⟩
    · have HO : Hid (okRow x k = false) := by simp [okRow, Hid]; omega
      go_enter Tryz.func160, Tryz.ntmps160
      go_wp2
      go_ret
      exact ⟨ret_bool HO.out.symm, rfl⟩
  · have HO : Hid (okRow x k = false) := by simp [okRow, Hid]; omega
    go_enter Tryz.func160, Tryz.ntmps160
    go_wp2
    go_ret
    exact ⟨ret_bool HO.out.symm, rfl⟩
end Go.Proofs.YthjpknipnmagkaaGreat

/-
  Contracts of the reference's Account, Live, AddAccount.
-/
namespace Go.Proofs.YthjpknipnmagkaaGreat
open Go.RowKit

theorem find_stepCh {l : List Acc} {j : Nat} {a : Acc} {x : Int} (ha : l[j]? = some a) (h0 : findA (l.take j) x = none) :
    (a.code = x → findA l x = some a) ∧ (a.code ≠ x → findA (l.take (j + 1)) x = none) := by
  obtain ⟨hl, rfl⟩ := List.getElem?_eq_some_iff.1 ha
  constructor
  · intro h
    unfold findA at *
    conv => lhs; rw [← List.take_append_drop j l, List.find?_append, h0, List.drop_eq_getElem_cons hl, List.find?_cons]
    simp [h]
  · intro h
    unfold findA at *
    rw [List.take_succ_eq_append_getElem hl, List.find?_append, h0]
    simp [h]

set_option maxRecDepth 100000 in
set_option maxHeartbeats 1000000 in
theorem refAccount_any (l : List Acc) (x : Int) (A : Option Addr) (n c B : Nat) (w : World) (h : Rd w B 3 A n (accs l)) (hB : B ≤ w.heap.size) (hn : n ≤ 1000000) :
    Calls Tryz.prog 122 #[.slice A n c, .int .i64 x] w fun e w' => e = .returned (getV l x) ∧ Below w.heap.size w w' := by
  have HL := Lib.hid h.accs_len
  have HR := Lib.hid (h.below (Below.mono (B := w.heap.size) ((Below.refl _ w).alloc (Nat.le_refl _) (.cells #[.int .i64 0, .int .i64 0, .bool false] 158)) hB))
  clear h
  go_enter Tryz.func122, Tryz.ntmps122
  go_wp2_with fail
  go_loopw [6] (fun iv wr => ∃ j : Nat, j ≤ n ∧ iv = .int .i64 j ∧ Hid (findA (l.take j) x = none) ∧ wr = w.alloc (.cells #[.int .i64 0, .int .i64 0, .bool false] 158)) (fun iv _ => n - (intOf iv).toNat)
  case atStart => exact ⟨0, Nat.zero_le _, rfl, rfl, rfl⟩
  case round =>
    obtain ⟨j, hj, rfl, h0, rfl⟩ := hrel
    by_cases hlt : j < n
    · obtain ⟨ad, a, rfl, hb1, hx, p1, p2, p3⟩ := HR.out.acc hlt
      have p2' := cell_behind p2 (by omega)
      have p3' := cell_behind p3 (by omega)
      have HST := Lib.hid (find_stepCh hx h0.out)
      have hjn : (j : Int) < (n : Int) := by omega
      clear hx p2 p3
      obtain ⟨x1, x2, x3⟩ := a
      by_cases he : x1 = x
      · subst he
        have HF := Lib.hid (HST.out.1 rfl)
        go_wp2
        refine bodyPost_ret (v := .tuple #[.agg #[.int .i64 x1, .int .i64 x2, .bool x3], .bool true]) (by simp [results, Tryz.results122, go_sem]) rfl ⟨?_, ?_⟩
        · unfold getV; rw [HF.out]; rfl
        · first | exact (Below.refl _ _).alloc (Nat.le_refl _) _ | exact ((((Below.refl _ _).alloc (Nat.le_refl _) _).setCell (by simp) _).setCell (by simp) _).setCell (by simp) _
      · have HF := Lib.hid (HST.out.2 he)
        have he' : (x1 == x) = false := by simp [he]
        go_wp2
        exact ⟨⟨j + 1, by omega, by go_num, HF.out, by first | rfl | trivial⟩, by simp [intOf]; omega⟩
    · obtain rfl : j = n := by omega
      have HF : Hid (findA l x = none) := by
        have := h0.out
        rwa [List.take_of_length_le (by have := HL.out; omega)] at this
      go_wp2
      refine bodyPost_ret (v := .tuple #[.agg #[.int .i64 0, .int .i64 0, .bool false], .bool false]) (by simp [results, Tryz.results122, go_sem]) rfl ⟨?_, ?_⟩
      · unfold getV; rw [HF.out]; rfl
      · first | exact (Below.refl _ _).alloc (Nat.le_refl _) _ | exact ((((Below.refl _ _).alloc (Nat.le_refl _) _).setCell (by simp) _).setCell (by simp) _).setCell (by simp) _

end Go.Proofs.YthjpknipnmagkaaGreat
