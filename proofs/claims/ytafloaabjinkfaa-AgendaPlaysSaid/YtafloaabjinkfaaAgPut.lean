/-
  The reference's Ahead and PutItem.
-/
import Derived.Test.YtafloaabjinkfaaIns3
import Derived.Test.YtafloaabjinkfaaAgClone
import Derived.Test.YtafloaabjinkfaaCodeSub
import Derived.Deep.RegionLaw
namespace Go.Proofs.Ytafloaabjinkfaa
open Go.RowKit Go.Sort

set_option maxRecDepth 100000 in
set_option maxHeartbeats 1000000 in
theorem ahead_any (x y : Itm) (w : World) : Calls Try.prog 15 #[.agg #[.int .i64 x.per, .int .i64 x.rk, .int .i64 x.id], .agg #[.int .i64 y.per, .int .i64 y.rk, .int .i64 y.id]] w fun e w' => e = .returned (.bool (!itmLt y x)) ∧ Below w.heap.size w w' := by
  have HB : Hid (Below w.heap.size w ((w.alloc (.cells #[.int .i64 x.per, .int .i64 x.rk, .int .i64 x.id] 35)).alloc (.cells #[.int .i64 y.per, .int .i64 y.rk, .int .i64 y.id] 35))) := ((Below.refl _ _).alloc (Nat.le_refl _) _).alloc (by simp) _
  obtain ⟨x1, x2, x3⟩ := x
  obtain ⟨y1, y2, y3⟩ := y
  dsimp only at *
  go_enter Try.func15, Try.ntmps15
  by_cases h1 : x1 = y1
  · subst h1
    have t1 : (x1 != x1) = false := by simp
    by_cases h2 : x2 = y2
    · subst h2
      have t2 : (x2 != x2) = false := by simp
      go_wp2_with fail
      go_ret
      exact ⟨ret_bool (by rw [Bool.eq_iff_iff]; simp [itmLt]), HB.out⟩
    · have t2 : (x2 != y2) = true := by simpa using h2
      go_wp2_with fail
      go_ret
      exact ⟨ret_bool (by rw [Bool.eq_iff_iff]; simp [itmLt]; omega), HB.out⟩
  · have t1 : (x1 != y1) = true := by simpa using h1
    go_wp2_with fail
    go_ret
    exact ⟨ret_bool (by rw [Bool.eq_iff_iff]; simp [itmLt]; omega), HB.out⟩

/-- Where one is put. -/
def atI : List Itm → Itm → Nat
  | [], _ => 0
  | a :: l, x => if itmLt x a then 0 else atI l x + 1
theorem atI_le : ∀ (l : List Itm) (x : Itm), atI l x ≤ l.length
  | [], _ => Nat.le_refl _
  | a :: l, x => by unfold atI; split <;> simp; exact atI_le l x
theorem insI_at : ∀ (l : List Itm) (x : Itm), insI l x = l.take (atI l x) ++ x :: l.drop (atI l x)
  | [], _ => rfl
  | a :: l, x => by
    unfold insI atI
    split
    · rfl
    · rw [List.take_succ_cons, List.drop_succ_cons, List.cons_append, insI_at l x]
theorem atI_step : ∀ {l : List Itm} {x a : Itm} {k : Nat}, k ≤ atI l x → l[k]? = some a → (itmLt x a = false → k + 1 ≤ atI l x) ∧ (itmLt x a = true → k = atI l x)
  | [], _, _, _, _, h => by simp at h
  | b :: l, x, a, 0, _, h => by
    simp at h; subst h
    unfold atI
    exact ⟨fun h => by rw [if_neg (by simp [h])]; omega, fun h => by rw [if_pos h]⟩
  | b :: l, x, a, k + 1, hk, h => by
    unfold atI at hk ⊢
    split at hk
    · omega
    · rename_i hb
      rw [if_neg hb]
      obtain ⟨h1, h2⟩ := atI_step (l := l) (x := x) (a := a) (k := k) (by omega) (by simpa using h)
      exact ⟨fun h => by have := h1 h; omega, fun h => by have := h2 h; omega⟩
theorem infoItmR : (Try.prog.info? 35).map (fun i => (i.zero, i.size, i.bytes)) = some (some (.agg #[.int .i64 0, .int .i64 0, .int .i64 0]), 3, 24) := by kernel_rfl
/-- The reference's list in memory. -/
def RefAt (w : World) (L : List Itm) (v : Value) : Prop :=
  ∃ A c, v = .slice A L.length c ∧ Rd w w.heap.size 3 A L.length (itms L) ∧ (A = none → c = 0) ∧ L.length ≤ c ∧ c ≤ maxLen ∧ ∀ ad, A = some ad → ∃ cur, w.heap[ad.block]? = some (.cells cur 35 (0, 0))
theorem RefAt.below {w w' : World} {L : List Itm} {v : Value} (h : RefAt w L v) (hb : Below w.heap.size w w') : RefAt w' L v := by
  obtain ⟨A, c, e, h1, h2, h3, h4, h5⟩ := h
  refine ⟨A, c, e, (h1.below hb).wide hb.size, h2, h3, h4, fun ad ha => ?_⟩
  obtain ⟨cur, hc⟩ := h5 ad ha
  exact ⟨cur, (hb.block _ (lt_of_blk hc)).trans hc⟩
theorem RefAt.own {w : World} {B n : Nat} {L : List Itm} {A : Option Addr} {c : Nat} (h : w.ownsRow B 35 3 (.slice A n c) n (itms L)) (hn : L.length = n) : RefAt w L (.slice A n c) := by
  subst hn
  rcases h.2 with ⟨hv, h0⟩ | ⟨g, cap, cur, hv, hB, hh, hnc, hcm, _⟩
  · injection hv with h1 _ h3
    subst h1 h3
    exact ⟨none, 0, rfl, rd_of_own h, fun _ => rfl, by omega, by unfold maxLen; omega, fun ad e => by cases e⟩
  · injection hv with h1 _ h3
    subst h1 h3
    exact ⟨_, _, rfl, rd_of_own h, fun e => (by cases e), hnc, hcm, fun ad e => by injection e with e; subst e; exact ⟨cur, hh⟩⟩
theorem RefAt.nil_ (w : World) : RefAt w [] (.slice none 0 0) := ⟨none, 0, rfl, Rd.nil_, fun _ => rfl, Nat.le_refl _, by unfold maxLen; omega, fun ad e => by cases e⟩
theorem itms_takeI (l : List Itm) (k : Nat) : (itms l).take (k * 3) = itms (l.take k) := by
  by_cases hk : k ≤ l.length
  · have h2 := itms_append (l.take k) (l.drop k)
    rw [List.take_append_drop] at h2
    have h3 : (itms (l.take k)).length = k * 3 := by rw [itms_len, List.length_take]; omega
    rw [h2, ← h3, List.take_left]
  · rw [List.take_of_length_le (by rw [itms_len]; omega), List.take_of_length_le (by omega)]
theorem Rd.takeR {w : World} {B n k : Nat} {A : Option Addr} {l : List Itm} (h : Rd w B 3 A n (itms l)) (hk : k ≤ n) : Rd w B 3 A k (itms (l.take k)) := by
  have hl := h.itms_len
  refine ⟨by rw [Go.Proofs.Ytafloaabjinkfaa.itms_len, List.length_take]; omega, fun h0 => ?_⟩
  obtain ⟨a2, e, hb, hc⟩ := h.2 (by omega)
  refine ⟨a2, e, hb, fun j u hu => hc j u ?_⟩
  rw [← itms_takeI] at hu
  have := (List.getElem?_eq_some_iff.1 hu).1
  rw [List.length_take] at this
  rwa [List.getElem?_take_of_lt (by omega)] at hu
theorem Rd.dropR {w : World} {B n k : Nat} {ad : Addr} {l : List Itm} (h : Rd w B 3 (some ad) n (itms l)) (hk : k ≤ n) : Rd w B 3 (some (ad.add (k * 3))) (n - k) (itms (l.drop k)) := by
  have hl := h.itms_len
  have e : itms (l.drop k) = (itms l).drop (k * 3) := by
    have h2 := itms_append (l.take k) (l.drop k)
    rw [List.take_append_drop] at h2
    have h3 : (itms (l.take k)).length = k * 3 := by rw [Go.Proofs.Ytafloaabjinkfaa.itms_len, List.length_take]; omega
    rw [h2, ← h3, List.drop_left]
  refine ⟨by rw [Go.Proofs.Ytafloaabjinkfaa.itms_len, List.length_drop]; omega, fun h0 => ?_⟩
  obtain ⟨a2, e2, hb, hc⟩ := h.2 (by omega)
  injection e2 with e2
  subst e2
  refine ⟨_, rfl, by rw [add_block]; exact hb, fun j u hu => ?_⟩
  rw [add_add]
  refine hc _ u ?_
  rw [e, List.getElem?_drop] at hu
  exact hu
/-- A post that is met at the normal end alone. -/
def onEndA (K : Act → World → Prop) : Exit → Act → World → Prop
  | .normal, a, w => K a w
  | _, _, _ => False
theorem wp_onEndA {P : Program} {c : Code} {Q : Exit → Act → World → Prop} {a : Act} {w : World} (h : Code.wp P c (onEndA (Q .normal)) a w) : Code.wp P c Q a w :=
  wp_mono h fun e _ _ hh => by
    cases e with
    | normal => exact hh
    | _ => exact hh.elim
noncomputable def piR6 : Code := subCode [1, 1, 1, 1, 0] (Try.f7.body.getD .skip)
set_option maxRecDepth 100000 in
set_option maxHeartbeats 4000000 in
theorem pi6_any (s1 s2 s4 s6 s7 s8 s9 s10 s11 s12 s13 s14 s15 s16 s17 s18 s19 s20 s21 s22 s23 s24 s25 s26 s27 s28 s29 s30 s31 s32 s33 s34 : Value) (Q0 : Exit → Act → World → Prop) (L : List Itm) (x : Itm) (A : Option Addr) (n c k xb B : Nat) (w : World) (hR0 : Rd w B 3 A n (itms L)) (hB : B ≤ w.heap.size) (hk : k ≤ n) (hn : n ≤ 100000) (hnc : n ≤ c) (hnil : A = none → c = 0)
    (x0 : w.cell? ⟨xb, 0, none⟩ = some (.int .i64 x.per)) (x1 : w.cell? ⟨xb, 1, none⟩ = some (.int .i64 x.rk)) (x2 : w.cell? ⟨xb, 2, none⟩ = some (.int .i64 x.id))
    (hQ : ∀ (u24 u25 u26 u27 u28 u29 u30 u31 u32 u33 u34 : Value) (A2 : Option Addr) (c2 : Nat) (w2 : World), w2.ownsRow w.heap.size 35 3 (.slice A2 (n + 1) c2) (n + 1) (itms (L.take k ++ x :: L.drop k)) → Below w.heap.size w w2 → Q0 .normal ⟨#[.slice A n c, s1, s2, .pointer (some ⟨xb, 0, none⟩), .slice A2 (n + 1) c2, .int .i64 (k : Int), s6, s7, s8, s9, s10, s11, s12, s13, s14, s15, s16, s17, s18, s19, s20, s21, s22, s23, u24, u25, u26, u27, u28, u29, u30, u31, u32, u33, u34], []⟩ w2) :
    Code.wp Try.prog piR6 Q0 ⟨#[.slice A n c, s1, s2, .pointer (some ⟨xb, 0, none⟩), s4, .int .i64 (k : Int), s6, s7, s8, s9, s10, s11, s12, s13, s14, s15, s16, s17, s18, s19, s20, s21, s22, s23, s24, s25, s26, s27, s28, s29, s30, s31, s32, s33, s34], []⟩ w := by
  have hL := hR0.itms_len
  have hR : Rd w.drew w.heap.size 3 A n (itms L) := hR0.wide hB
  have HQ := Lib.hid hQ
  have hkI : (k : Int) ≤ (n : Int) := by omega
  have h1 : Rd w.drew w.heap.size 3 A k (itms (L.take k)) := hR.takeR hk
  have FIN : Hid (∀ (u24 u25 u26 u27 u28 u29 u30 u31 u32 u33 u34 : Value) (A2 : Option Addr) (c2 : Nat) (w2 : World), w2.ownsRow w.drew.heap.size 35 3 (.slice A2 (n + 1) c2) (n + 1) (itms (L.take k ++ x :: L.drop k)) → Below w.drew.heap.size w.drew w2 → Q0 .normal ⟨#[.slice A n c, s1, s2, .pointer (some ⟨xb, 0, none⟩), .slice A2 (n + 1) c2, .int .i64 (k : Int), s6, s7, s8, s9, s10, s11, s12, s13, s14, s15, s16, s17, s18, s19, s20, s21, s22, s23, u24, u25, u26, u27, u28, u29, u30, u31, u32, u33, u34], []⟩ w2) := fun u24 u25 u26 u27 u28 u29 u30 u31 u32 u33 u34 A2 c2 w2 k1 k2 => HQ.out u24 u25 u26 u27 u28 u29 u30 u31 u32 u33 u34 A2 c2 w2 k1 ((Below.refl _ w).drew.trans k2)
  refine wp_onEndA ?_
  conv => arg 2; whnf
  conv => arg 4; dsimp only
  have e3 : itms (L.take k) ++ ([Value.int .i64 x.per, .int .i64 x.rk, .int .i64 x.id] ++ itms (L.drop k)) = itms (L.take k ++ x :: L.drop k) := by rw [itms_append]; rfl
  cases A with
  | none =>
    obtain rfl : c = 0 := hnil rfl
    obtain rfl : n = 0 := by omega
    obtain rfl : k = 0 := by omega
    clear hnil
    have h2 : Rd w.drew w.heap.size 3 none (0 - 0) (itms (L.drop 0)) := by
      rw [show L = [] from List.eq_nil_of_length_eq_zero hL]; exact Rd.nil_
    obtain ⟨A1, c1, w1, A2, c2, w2, A3, c3, w3, r1, r2, r3, o3, b3, bx⟩ := ins_x (P := Try.prog) (W := w.drew) (c := 0) (ct := 0) (cs := [.int .i64 x.per, .int .i64 x.rk, .int .i64 x.id]) infoItmR Try.underlying29 rfl (by omega) (by omega) rfl (itms_one _) (by intro u hu; simp at hu; rcases hu with rfl | rfl | rfl <;> rfl) (itms_one _) h1 h2 (Nat.le_refl _) (Nat.le_refl _) (by omega)
    obtain ⟨D1, d1, y1, D2, d2, y2, D3, d3, y3, s1, s2, s3, p3, q3⟩ := ins_y (P := Try.prog) (W := w.drew) (c := 0) (ct := 0) (cs := [.int .i64 x.per, .int .i64 x.rk, .int .i64 x.id]) infoItmR Try.underlying29 rfl (by omega) (by omega) rfl (itms_one _) (by intro u hu; simp at hu; rcases hu with rfl | rfl | rfl <;> rfl) (itms_one _) h1 h2 (Nat.le_refl _) (Nat.le_refl _) (by omega)
    rw [e3] at o3 p3
    have R1 := Lib.hid r1; have R2 := Lib.hid r2; have R3 := Lib.hid r3; have S1 := Lib.hid s1; have S2 := Lib.hid s2; have S3 := Lib.hid s3
    have O3 := Lib.hid o3; have B3 := Lib.hid b3; have P3 := Lib.hid p3; have Q3 := Lib.hid q3
    have v0 : w1.cell? ⟨xb, 0, none⟩ = some (.int .i64 x.per) := (bx.cell (p := ⟨xb, 0, none⟩) (block_of_cell x0)).trans x0
    have v1 : w1.cell? ⟨xb, 1, none⟩ = some (.int .i64 x.rk) := (bx.cell (p := ⟨xb, 1, none⟩) (block_of_cell x1)).trans x1
    have v2 : w1.cell? ⟨xb, 2, none⟩ = some (.int .i64 x.id) := (bx.cell (p := ⟨xb, 2, none⟩) (block_of_cell x2)).trans x2
    clear r1 r2 r3 s1 s2 s3 o3 b3 p3 q3 bx h1 h2 hR hQ e3
    go_region_law (first
      | (refine step_append_run rfl _ (.tmp 26) 29 rfl (.slice none 0 0) (.slice none 0 0) _ w1 rfl (by simp [Act.eval, Act.put]) R1.out ?_)
      | (refine step_append_run rfl (.tmp 27) (.tmp 29) 29 rfl (.slice A1 0 c1) (.slice (some ⟨w1.heap.size, 0, none⟩) 1 1) _ w2 (by simp [Act.eval, Act.put]) (by simp [Act.eval, Act.put]) R2.out ?_)
      | (refine step_append_run rfl (.tmp 30) (.tmp 33) 29 rfl (.slice A2 (0 + 1) c2) (.slice none 0 0) _ w3 (by simp [Act.eval, Act.put]) (by simp [Act.eval, Act.put]) R3.out ?_)
      | (refine step_append_run rfl _ (.tmp 26) 29 rfl (.slice none 0 0) (.slice none 0 0) _ y1 rfl (by simp [Act.eval, Act.put]) S1.out ?_)
      | (refine step_append_run rfl (.tmp 27) (.tmp 29) 29 rfl (.slice D1 0 d1) (.slice (some ⟨w.heap.size, 0, none⟩) 1 1) _ y2 (by simp [Act.eval, Act.put]) (by simp [Act.eval, Act.put]) S2.out ?_)
      | (refine step_append_run rfl (.tmp 30) (.tmp 33) 29 rfl (.slice D2 (0 + 1) d2) (.slice none 0 0) _ y3 (by simp [Act.eval, Act.put]) (by simp [Act.eval, Act.put]) S3.out ?_))
    all_goals go_simp
    all_goals first | exact FIN.out _ _ _ _ _ _ _ _ _ _ _ A3 c3 w3 O3.out B3.out | exact FIN.out _ _ _ _ _ _ _ _ _ _ _ D3 d3 y3 P3.out Q3.out
  | some ad =>
    clear hnil
    have hkc : k ≤ c := by omega
    by_cases hck : c = k
    · subst hck
      obtain rfl : n = c := by omega
      have h2 : Rd w.drew w.heap.size 3 (some ad) (n - n) (itms (L.drop n)) := by
        rw [show L.drop n = [] from List.drop_eq_nil_of_le (by omega), Nat.sub_self]; exact Rd.nil_
      obtain ⟨A1, c1, w1, A2, c2, w2, A3, c3, w3, r1, r2, r3, o3, b3, bx⟩ := ins_x (P := Try.prog) (W := w.drew) (c := n) (ct := 0) (cs := [.int .i64 x.per, .int .i64 x.rk, .int .i64 x.id]) infoItmR Try.underlying29 rfl (by omega) (by omega) rfl (itms_one _) (by intro u hu; simp at hu; rcases hu with rfl | rfl | rfl <;> rfl) (itms_one _) h1 h2 (Nat.le_refl _) (Nat.le_refl _) (by omega)
      obtain ⟨D1, d1, y1, D2, d2, y2, D3, d3, y3, s1, s2, s3, p3, q3⟩ := ins_y (P := Try.prog) (W := w.drew) (c := n) (ct := 0) (cs := [.int .i64 x.per, .int .i64 x.rk, .int .i64 x.id]) infoItmR Try.underlying29 rfl (by omega) (by omega) rfl (itms_one _) (by intro u hu; simp at hu; rcases hu with rfl | rfl | rfl <;> rfl) (itms_one _) h1 h2 (Nat.le_refl _) (Nat.le_refl _) (by omega)
      rw [e3] at o3 p3
      have R1 := Lib.hid r1; have R2 := Lib.hid r2; have R3 := Lib.hid r3; have S1 := Lib.hid s1; have S2 := Lib.hid s2; have S3 := Lib.hid s3
      have O3 := Lib.hid o3; have B3 := Lib.hid b3; have P3 := Lib.hid p3; have Q3 := Lib.hid q3
      have v0 : w1.cell? ⟨xb, 0, none⟩ = some (.int .i64 x.per) := (bx.cell (p := ⟨xb, 0, none⟩) (block_of_cell x0)).trans x0
      have v1 : w1.cell? ⟨xb, 1, none⟩ = some (.int .i64 x.rk) := (bx.cell (p := ⟨xb, 1, none⟩) (block_of_cell x1)).trans x1
      have v2 : w1.cell? ⟨xb, 2, none⟩ = some (.int .i64 x.id) := (bx.cell (p := ⟨xb, 2, none⟩) (block_of_cell x2)).trans x2
      clear r1 r2 r3 s1 s2 s3 o3 b3 p3 q3 bx h1 h2 hR hQ e3
      go_region_law (first
        | (refine step_append_run rfl _ (.tmp 26) 29 rfl (.slice none 0 0) (.slice (some ad) n n) _ w1 rfl (by simp [Act.eval, Act.put]) R1.out ?_)
        | (refine step_append_run rfl (.tmp 27) (.tmp 29) 29 rfl (.slice A1 n c1) (.slice (some ⟨w1.heap.size, 0, none⟩) 1 1) _ w2 (by simp [Act.eval, Act.put]) (by simp [Act.eval, Act.put]) R2.out ?_)
        | (refine step_append_run rfl (.tmp 30) (.tmp 33) 29 rfl (.slice A2 (n + 1) c2) (.slice (some ad) (n - n) 0) _ w3 (by simp [Act.eval, Act.put]) (by simp [Act.eval, Act.put]) R3.out ?_)
        | (refine step_append_run rfl _ (.tmp 26) 29 rfl (.slice none 0 0) (.slice (some ad) n n) _ y1 rfl (by simp [Act.eval, Act.put]) S1.out ?_)
        | (refine step_append_run rfl (.tmp 27) (.tmp 29) 29 rfl (.slice D1 n d1) (.slice (some ⟨w.heap.size, 0, none⟩) 1 1) _ y2 (by simp [Act.eval, Act.put]) (by simp [Act.eval, Act.put]) S2.out ?_)
        | (refine step_append_run rfl (.tmp 30) (.tmp 33) 29 rfl (.slice D2 (n + 1) d2) (.slice (some ad) (n - n) 0) _ y3 (by simp [Act.eval, Act.put]) (by simp [Act.eval, Act.put]) S3.out ?_))
      all_goals go_simp
      all_goals first | exact FIN.out _ _ _ _ _ _ _ _ _ _ _ A3 c3 w3 O3.out B3.out | exact FIN.out _ _ _ _ _ _ _ _ _ _ _ D3 d3 y3 P3.out Q3.out
    · have h2 : Rd w.drew w.heap.size 3 (some (ad.add (k * 3))) (n - k) (itms (L.drop k)) := hR.dropR hk
      obtain ⟨A1, c1, w1, A2, c2, w2, A3, c3, w3, r1, r2, r3, o3, b3, bx⟩ := ins_x (P := Try.prog) (W := w.drew) (c := c) (ct := c - k) (cs := [.int .i64 x.per, .int .i64 x.rk, .int .i64 x.id]) infoItmR Try.underlying29 rfl (by omega) (by omega) rfl (itms_one _) (by intro u hu; simp at hu; rcases hu with rfl | rfl | rfl <;> rfl) (itms_one _) h1 h2 (Nat.le_refl _) hk (by omega)
      obtain ⟨D1, d1, y1, D2, d2, y2, D3, d3, y3, s1, s2, s3, p3, q3⟩ := ins_y (P := Try.prog) (W := w.drew) (c := c) (ct := c - k) (cs := [.int .i64 x.per, .int .i64 x.rk, .int .i64 x.id]) infoItmR Try.underlying29 rfl (by omega) (by omega) rfl (itms_one _) (by intro u hu; simp at hu; rcases hu with rfl | rfl | rfl <;> rfl) (itms_one _) h1 h2 (Nat.le_refl _) hk (by omega)
      rw [e3] at o3 p3
      have R1 := Lib.hid r1; have R2 := Lib.hid r2; have R3 := Lib.hid r3; have S1 := Lib.hid s1; have S2 := Lib.hid s2; have S3 := Lib.hid s3
      have O3 := Lib.hid o3; have B3 := Lib.hid b3; have P3 := Lib.hid p3; have Q3 := Lib.hid q3
      have v0 : w1.cell? ⟨xb, 0, none⟩ = some (.int .i64 x.per) := (bx.cell (p := ⟨xb, 0, none⟩) (block_of_cell x0)).trans x0
      have v1 : w1.cell? ⟨xb, 1, none⟩ = some (.int .i64 x.rk) := (bx.cell (p := ⟨xb, 1, none⟩) (block_of_cell x1)).trans x1
      have v2 : w1.cell? ⟨xb, 2, none⟩ = some (.int .i64 x.id) := (bx.cell (p := ⟨xb, 2, none⟩) (block_of_cell x2)).trans x2
      clear r1 r2 r3 s1 s2 s3 o3 b3 p3 q3 bx h1 h2 hR hQ e3
      go_region_law (first
        | (refine step_append_run rfl _ (.tmp 26) 29 rfl (.slice none 0 0) (.slice (some ad) k c) _ w1 rfl (by simp [Act.eval, Act.put]) R1.out ?_)
        | (refine step_append_run rfl (.tmp 27) (.tmp 29) 29 rfl (.slice A1 k c1) (.slice (some ⟨w1.heap.size, 0, none⟩) 1 1) _ w2 (by simp [Act.eval, Act.put]) (by simp [Act.eval, Act.put]) R2.out ?_)
        | (refine step_append_run rfl (.tmp 30) (.tmp 33) 29 rfl (.slice A2 (k + 1) c2) (.slice (some (ad.add (k * 3))) (n - k) (c - k)) _ w3 (by simp [Act.eval, Act.put]) (by simp [Act.eval, Act.put]) R3.out ?_)
        | (refine step_append_run rfl _ (.tmp 26) 29 rfl (.slice none 0 0) (.slice (some ad) k c) _ y1 rfl (by simp [Act.eval, Act.put]) S1.out ?_)
        | (refine step_append_run rfl (.tmp 27) (.tmp 29) 29 rfl (.slice D1 k d1) (.slice (some ⟨w.heap.size, 0, none⟩) 1 1) _ y2 (by simp [Act.eval, Act.put]) (by simp [Act.eval, Act.put]) S2.out ?_)
        | (refine step_append_run rfl (.tmp 30) (.tmp 33) 29 rfl (.slice D2 (k + 1) d2) (.slice (some (ad.add (k * 3))) (n - k) (c - k)) _ y3 (by simp [Act.eval, Act.put]) (by simp [Act.eval, Act.put]) S3.out ?_))
      all_goals go_simp
      all_goals first | exact FIN.out _ _ _ _ _ _ _ _ _ _ _ A3 c3 w3 O3.out B3.out | exact FIN.out _ _ _ _ _ _ _ _ _ _ _ D3 d3 y3 P3.out Q3.out
set_option maxRecDepth 100000 in
set_option maxHeartbeats 4000000 in
theorem putItem_any (L : List Itm) (x : Itm) (v : Value) (w : World) (h : RefAt w L v) (hn : L.length ≤ 1000000) :
    Calls Try.prog 7 #[v, .agg #[.int .i64 x.per, .int .i64 x.rk, .int .i64 x.id]] w fun e w' => ∃ v2, e = .returned v2 ∧ RefAt w' (putI L x) v2 ∧ Below w.heap.size w w' := by
  have h0 := h
  obtain ⟨A, c, rfl, hR, hnil, hnc, hcm, htyp⟩ := h
  obtain ⟨W1, hW1⟩ : ∃ W1, w.alloc (.cells #[.int .i64 x.per, .int .i64 x.rk, .int .i64 x.id] 35) = W1 := ⟨_, rfl⟩
  have hb1 : Below w.heap.size w W1 := by rw [← hW1]; exact (Below.refl _ _).alloc (Nat.le_refl _) _
  have hx := heap_new w (.cells #[.int .i64 x.per, .int .i64 x.rk, .int .i64 x.id] 35)
  rw [hW1] at hx
  obtain ⟨n, hnn⟩ : ∃ n, L.length = n := ⟨_, rfl⟩
  rw [hnn] at hR hnc hn
  have HN := Lib.hid hnn
  have H1 := Lib.hid (h0.below hb1)
  have HR := Lib.hid hR; have HNIL := Lib.hid hnil; have HB1 := Lib.hid hb1; have HX := Lib.hid hx; have HW1 := Lib.hid hW1
  have HAT : Hid (atI L x ≤ n) := by rw [← hnn]; exact atI_le L x
  unfold maxLen at hcm
  rw [hnn]
  clear h0 hR hnil htyp hb1 hx hW1 hnn
  go_enter Try.func7, Try.ntmps7
  by_cases hfull : 1000 ≤ n
  · have hI : (n : Int) ≥ 1000 := by omega
    have HP : Hid (putI L x = L) := by unfold putI; rw [Hid, if_pos (by rw [HN.out]; exact hfull)]
    go_wp2_with fail
    rw [HW1.out]
    go_ret
    exact ⟨_, rfl, by rw [HP.out]; have := H1.out; rw [HN.out] at this; exact this, HB1.out⟩
  · have hI : ¬ (n : Int) ≥ 1000 := by omega
    have HP : Hid (putI L x = L.take (atI L x) ++ x :: L.drop (atI L x)) := by unfold putI; rw [Hid, if_neg (by rw [HN.out]; exact hfull), insI_at]
    go_wp2_with fail
    rw [HW1.out]
    go_loopw [5] (fun kv wr => ∃ k : Nat, k ≤ n ∧ kv = .int .i64 k ∧ Hid (k ≤ atI L x) ∧ Below W1.heap.size W1 wr) (fun kv _ => n - (intOf kv).toNat)
    case atStart => exact ⟨0, Nat.zero_le _, rfl, Nat.zero_le _, Below.refl _ _⟩
    case round =>
      obtain ⟨k, hk, rfl, HK, hbel⟩ := hrel
      by_cases hlt : k < n
      · have hkI : (k : Int) < (n : Int) := by omega
        have hd1 : decide (k < n) = true := by rw [decide_eq_true_eq]; exact hlt
        have hRW : Rd wr w.heap.size 3 A n (itms L) := HR.out.below (HB1.out.trans (hbel.mono HB1.out.size))
        obtain ⟨ad, y, rfl, hb0, hy, p0, p1, p2⟩ := hRW.itm hlt
        have p1' := cell_behind p1 (by omega)
        have p2' := cell_behind p2 (by omega)
        have hxw := (hbel.block _ (lt_of_blk HX.out)).trans HX.out
        obtain ⟨x0, x1, x2⟩ := cells3_regrown hxw
        replace p0 := cell_regrown p0; replace p1' := cell_regrown p1'; replace p2' := cell_regrown p2'
        replace x0 := cell_regrown x0; replace x1 := cell_regrown x1; replace x2 := cell_regrown x2
        have Q1 := Lib.hid (regrown_calls (w := wr) fun w1 _ => ahead_any y x w1)
        have HST := Lib.hid (atI_step HK.out hy)
        have HBEL := Lib.hid hbel
        clear hRW p1 p2 hxw hy hbel
        cases hlt2 : itmLt x y with
        | false =>
          rw [hlt2] at Q1
          have HK2 := Lib.hid (HST.out.1 hlt2)
          clear hlt2
          go_wp2_with fail
          refine wp_region_quiet_below (by kernel_rfl) (by kernel_rfl) ?_
          repeat (go_big_quiet_step (fail))
          go_big_quiet_want
          go_big_quiet_op
          go_big_quiet_call (exact Q1.out _ _)
          repeat (go_big_quiet_step (fail))
          refine wpQuiet_nil ?_
          rintro _ ⟨⟨dq, osq⟩, rfl⟩
          have HB3 := Lib.hid (HBEL.out.trans ((below_regrown wr dq osq).mono HBEL.out.size))
          go_wp2_with fail
          exact ⟨⟨k + 1, by omega, by go_num, HK2, HB3.out⟩, by simp [intOf]; omega⟩
        | true =>
          rw [hlt2] at Q1
          have HK2 := Lib.hid (HST.out.2 hlt2)
          clear hlt2
          go_wp2_with fail
          refine wp_region_quiet_below (by kernel_rfl) (by kernel_rfl) ?_
          repeat (go_big_quiet_step (fail))
          go_big_quiet_want
          go_big_quiet_op
          go_big_quiet_call (exact Q1.out _ _)
          repeat (go_big_quiet_step (fail))
          refine wpQuiet_nil ?_
          rintro _ ⟨⟨dq, osq⟩, rfl⟩
          have HB3 := Lib.hid (HBEL.out.trans ((below_regrown wr dq osq).mono HBEL.out.size))
          go_wp2_with fail
          generalize grow (redrawn wr dq) osq = W5 at HB3 ⊢
          have HBW : Hid (Below w.heap.size w W5) := HB1.out.trans (HB3.out.mono HB1.out.size)
          have hx5 := (HB3.out.block _ (lt_of_blk HX.out)).trans HX.out
          obtain ⟨z0, z1, z2⟩ := cells3_regrown hx5
          clear hx5
          refine pi6_any _ _ _ _ _ _ _ _ _ _ _ _ _ _ _ _ _ _ _ _ _ _ _ _ _ _ _ _ _ _ _ _ _ L x _ n c k w.heap.size w.heap.size W5 (HR.out.below HBW.out) HBW.out.size (by omega) (by omega) hnc HNIL.out z0 z1 z2 ?_
          intro u24 u25 u26 u27 u28 u29 u30 u31 u32 u33 u34 A3 c3 w6 ho hb
          have HFIN : Hid (RefAt w6 (putI L x) (.slice A3 (n + 1) c3)) := by
            rw [HP.out, ← HK2.out]
            refine RefAt.own ho ?_
            have := HN.out
            rw [List.length_append, List.length_cons, List.length_take, List.length_drop]
            omega
          have HB6 := Lib.hid (HBW.out.trans (hb.mono HBW.out.size))
          clear ho hb
          go_simp
          go_at_K
          go_wp2_with fail
          go_ret
          exact ⟨_, rfl, HFIN.out, HB6.out⟩
      · obtain rfl : k = n := by omega
        have hd1 : decide (k < k) = false := by simp
        have hlast : atI L x = k := Nat.le_antisymm HAT.out HK.out
        have HLAST := Lib.hid hlast
        have HBEL := Lib.hid hbel
        clear hlast hbel
        go_wp2_with fail
        go_big_quiet (fail)
        go_wp2_with fail
        have HB3 : Hid (Below W1.heap.size W1 (wr.drewN nq)) := below_drewN HBEL.out nq
        generalize wr.drewN nq = W5 at HB3 ⊢
        have HBW : Hid (Below w.heap.size w W5) := HB1.out.trans (HB3.out.mono HB1.out.size)
        have hx5 := (HB3.out.block _ (lt_of_blk HX.out)).trans HX.out
        obtain ⟨z0, z1, z2⟩ := cells3_regrown hx5
        clear hx5
        refine pi6_any _ _ _ _ _ _ _ _ _ _ _ _ _ _ _ _ _ _ _ _ _ _ _ _ _ _ _ _ _ _ _ _ _ L x _ k c k w.heap.size w.heap.size W5 (HR.out.below HBW.out) HBW.out.size (by omega) (by omega) hnc HNIL.out z0 z1 z2 ?_
        intro u24 u25 u26 u27 u28 u29 u30 u31 u32 u33 u34 A3 c3 w6 ho hb
        have HFIN : Hid (RefAt w6 (putI L x) (.slice A3 (k + 1) c3)) := by
          rw [HP.out, HLAST.out]
          refine RefAt.own ho ?_
          have := HN.out
          rw [List.length_append, List.length_cons, List.length_take, List.length_drop]
          omega
        have HB6 := Lib.hid (HBW.out.trans (hb.mono HBW.out.size))
        clear ho hb
        go_simp
        go_at_K
        go_wp2_with fail
        go_ret
        exact ⟨_, rfl, HFIN.out, HB6.out⟩
end Go.Proofs.Ytafloaabjinkfaa
