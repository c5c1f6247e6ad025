/-
  Contracts of book.Of, and of the statements' Of.
-/
import Derived.Test.YthjpknipnmagkaaMany7
namespace Go.Proofs.Ythjpknipnmagkaa
open Go.RowKit

/-- Journals posted one behind the other. -/
def ofM : List Jrn → List Jrn → List Jrn
  | M, [] => M
  | M, j :: r => if postE M j = 0 then ofM (postL M j) r else M
def ofE : List Jrn → List Jrn → Int
  | _, [] => 0
  | M, j :: r => if postE M j = 0 then ofE (postL M j) r else postE M j
/-- It stays where the book is alone written. -/
theorem JlRd.tome {X : Nat → Prop} {W w : World} {B B0 c n : Nat} {M : List Jrn} {A : Option Addr} {l : List JR} (h : JlRd W B A n l) (ht : TomeIn X W B0 c M w) (hB : B ≤ W.heap.size) (hX : ∀ k, k < B → X k) : JlRd w B A n l := by
  have key : ∀ {size m : Nat} {A : Option Addr} {xs : List Value}, Rd W B size A m xs → Rd w B size A m xs := by
    intro size m A xs hr
    refine ⟨hr.1, fun hm => ?_⟩
    obtain ⟨ad, e, hb, hc⟩ := hr.2 hm
    refine ⟨ad, e, hb, fun j u hu => ?_⟩
    rw [← hc j u hu]
    unfold World.cell?
    rw [add_block, ht.but.block ad.block (by omega) fun hx => hx (hX _ hb)]
  exact ⟨key h.rd, fun a ha => key (h.lines a ha), h.nil, h.size⟩

theorem ofM_step {M : List Jrn} : ∀ (r : List Jrn) (k : Nat) (x : Jrn), r[k]? = some x → ofE M (r.take k) = 0 → (ofE M (r.take (k + 1)) = postE (ofM M (r.take k)) x ∧ (postE (ofM M (r.take k)) x = 0 → ofM M (r.take (k + 1)) = postL (ofM M (r.take k)) x))
  | [], k, x, h, _ => by simp at h
  | j :: r, 0, x, h, _ => by
    simp at h
    subst h
    by_cases h1 : postE M j = 0
    · simp [ofE, ofM, h1]
    · simp [ofE, ofM, h1]
  | j :: r, k + 1, x, h, h0 => by
    simp only [List.take_succ_cons] at h0 ⊢
    by_cases h1 : postE M j = 0
    · simp only [ofE, ofM, if_pos h1] at h0 ⊢
      exact ofM_step r k x (by simpa using h) h0
    · simp only [ofE, if_neg h1] at h0
      exact absurd h0 h1
theorem ofE_no {M : List Jrn} : ∀ (r : List Jrn) (k : Nat), ofE M (r.take k) ≠ 0 → ofE M r = ofE M (r.take k)
  | [], k, h => by simp
  | j :: r, 0, h => by simp [ofE] at h
  | j :: r, k + 1, h => by
    simp only [List.take_succ_cons] at h ⊢
    by_cases h1 : postE M j = 0
    · simp only [ofE, if_pos h1] at h ⊢
      exact ofE_no r k h
    · simp only [ofE, if_neg h1]

set_option maxRecDepth 100000 in
set_option maxHeartbeats 2000000 in
theorem of_any (l : List JR) (A : Option Addr) (n cap B : Nat) (w : World) (h : JlRd w B A n l) (hB : B ≤ w.heap.size) (hn : n ≤ maxLen) :
    Calls Try.prog 55 #[.slice A n cap] w fun e w' => (ofE [] (l.map JR.j) = 0 → e = .returned (.tuple #[.pointer (some ⟨w.heap.size, 0, none⟩), .int .i64 0]) ∧ TomeIn (fun k => k < w.heap.size + 1 ∧ k ≠ w.heap.size) (w.alloc (.cells #[.slice none 0 0] 138)) w.heap.size w.heap.size (ofM [] (l.map JR.j)) w') ∧
      (ofE [] (l.map JR.j) ≠ 0 → e = .returned (.tuple #[.pointer none, .int .i64 (ofE [] (l.map JR.j))])) ∧ Below w.heap.size w w' := by
  unfold maxLen at hn
  obtain ⟨W, hW⟩ : ∃ W, w.alloc (.cells #[.slice none 0 0] 138) = W := ⟨_, rfl⟩
  have hbW : Below w.heap.size w W := by rw [← hW]; exact (Below.refl _ _).alloc (Nat.le_refl _) _
  have hzW : W.heap.size = w.heap.size + 1 := by rw [← hW]; simp
  obtain ⟨X, hX⟩ : ∃ X : Nat → Prop, X = fun k => k < w.heap.size + 1 ∧ k ≠ w.heap.size := ⟨_, rfl⟩
  have h0 : TomeIn X W w.heap.size w.heap.size [] W := by
    have := TomeIn.start (tome_new w) rfl
    rw [hW, hzW] at this
    rw [hX]; exact this
  have HXL : Hid (∀ k, k < w.heap.size → X k) := fun k hk => by rw [hX]; exact ⟨by omega, by omega⟩
  rw [hW, ← hX]
  have HL := Lib.hid h.len
  have HJ : Hid (∀ M w1, TomeIn X W w.heap.size w.heap.size M w1 → JlRd w1 B A n l) := fun M w1 ht => (h.far hbW hB).tome ht (by omega) fun k hk => HXL.out k (by omega)
  have HFIN : Hid (∀ M w1, TomeIn X W w.heap.size w.heap.size M w1 → Below w.heap.size w w1) := fun M w1 ht => ht.below w hbW HXL.out
  have HW := Lib.hid hW
  have H0 := Lib.hid h0
  have HSZ := Lib.hid h.size
  have HNL := Lib.hid h.nil
  clear hW h0 hX hbW h
  go_enter Try.func55, Try.ntmps55
  go_wp2_with fail
  rw [HW.out]
  go_loopw [12, 6, 7] (fun iv _ _ wr => ∃ k : Nat, k ≤ n ∧ iv = .int .i64 k ∧ Hid (ofE [] ((l.map JR.j).take k) = 0) ∧ TomeIn X W w.heap.size w.heap.size (ofM [] ((l.map JR.j).take k)) wr) (fun iv _ _ _ => n - (intOf iv).toNat)
  case atStart => exact ⟨0, Nat.zero_le _, rfl, rfl, H0.out⟩
  case round =>
    obtain ⟨k, hk, rfl, hE, hin⟩ := hrel
    by_cases hlt : k < n
    · have hkn : (k : Int) < (n : Int) := by omega
      have hJ := HJ.out _ _ hin
      obtain ⟨ad, b, rfl, hb1, hx, p1, p2, p3, p4, p5, p6⟩ := hJ.rd.jr hlt
      have hmem := List.mem_of_getElem? hx
      have hgx : (l.map JR.j)[k]? = some b.j := by rw [List.getElem?_map, hx]; rfl
      have HST := Lib.hid (ofM_step (M := []) (l.map JR.j) k b.j hgx hE.out)
      have hsz := hin.but.size
      have KP : Hid (∀ o, Calls Try.prog 81 #[.pointer (some ⟨w.heap.size, 0, none⟩), .agg #[.int .i64 b.j.id, .int .i64 b.j.ent, .int .i64 b.j.per, .string b.j.ref, .slice b.A b.j.lines.length b.c, .bool b.j.void]] (wr.alloc o) fun e w' => e = .returned (.int .i64 (postE (ofM [] ((l.map JR.j).take k)) b.j)) ∧ TomeIn X W w.heap.size w.heap.size (postL (ofM [] ((l.map JR.j).take k)) b.j) w') := fun o =>
        post_in b.j b.A b.c B (hin.quiet ((Below.refl _ _).alloc (Nat.le_refl _) o)) ((hJ.lines b hmem).far ((Below.refl _ _).alloc (Nat.le_refl _) o) (by omega)) (by simp; omega) (HNL.out b hmem) (HSZ.out b hmem).2 (HSZ.out b hmem).1
      have hblt : ad.block < wr.heap.size := by omega
      have HNO : Hid (postE (ofM [] ((l.map JR.j).take k)) b.j ≠ 0 → ofE [] (l.map JR.j) = postE (ofM [] ((l.map JR.j).take k)) b.j) := fun h => by
        have h2 := HST.out.1
        rw [← h2] at h ⊢
        exact ofE_no _ _ h
      clear hx hgx hin hJ hmem hE
      generalize hP : postE (ofM [] ((l.map JR.j).take k)) b.j = P at *
      by_cases hP0 : P = 0
      · subst hP0
        go_wp2_with fail
        refine (KP.out _).mono ?_
        rintro e w1 ⟨rfl, h1⟩
        rw [← HST.out.2 (by first | rfl | trivial)] at h1
        have H1 := Lib.hid h1
        clear h1 p1 p2 p3 p4 p5 p6
        go_wp2_with fail
        exact ⟨⟨k + 1, by omega, by go_num, HST.out.1, H1.out⟩, by simp [intOf]; omega⟩
      · have ht : (P != 0) = true := by simpa using hP0
        have HE := Lib.hid (HNO.out hP0)
        have HP0 := Lib.hid hP0
        clear hP0
        go_wp2_with fail
        refine (KP.out _).mono ?_
        rintro e w1 ⟨rfl, h1⟩
        have HF := Lib.hid (HFIN.out _ _ h1)
        clear h1 p1 p2 p3 p4 p5 p6
        go_wp2_with fail
        go_ret2
        exact ⟨fun h => absurd (HE.out ▸ h) HP0.out, fun _ => by rw [HE.out]; rfl, HF.out⟩
    · obtain rfl : k = n := by omega
      have he : (l.map JR.j).take k = l.map JR.j := List.take_of_length_le (by rw [List.length_map]; have := HL.out; omega)
      rw [he] at hE hin
      have HE := Lib.hid hE.out
      have HIN := Lib.hid hin
      clear hE hin he
      go_wp2_with fail
      go_ret2
      exact ⟨fun _ => ⟨rfl, HIN.out⟩, fun h => absurd HE.out h, HFIN.out _ _ HIN.out⟩
end Go.Proofs.Ythjpknipnmagkaa

