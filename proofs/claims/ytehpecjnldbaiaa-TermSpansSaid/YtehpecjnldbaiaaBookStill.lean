/-
  The statements' book: stillInts: each list that is kept is as its copy.
-/
import Derived.Test.YtehpecjnldbaiaaBookPush
import Derived.BigQuiet
namespace Go.Proofs.Ytehpecjnldbaiaa
open Go.RowKit

theorem table_at {w : World} {B m i : Nat} {v : Value} {V : Nat → Value} (h : Table w B v m V) (hi : i < m) : ∃ G c, v = .slice (some ⟨G, 0, none⟩) m c ∧ w.cell? ⟨G, i, none⟩ = some (V i) ∧ G < w.heap.size ∧ B ≤ G ∧ m ≤ c := by
  unfold Table at h
  rcases h.2 with ⟨_, h1⟩ | ⟨g, cap, cur, h1, hB, hh, hc, _⟩
  · omega
  · refine ⟨g, cap, h1, ?_, lt_of_blk hh, hB, hc⟩
    subst h1
    have := h.cells (g := g) rfl i (V i) (by simp [hi])
    rwa [Addr.add_lit, Nat.zero_add] at this
theorem Drew.kept {w w' : World} (h : Drew w w') (k : Nat) : w'.heap[k]? = w.heap[k]? := by obtain ⟨q, rfl⟩ := h; rfl
theorem Drew.size {w w' : World} (h : Drew w w') : w'.heap.size = w.heap.size := by obtain ⟨q, rfl⟩ := h; rfl
theorem Drew.trans {a b c : World} (h : Drew a b) (k : Drew b c) : Drew a c := by
  obtain ⟨q, rfl⟩ := h
  obtain ⟨r, rfl⟩ := k
  exact ⟨q + r, World.drewN_drewN _ _ _⟩
theorem Drew.mk (w : World) (k : Nat) : Drew w (w.drewN k) := ⟨k, rfl⟩
theorem KeptInts.drew {w w' : World} {B b m : Nat} {F V U : Nat → Value} {L : Nat → List Int} (h : KeptInts w B b F m V U L) (hd : Drew w w') : KeptInts w' B b F m V U L := h.below hd.below
theorem quiet_drew {P : Program} {f : FuncId} {args : Array Value} {w : World} {n : Nat} {v : Value} (h : Calls P f args (w.drewN n) fun e w' => e = .returned v ∧ Drew (w.drewN n) w') : Calls P f args (w.drewN n) fun e w'' => e = .returned v ∧ ∃ m, w'' = w.drewN m :=
  h.mono fun _ _ ⟨he, m, hm⟩ => ⟨he, n + m, by rw [hm, World.drewN_drewN]⟩

set_option maxRecDepth 100000 in
set_option maxHeartbeats 1000000 in
theorem stillInts_any (b B m : Nat) (F V U : Nat → Value) (L : Nat → List Int) (w : World) (h : KeptInts w B b F m V U L) (hm : m ≤ 250) (hL : ∀ i, i < m → (L i).length ≤ 1000000) :
    Calls Try.prog 30 #[.pointer (some ⟨b, 0, none⟩)] w fun e w' => e = .returned (.bool true) ∧ Drew w w' := by
  have HK := Lib.hid h
  obtain ⟨A2, c2, e2⟩ := own_form h.2.2.1
  obtain ⟨A3, c3, e3⟩ := own_form h.2.2.2.1
  have E2 := Lib.hid e2; have E3 := Lib.hid e3; have HL := Lib.hid hL
  clear h e2 e3 hL
  go_enter Try.func30, Try.ntmps30
  go_wp2_with fail
  go_loopw [3] (fun iv wr => ∃ i : Nat, i ≤ m ∧ iv = .int .i64 i ∧ Drew w wr) (fun iv _ => m - (intOf iv).toNat)
  case atStart => exact ⟨0, Nat.zero_le _, rfl, Drew.refl _⟩
  case round =>
    obtain ⟨i, hi, rfl, hd⟩ := hrel
    have hk := HK.out.drew hd
    have hc2 := hk.1.cell (i := 2) (by omega)
    have hc3 := hk.1.cell (i := 3) (by omega)
    by_cases hlt : i < m
    · obtain ⟨G2, d2, f2, g2, _⟩ := table_at hk.2.2.1 hlt
      obtain ⟨G3, d3, f3, g3, _⟩ := table_at hk.2.2.2.1 hlt
      rw [f2] at hc2
      rw [f3] at hc3
      have hV := hk.2.2.2.2.2.1.1 i hlt
      have hU := hk.2.2.2.2.2.2.1 i hlt
      have hll := HL.out i hlt
      obtain ⟨Av, cv, ev⟩ := own_form hV
      obtain ⟨Au, cu, eu⟩ := own_form hU
      rw [ev] at g2 hV
      rw [eu] at g3 hU
      have HV := Lib.hid (rd_of_own hV)
      have HU := Lib.hid (rd_of_own hU)
      have hiI : (i : Int) < (m : Int) := by omega
      have ht : (L i == L i) = true := by simp
      have HT := Lib.hid ht
      generalize (L i).length = n at *
      clear hk hV hU ev eu f2 f3 ht
      go_wp2_with fail
      go_quiet ((go_at_call 70; refine (quiet_drew (sameInts_any (L i) (L i) _ _ n n _ _ _ _ _ (HV.out.drewN _) (HU.out.drewN _) (by unfold maxLen; omega) (by unfold maxLen; omega)))))
      rw [HT.out]
      go_wp2
      exact ⟨⟨i + 1, by omega, by go_num, hd.trans (Drew.mk _ _)⟩, by simp [intOf]; omega⟩
    · rw [E2.out] at hc2
      clear hk hc3
      go_wp2
      go_ret
      exact ⟨rfl, hd⟩
end Go.Proofs.Ytehpecjnldbaiaa
