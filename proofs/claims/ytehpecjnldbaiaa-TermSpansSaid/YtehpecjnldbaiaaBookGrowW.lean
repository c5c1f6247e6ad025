/-
  The statements' book: growInts and markedInts.
-/
import Derived.Test.YtehpecjnldbaiaaBookGrow
namespace Go.Proofs.Ytehpecjnldbaiaa
open Go.RowKit

theorem ginv_start {w : World} {B b m : Nat} {F V : Nat → Value} {N : Nat → Nat} (h : KeptV w B b F m V (fun j => markL j 0 (N j))) (G : Nat → Value) : GInv w w B b F m V N 0 (.slice none 0 0) G :=
  ⟨h.1, h.2.1, h.1.lt, h.2.2.1, own_lt h.2.2.1, h.2.2.2, fun j hj => own_lt (h.2.2.2.1 j hj), World.ownsRow_nil _ _ _ _, (fun k h => by cases h), (fun j h => by omega), (fun j h => by omega), Below.refl _ _⟩

set_option maxRecDepth 100000 in
set_option maxHeartbeats 1000000 in
theorem growInts_any (b B m : Nat) (F V : Nat → Value) (N : Nat → Nat) (w : World) (h : KeptV w B b F m V (fun j => markL j 0 (N j))) (hm : m ≤ 250) (hN : ∀ i, i < m → N i ≤ 1000000) :
    Calls Try.prog 50 #[.pointer (some ⟨b, 0, none⟩)] w fun e w' => ∃ A c G, e = .returned (.slice A m c) ∧ GInv w w' B b F m V N m (.slice A m c) G := by
  have HG0 := Lib.hid (ginv_start h (fun _ => .slice none 0 0))
  have HN := Lib.hid hN
  obtain ⟨A2, c2, e2⟩ := own_form h.2.2.1
  have E2 := Lib.hid e2
  clear h hN e2
  go_enter Try.func50, Try.ntmps50
  go_wp2_with fail
  go_loopw [3, 4] (fun ov iv wr => ∃ (i : Nat) (A : Option Addr) (c : Nat) (G : Nat → Value), i ≤ m ∧ iv = .int .i64 i ∧ ov = .slice A i c ∧ GInv w wr B b F m V N i (.slice A i c) G) (fun _ iv _ => m - (intOf iv).toNat)
  case atStart => exact ⟨0, none, 0, _, Nat.zero_le _, rfl, rfl, HG0.out⟩
  case round =>
    obtain ⟨i, A, c, G, hi, rfl, rfl, hg⟩ := hrel
    have hc2 := hg.book.cell (i := 2) (by omega)
    have HG := Lib.hid hg
    by_cases hlt : i < m
    · obtain ⟨G2, d2, f2, g2, _⟩ := table_at hg.tab hlt
      rw [f2] at hc2
      have hl := linv_start hlt hg
      obtain ⟨Av, cv, ev⟩ := own_form hl.own
      rw [ev] at g2 hl
      have HLI := Lib.hid hl
      have hni := HN.out i hlt
      have hiI : (i : Int) < (m : Int) := by omega
      clear hg f2 hl ev
      obtain ⟨wo, hwo⟩ : ∃ z, z = wr := ⟨_, rfl⟩
      subst hwo
      generalize hnn : N i = n at *
      have HNN := Lib.hid hnn
      clear hnn
      go_wp2_with fail
      go_loopw [5, 6] (fun lv tv wr => ∃ (t : Nat) (Al : Option Addr) (cl : Nat), t ≤ 12 ∧ tv = .int .i64 t ∧ lv = .slice Al (n + t) cl ∧ LInv w wr B b F m V N i (.slice A i c) G wo.heap.size (.slice Al (n + t) cl) (n + t)) (fun _ tv _ => 12 - (intOf tv).toNat)
      case atStart => exact ⟨0, Av, cv, by omega, rfl, rfl, HLI.out⟩
      case round =>
        obtain ⟨t, Al, cl, ht, rfl, rfl, hl⟩ := hrel
        have HL := Lib.hid hl
        by_cases ht12 : t < 12
        · clear hl
          have ec : ((n + t : Nat) : Int) = (n : Int) + (t : Int) := by omega
          go_wp2_with fail
          rw [show ((n : Int) + (t : Int)) = ((n + t : Nat) : Int) from by omega, show (1 : Int) = ((1 : Nat) : Int) from rfl]
          refine (markInts_any i (n + t) 1 wr (by omega) (by omega) (by omega)).mono ?_
          rintro e w1 ⟨Am, cm, rfl, hmm, hb1⟩
          have hz1 := hb1.size
          have hbl := HL.out.inv.book.lt
          have hlow := HL.out.inv.low
          obtain ⟨v', w2, hrun, hown, hgw, hp, hst⟩ := append_strong (P := Try.prog) (ty := 47) (c := cm) infoInt Try.underlying47 rfl (by omega) B (.slice Al (n + t) cl) (n + t) _ (own_kept HL.out.own fun k hk _ => hb1.block k hk) (rd_of_own hmm) (ints_one _ _) (by unfold maxLen; omega) (by omega) (by omega)
          have HL2 := Lib.hid (linv_step hlt HL.out hb1 hown hgw hp hst)
          obtain ⟨A', c', rfl⟩ := own_form hown
          have HR := Lib.hid hrun
          clear hrun hown hgw hp hst hmm hb1
          go_wp2_with (at_builtin; refine wpList_append_run rfl _ _ _ rfl _ _ _ _ rfl rfl HR.out ?_)
          exact ⟨⟨t + 1, A', c', by omega, by go_num, rfl, HL2.out⟩, by simp [intOf]; omega⟩
        · obtain rfl : t = 12 := by omega
          clear hl
          go_wp2_with fail
          rw [show ((n : Int) + 12) = ((n + 12 : Nat) : Int) from by omega, show (60 : Int) = ((60 : Nat) : Int) from rfl]
          refine (markInts_any i (n + 12) 60 wr (by omega) (by omega) (by omega)).mono ?_
          rintro e w1 ⟨Am, cm, rfl, hmm, hb1⟩
          have hz1 := hb1.size
          have hbl := HL.out.inv.book.lt
          have hlow := HL.out.inv.low
          obtain ⟨v', w2, hrun, hown, hgw, hp, hst⟩ := append_strong (P := Try.prog) (ty := 47) (c := cm) infoInt Try.underlying47 rfl (by omega) B (.slice Al (n + 12) cl) (n + 12) _ (own_kept HL.out.own fun k hk _ => hb1.block k hk) (rd_of_own hmm) (ints_one _ _) (by unfold maxLen; omega) (by omega) (by omega)
          have HL2 := Lib.hid (linv_step hlt HL.out hb1 hown hgw hp hst)
          obtain ⟨A', c', rfl⟩ := own_form hown
          have HR := Lib.hid hrun
          obtain ⟨v3, w3, hrun3, ht3, hsz3, hk3, hv3, ho1, ho2, ho3⟩ := table_push HL2.out.inv.out (.slice A' (n + 12 + 60) c') rfl (by omega) (by have := HL2.out.inv.book.lt; omega)
          have HG3 : Hid (GInv w w3 B b F m V N (i + 1) v3 (upd G i (.slice A' (n + 12 + 60) c'))) := linv_done hlt (by have := HL2.out; rw [HNN.out]; exact this) ht3 (by simp at hsz3; omega) hk3 hv3 ho1 ho2 ho3
          obtain ⟨A3, c3, rfl⟩ := own_form ht3
          have HR3 := Lib.hid hrun3
          clear hrun hown hgw hp hst hmm hb1 hrun3 ht3 hsz3 hk3 hv3 ho1 ho2 ho3
          go_wp2_with (at_builtin; first | refine wpList_append_run rfl _ _ _ rfl _ _ _ _ rfl rfl HR.out ?_ | refine wpList_append_run rfl _ _ _ rfl _ _ _ _ rfl rfl HR3.out ?_)
          exact ⟨⟨i + 1, A3, c3, _, by omega, by go_num, rfl, HG3.out⟩, by simp [intOf]; omega⟩
    · rw [E2.out] at hc2
      obtain rfl : i = m := by omega
      clear hg
      go_wp2
      go_ret
      exact ⟨A, c, G, rfl, HG.out⟩
end Go.Proofs.Ytehpecjnldbaiaa
