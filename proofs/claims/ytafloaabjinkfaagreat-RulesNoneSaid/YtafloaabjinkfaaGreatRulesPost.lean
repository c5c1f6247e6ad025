/-
  Contracts of rules' (Rules).Post, Amend, Void.
-/
import Derived.Test.YtafloaabjinkfaaGreatMany32
import Derived.Test.YtafloaabjinkfaaGreatMany12
namespace Go.Proofs.YtafloaabjinkfaaGreat
open Go.RowKit

def postFs : List FuncId := [41, 48, 49, 50, 51, 52, 53]
def amendFs : List FuncId := [41, 48, 49, 42, 60, 50, 51, 61, 62, 53]
def voidFs : List FuncId := [41, 42, 60, 64, 53]

/-- A journal that is handed in, in memory. -/
structure JrIn (w : World) (j : JR) : Prop where
  rd : Rd w w.heap.size 3 j.A j.j.lines.length (lins j.j.lines)
  nil : j.A = none → j.c = 0
  len : j.j.lines.length ≤ 1000
  ref : j.j.ref.size ≤ maxLen
theorem JrIn.below {w w' : World} {j : JR} (h : JrIn w j) (hb : Below w.heap.size w w') : JrIn w' j := ⟨(h.rd.below hb).wide hb.size, h.nil, h.len, h.ref⟩

section
variable {w w1 : World} {q r c g bk : Nat} {fs : List FuncId} {C : List Acc} {G : List Trio} {l : List JR} {id : Int} {j : JR} {N : List Jrn} {a b i : Nat}
theorem q_parts (h : WI w q r fs (ptr c) (ptr g) (ptr bk) id j (l.map JR.j) N a b 0 w1) (ha : 0 < a) (hb : 0 < b) :
    Calls Tryz.prog 41 #[.pointer (some ⟨q, 0, none⟩)] w1 fun e w2 => e = .returned (.int .i64 0) ∧ (0 = (0 : Int) → WI w q r fs (ptr c) (ptr g) (ptr bk) id j (l.map JR.j) N a b (0 + 1) w2) ∧ ((0 : Int) ≠ 0 → Below w.heap.size w w2) := by
  obtain ⟨tv, hw⟩ := h.2.1 (Nat.zero_le _)
  exact ask_quiet h (by omega) hb ((hasParts_any q _ _ _ tv id j zeroR w1 hw).mono fun e w2 hh => ⟨hh.1, hh.2 ▸ Below.refl _ _⟩)
/-- The wish, whatever was found. -/
theorem WI.at (h : WI w q r fs (ptr c) (ptr g) (ptr bk) id j (l.map JR.j) N a b i w1) (hi : i ≤ b) (hab : a ≤ b) : ∃ o tv, WishAt w1 q (ptr c) (ptr g) (ptr bk) id j o tv ∧ (a < i → o.j = oldJ (l.map JR.j) id) := by
  rcases Nat.lt_or_ge a i with h1 | h1
  · obtain ⟨o, tv, k1, k2, _⟩ := h.2.2.1 h1 hi
    exact ⟨o, tv, k2, fun _ => k1⟩
  · obtain ⟨tv, k⟩ := h.2.1 h1
    exact ⟨zeroR, tv, k, fun hx => by omega⟩
theorem q_mayBe (h : WI w q r fs (ptr c) (ptr g) (ptr bk) id j (l.map JR.j) N a b i w1) (hJ : JrIn w j) (hia : i ≠ a) (hib : i < b) (hab : a ≤ b) :
    Calls Tryz.prog 48 #[.pointer (some ⟨q, 0, none⟩)] w1 fun e w2 => e = .returned (.int .i64 (checkE j.j)) ∧ (checkE j.j = 0 → WI w q r fs (ptr c) (ptr g) (ptr bk) id j (l.map JR.j) N a b (i + 1) w2) ∧ (checkE j.j ≠ 0 → Below w.heap.size w w2) := by
  obtain ⟨o, tv, hw, _⟩ := h.at (Nat.le_of_lt hib) hab
  have hJ1 := hJ.below h.1.bel
  exact ask_quiet h hia hib (mayBe_any q w1.heap.size _ _ _ tv id j o w1 hw hJ1.rd (Nat.le_refl _) (by have := hJ.len; unfold maxLen; omega) hJ.ref)
theorem q_live (h : WI w q r fs (ptr c) (ptr g) (ptr bk) id j (l.map JR.j) N a b i w1) (hP : PartsAt w c g bk C G l) (hJ : JrIn w j) (hia : i ≠ a) (hib : i < b) (hab : a ≤ b) :
    Calls Tryz.prog 49 #[.pointer (some ⟨q, 0, none⟩)] w1 fun e w2 => e = .returned (.int .i64 (liveECh C (accts j.j.lines))) ∧ (liveECh C (accts j.j.lines) = 0 → WI w q r fs (ptr c) (ptr g) (ptr bk) id j (l.map JR.j) N a b (i + 1) w2) ∧ (liveECh C (accts j.j.lines) ≠ 0 → Below w.heap.size w w2) := by
  obtain ⟨o, tv, hw, _⟩ := h.at (Nat.le_of_lt hib) hab
  have hJ1 := hJ.below h.1.bel
  obtain ⟨B, v, hC⟩ := (hP.below h.1.bel).chart
  exact ask_quiet h hia hib (accountsAreLive_any q c B w1.heap.size v C _ _ tv id j o w1 hw hC hJ1.rd (Nat.le_refl _) (by have := hJ.len; omega))
theorem q_open (h : WI w q r fs (ptr c) (ptr g) (ptr bk) id j (l.map JR.j) N a b i w1) (hP : PartsAt w c g bk C G l) (hia : i ≠ a) (hib : i < b) (hab : a ≤ b) :
    Calls Tryz.prog 50 #[.pointer (some ⟨q, 0, none⟩)] w1 fun e w2 => e = .returned (.int .i64 (mayT G j.j.ent j.j.per)) ∧ (mayT G j.j.ent j.j.per = 0 → WI w q r fs (ptr c) (ptr g) (ptr bk) id j (l.map JR.j) N a b (i + 1) w2) ∧ (mayT G j.j.ent j.j.per ≠ 0 → Below w.heap.size w w2) := by
  obtain ⟨o, tv, hw, _⟩ := h.at (Nat.le_of_lt hib) hab
  obtain ⟨B, v, hG⟩ := (hP.below h.1.bel).gates
  exact ask_quiet h hia hib (periodIsOpen_any q g B _ _ tv v G id j o w1 hw hG)
theorem q_oldOpen (h : WI w q r fs (ptr c) (ptr g) (ptr bk) id j (l.map JR.j) N a b i w1) (hP : PartsAt w c g bk C G l) (hia : a < i) (hib : i < b) :
    Calls Tryz.prog 60 #[.pointer (some ⟨q, 0, none⟩)] w1 fun e w2 => e = .returned (.int .i64 (mayT G (oldJ (l.map JR.j) id).ent (oldJ (l.map JR.j) id).per)) ∧ (mayT G (oldJ (l.map JR.j) id).ent (oldJ (l.map JR.j) id).per = 0 → WI w q r fs (ptr c) (ptr g) (ptr bk) id j (l.map JR.j) N a b (i + 1) w2) ∧ (mayT G (oldJ (l.map JR.j) id).ent (oldJ (l.map JR.j) id).per ≠ 0 → Below w.heap.size w w2) := by
  obtain ⟨o, tv, hw, ho⟩ := h.at (Nat.le_of_lt hib) (by omega)
  obtain ⟨B, v, hG⟩ := (hP.below h.1.bel).gates
  rw [← ho hia]
  exact ask_quiet h (by omega) hib (oldPeriodIsOpen_any q g B _ _ tv v G id j o w1 hw hG)
theorem q_notVoid (h : WI w q r fs (ptr c) (ptr g) (ptr bk) id j (l.map JR.j) N a b i w1) (hia : i ≠ a) (hib : i < b) (hab : a ≤ b) :
    Calls Tryz.prog 51 #[.pointer (some ⟨q, 0, none⟩)] w1 fun e w2 => e = .returned (.int .i64 (if j.j.void = true then 1 else 0)) ∧ ((if j.j.void = true then (1 : Int) else 0) = 0 → WI w q r fs (ptr c) (ptr g) (ptr bk) id j (l.map JR.j) N a b (i + 1) w2) ∧ ((if j.j.void = true then (1 : Int) else 0) ≠ 0 → Below w.heap.size w w2) := by
  obtain ⟨o, tv, hw, _⟩ := h.at (Nat.le_of_lt hib) hab
  exact ask_quiet h hia hib ((isNotVoid_any q _ _ _ tv id j o w1 hw).mono fun e w2 hh => ⟨hh.1, hh.2 ▸ Below.refl _ _⟩)
theorem q_keeps (h : WI w q r fs (ptr c) (ptr g) (ptr bk) id j (l.map JR.j) N a b i w1) (hia : a < i) (hib : i < b) :
    Calls Tryz.prog 61 #[.pointer (some ⟨q, 0, none⟩)] w1 fun e w2 => e = .returned (.int .i64 (if j.j.ent = (oldJ (l.map JR.j) id).ent then 0 else 1)) ∧ ((if j.j.ent = (oldJ (l.map JR.j) id).ent then (0 : Int) else 1) = 0 → WI w q r fs (ptr c) (ptr g) (ptr bk) id j (l.map JR.j) N a b (i + 1) w2) ∧ ((if j.j.ent = (oldJ (l.map JR.j) id).ent then (0 : Int) else 1) ≠ 0 → Below w.heap.size w w2) := by
  obtain ⟨o, tv, hw, ho⟩ := h.at (Nat.le_of_lt hib) (by omega)
  rw [← ho hia]
  exact ask_quiet h (by omega) hib (keepsEntity_any q _ _ _ tv id j o w1 hw)
end

theorem post_steps {w : World} {q r c g bk : Nat} {C : List Acc} {G : List Trio} {l : List JR} {j : JR} (hP : PartsAt w c g bk C G l) (hJ : JrIn w j) :
    ∀ i F x w1, postFs[i]? = some F → (postsE C G (l.map JR.j) j.j)[i]? = some x → WI w q r postFs (ptr c) (ptr g) (ptr bk) j.j.id j (l.map JR.j) (postL (l.map JR.j) j.j) 5 5 i w1 →
      Calls Tryz.prog F #[.pointer (some ⟨q, 0, none⟩)] w1 fun e w2 => e = .returned (.int .i64 x) ∧ (x = 0 → WI w q r postFs (ptr c) (ptr g) (ptr bk) j.j.id j (l.map JR.j) (postL (l.map JR.j) j.j) 5 5 (i + 1) w2) ∧ (x ≠ 0 → Below w.heap.size w w2) := by
  intro i F x w1 hF hx h
  match i with
  | 0 =>
    obtain rfl := Option.some.inj hF; obtain rfl := Option.some.inj hx
    exact q_parts h (by omega) (by omega)
  | 1 =>
    obtain rfl := Option.some.inj hF; obtain rfl := Option.some.inj hx
    exact q_mayBe h hJ (by omega) (by omega) (by omega)
  | 2 =>
    obtain rfl := Option.some.inj hF; obtain rfl := Option.some.inj hx
    exact q_live h hP hJ (by omega) (by omega) (by omega)
  | 3 =>
    obtain rfl := Option.some.inj hF; obtain rfl := Option.some.inj hx
    exact q_open h hP (by omega) (by omega) (by omega)
  | 4 =>
    obtain rfl := Option.some.inj hF; obtain rfl := Option.some.inj hx
    exact q_notVoid h (by omega) (by omega) (by omega)
  | 5 =>
    obtain rfl := Option.some.inj hF; obtain rfl := Option.some.inj hx
    obtain ⟨tv, hw⟩ := h.2.1 (Nat.le_refl _)
    obtain ⟨B, v, hT⟩ := (hP.below h.1.bel).book
    have hJ1 := hJ.below h.1.bel
    exact ask_tries h (Nat.le_refl _) (posts_any q B bk w.heap.size v l _ _ tv _ j zeroR w1 hw hT (hJ.rd.below h.1.bel) h.1.low hJ.nil (by have := hJ.len; unfold maxLen; omega) hJ.ref)
  | 6 =>
    obtain rfl := Option.some.inj hF; obtain rfl := Option.some.inj hx
    exact ask_fits h (Nat.le_refl _)
  | n + 7 => cases hF
theorem amend_steps {w : World} {q r c g bk : Nat} {C : List Acc} {G : List Trio} {l : List JR} {j : JR} (hP : PartsAt w c g bk C G l) (hJ : JrIn w j) :
    ∀ i F x w1, amendFs[i]? = some F → (amendsE C G (l.map JR.j) j.j)[i]? = some x → WI w q r amendFs (ptr c) (ptr g) (ptr bk) j.j.id j (l.map JR.j) (amendL (l.map JR.j) j.j) 3 8 i w1 →
      Calls Tryz.prog F #[.pointer (some ⟨q, 0, none⟩)] w1 fun e w2 => e = .returned (.int .i64 x) ∧ (x = 0 → WI w q r amendFs (ptr c) (ptr g) (ptr bk) j.j.id j (l.map JR.j) (amendL (l.map JR.j) j.j) 3 8 (i + 1) w2) ∧ (x ≠ 0 → Below w.heap.size w w2) := by
  intro i F x w1 hF hx h
  match i with
  | 0 =>
    obtain rfl := Option.some.inj hF; obtain rfl := Option.some.inj hx
    exact q_parts h (by omega) (by omega)
  | 1 =>
    obtain rfl := Option.some.inj hF; obtain rfl := Option.some.inj hx
    exact q_mayBe h hJ (by omega) (by omega) (by omega)
  | 2 =>
    obtain rfl := Option.some.inj hF; obtain rfl := Option.some.inj hx
    exact q_live h hP hJ (by omega) (by omega) (by omega)
  | 3 =>
    obtain rfl := Option.some.inj hF; obtain rfl := Option.some.inj hx
    exact ask_finds h hP (by omega)
  | 4 =>
    obtain rfl := Option.some.inj hF; obtain rfl := Option.some.inj hx
    exact q_oldOpen h hP (by omega) (by omega)
  | 5 =>
    obtain rfl := Option.some.inj hF; obtain rfl := Option.some.inj hx
    exact q_open h hP (by omega) (by omega) (by omega)
  | 6 =>
    obtain rfl := Option.some.inj hF; obtain rfl := Option.some.inj hx
    exact q_notVoid h (by omega) (by omega) (by omega)
  | 7 =>
    obtain rfl := Option.some.inj hF; obtain rfl := Option.some.inj hx
    exact q_keeps h (by omega) (by omega)
  | 8 =>
    obtain rfl := Option.some.inj hF; obtain rfl := Option.some.inj hx
    obtain ⟨o, tv, _, hw, _⟩ := h.2.2.1 (by omega) (Nat.le_refl _)
    obtain ⟨B, v, hT⟩ := (hP.below h.1.bel).book
    exact ask_tries h (by omega) (amends_any q B bk w.heap.size v l _ _ tv _ j o w1 hw hT (hJ.rd.below h.1.bel) h.1.low hJ.nil (by have := hJ.len; unfold maxLen; omega) hJ.ref)
  | 9 =>
    obtain rfl := Option.some.inj hF; obtain rfl := Option.some.inj hx
    exact ask_fits h (by omega)
  | n + 10 => cases hF
theorem void_steps {w : World} {q r c g bk : Nat} {C : List Acc} {G : List Trio} {l : List JR} {id : Int} (hP : PartsAt w c g bk C G l) :
    ∀ i F x w1, voidFs[i]? = some F → (voidsE G (l.map JR.j) id)[i]? = some x → WI w q r voidFs (ptr c) (ptr g) (ptr bk) id zeroR (l.map JR.j) (voidL (l.map JR.j) id) 1 3 i w1 →
      Calls Tryz.prog F #[.pointer (some ⟨q, 0, none⟩)] w1 fun e w2 => e = .returned (.int .i64 x) ∧ (x = 0 → WI w q r voidFs (ptr c) (ptr g) (ptr bk) id zeroR (l.map JR.j) (voidL (l.map JR.j) id) 1 3 (i + 1) w2) ∧ (x ≠ 0 → Below w.heap.size w w2) := by
  intro i F x w1 hF hx h
  match i with
  | 0 =>
    obtain rfl := Option.some.inj hF; obtain rfl := Option.some.inj hx
    exact q_parts h (by omega) (by omega)
  | 1 =>
    obtain rfl := Option.some.inj hF; obtain rfl := Option.some.inj hx
    exact ask_finds h hP (by omega)
  | 2 =>
    obtain rfl := Option.some.inj hF; obtain rfl := Option.some.inj hx
    exact q_oldOpen h hP (by omega) (by omega)
  | 3 =>
    obtain rfl := Option.some.inj hF; obtain rfl := Option.some.inj hx
    obtain ⟨o, tv, _, hw, _⟩ := h.2.2.1 (by omega) (Nat.le_refl _)
    obtain ⟨B, v, hT⟩ := (hP.below h.1.bel).book
    exact ask_tries h (by omega) (voids_any q B bk v l _ _ tv id zeroR o w1 hw hT)
  | 4 =>
    obtain rfl := Option.some.inj hF; obtain rfl := Option.some.inj hx
    exact ask_fits h (by omega)
  | n + 5 => cases hF
end Go.Proofs.YtafloaabjinkfaaGreat

