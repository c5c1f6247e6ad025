/-
  Gates of one row: what is set, told, asked of it.
-/
import Derived.Test.YtgoekobolomppaaGatesAll
namespace Go.Proofs.Ytgoekobolomppaa
open Go.RowKit

/-- What has one period of that state, and else what is open. -/
def oneT (en pe s : Int) : List Trio := if s = 0 then [] else [⟨en, pe, s⟩]
theorem find_one (en pe s : Int) : findT [⟨en, pe, s⟩] (en * 2000 + pe) = some ⟨en, pe, s⟩ := by simp [findT, Trio.key]
theorem pos_one (en pe s : Int) : posT [⟨en, pe, s⟩] (en * 2000 + pe) = 0 := by simp [posT, Trio.key, List.takeWhile]
theorem st_one {en pe : Int} (s : Int) (ho : okT en pe = true) : stT (oneT en pe s) en pe = s := by
  unfold stT oneT
  rw [if_pos ho]
  by_cases h : s = 0
  · subst h; rfl
  · rw [if_neg h, find_one]; rfl
theorem new_one (en pe s t : Int) : newT (oneT en pe s) en pe t = oneT en pe t := by
  unfold newT restT oneT
  by_cases h : s = 0
  · subst h; simp [posT, findT]
  · simp only [h, if_false]
    rw [pos_one, find_one]
    simp
theorem setE_one {en pe s t : Int} (ho : okT en pe = true) (h0 : 0 ≤ t) (h2 : t ≤ 2) : setE (oneT en pe s) en pe t = if s = 2 ∨ (t = 2 ∧ s ≠ 1) then 11 else 0 := by
  unfold setE
  rw [if_pos ⟨ho, h0, h2⟩, st_one s ho]
theorem set_one {en pe : Int} {B c : Nat} {v : Value} {w : World} {l : List Trio} (s t E r : Int) (ho : okT en pe = true) (h : GatesAt w B c v l) (hl : l = oneT en pe s) (h0 : 0 ≤ t) (h2 : t ≤ 2) (hE : E = (if s = 2 ∨ (t = 2 ∧ s ≠ 1) then 11 else 0) ∧ r = if E = 0 then t else s) :
    Calls Try.prog 8 #[.pointer (some ⟨c, 0, none⟩), .int .i64 en, .int .i64 pe, .int .i64 t] w fun e w' => e = .returned (.int .i64 E) ∧ GatesTo w B c v (oneT en pe r) w' := by
  subst hl
  have := set_any B c v _ en pe t w h
  have he := setE_one (s := s) ho h0 h2
  rw [← hE.1] at he
  unfold setT at this
  rw [he, new_one] at this
  rw [hE.2]
  split
  · rename_i hz
    rw [if_pos hz] at this
    exact this
  · rename_i hz
    rw [if_neg hz] at this
    exact this
theorem state_one {en pe : Int} {B c : Nat} {v : Value} {w : World} (s : Int) (ho : okT en pe = true) (h : GatesAt w B c v (oneT en pe s)) :
    Calls Try.prog 12 #[.pointer (some ⟨c, 0, none⟩), .int .i64 en, .int .i64 pe] w fun e w' => e = .returned (.int .i64 s) ∧ Below w.heap.size w w' := by
  have := state_any B c v _ en pe w h
  rwa [st_one s ho] at this
theorem may_one {en pe : Int} {B c : Nat} {v : Value} {w : World} (s m : Int) (ho : okT en pe = true) (h : GatesAt w B c v (oneT en pe s)) (hm : m = if s = 0 then 0 else 6) :
    Calls Try.prog 14 #[.pointer (some ⟨c, 0, none⟩), .int .i64 en, .int .i64 pe] w fun e w' => e = .returned (.int .i64 m) ∧ Below w.heap.size w w' := by
  have := may_any B c v _ en pe w h
  unfold mayT at this
  rw [if_pos ho, st_one s ho, ← hm] at this
  exact this
theorem gates_one (w : World) (en pe : Int) : GatesAt (w.alloc (.cells #[.slice none 0 0] 27)) w.heap.size w.heap.size (.slice none 0 0) (oneT en pe 0) := gates_new w
end Go.Proofs.Ytgoekobolomppaa
