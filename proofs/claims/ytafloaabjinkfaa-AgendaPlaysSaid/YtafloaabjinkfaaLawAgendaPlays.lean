/-
  The walk of the statement AgendaPlays.
-/
-- HOLE2: obtain ⟨fuel0, hf0⟩ := h0
-- obtain ⟨l0, q0, q1, q2⟩ := argOps hf0
-- exact agendaPlays_walk l0 a0 len0 cap0 W q0 q1 q2
import Derived.Test.YtafloaabjinkfaaAgPlayM
import Derived.Test.YtafloaabjinkfaaAgPlayE
import Derived.Test.YtafloaabjinkfaaArgItms
import Derived.Test.YtafloaabjinkfaaAgAlive
import Derived.Lib.SmallJoins
namespace Go.Proofs.Ytafloaabjinkfaa
open Go.RowKit Go.Sort

set_option maxRecDepth 100000 in
theorem argOps {H : Type} {enc : TypeId × Value → H} {w : World} {base : Nat} {spare : Nat → Bool} {held : Bool} {fuel : Nat} {A : Option Addr} {n c : Nat} {x : DataW H × List MemPlace}
    (h : DataW.trod enc Try.prog w base spare held fuel 22 (Value.cells (.slice A n c)).toList = some x) : ∃ l : List OpR, Rd w w.heap.size 3 A n (l.flatMap OpR.cells) ∧ (∀ o ∈ l, Rd w w.heap.size 3 o.A o.l.length (itms o.l)) ∧ n ≤ maxLen := by
  obtain ⟨l, q⟩ : ∃ l : List OpR, ArgRd OpR.cells 3 (fun o => Rd w w.heap.size 3 o.A o.l.length (itms o.l)) w A n c l :=
    argRd_of_trod _ 3 _ Try.underlying22 (by kernel_rfl) (by omega) (fun _ => rfl) (fun m cs y hy => by
      obtain ⟨xs, q, _, _, hl, hx, hf⟩ := DataW.trod_struct Try.underlying31 hy
      have hl : cs.length = 3 := hl.trans (by kernel_rfl)
      have hx : xs.length = 3 := hx
      match cs, hl with
      | [c0, c1, c2], _ =>
        obtain ⟨y0, h0⟩ := part_at (k := 1) (by kernel_rfl) (hf 0 _ rfl) (by omega)
        obtain ⟨y1, h1⟩ := part_at (k := 1) (by kernel_rfl) (hf 1 _ rfl) (by omega)
        obtain ⟨y2, h2⟩ := part_at (k := 1) (by kernel_rfl) (hf 2 _ rfl) (by omega)
        obtain ⟨n0, e0, _, w0⟩ := DataW.trod_int Try.underlying3 h0
        obtain ⟨n1, e1, _, w1⟩ := DataW.trod_int Try.underlying3 h1
        obtain ⟨A, n, c, e2⟩ := Joins.slice_form Try.underlying25 h2
        simp at e0 e1 e2
        subst e0 e1 e2
        obtain ⟨L, hL⟩ := argItms (A := A) (n := n) (c := c) (fuel := q) (x := y2) h2
        obtain rfl : L.length = n := hL.rd.itms_len
        exact ⟨⟨n0, n1, L, A, c⟩, rfl, hL.rd⟩) h
  exact ⟨l, q.rd, q.wf, q.len⟩
set_option maxRecDepth 100000 in
set_option maxHeartbeats 4000000 in
theorem agendaPlays_walk (l : List OpR) (A : Option Addr) (n c : Nat) (w : World) (hR : Rd w w.heap.size 3 A n (l.flatMap OpR.cells)) (hwf : ∀ o ∈ l, Rd w w.heap.size 3 o.A o.l.length (itms o.l)) (hn : n ≤ maxLen) :
    Calls Try.prog 3 #[.slice A n c] w fun e w' => e = .returned (.bool true) ∧ Below w.heap.size w w' := by
  unfold maxLen at hn
  have ka := Lib.hid alive8_any
  have HR := Lib.hid hR; have HWF := Lib.hid hwf
  clear hR hwf
  go_enter Try.func3, Try.ntmps3
  by_cases h1 : n ≤ 40
  · have h1I : ¬ (n : Int) > 40 := by omega
    go_wp2_with fail
    refine (ka.out _).mono ?_
    rintro e w2 ⟨rfl, hb2⟩
    have HB2 := Lib.hid hb2
    clear hb2
    obtain ⟨W3, hW3⟩ : ∃ W3, w2.alloc (.cells #[.slice none 0 0] 28) = W3 := ⟨_, rfl⟩
    have hb23 : Below w2.heap.size w2 W3 := by rw [← hW3]; exact (Below.refl _ _).alloc (Nat.le_refl _) _
    have h3 := ag_new w2
    rw [hW3] at h3
    have hb3 := HB2.out.trans (hb23.mono HB2.out.size)
    have h3 := h3.base HB2.out.size
    have HS : Hid (AgR w w2.heap.size [] (.slice none 0 0) W3) := ⟨_, h3, RefAt.nil_ _, hb3⟩
    have HW3 := Lib.hid hW3
    clear hW3 hb23 h3 hb3
    go_wp2_with fail
    rw [HW3.out]
    refine apLoop_any _ _ _ _ _ _ _ _ _ _ _ _ _ _ _ _ _ _ _ _ _ _ _ _ _ _ _ _ _ _ _ _ _ _ _ _ _ _ _ _ _ _ _ _ _ _ _ _ _ _ _ _ _ _ _ _ _ _ _ _ _ _ _ _ _ _ _ _ _ _ _ _ _ _ _ _ _ _ _ _ _ _ _ _ _ _ _ _ _ _ _ _ _ _ _ _ _ _ _ _ _ _ _ _ _ _ _ _ _ _ _ _ _ _ _ _ _ _ _ _ _ _ _ _ _ _ _ _ _ _ _ _ _ _ _ _ _ _ _ _ _ _ _ _ _ _ _ _ _ _ _ _ _ _ _ _ _ _ _ _ _ _ _ _ _ _ _ _ _ _ _ _ _ _ _ _ _ _ _ _ _ _ _ _ _ _ _ _ _ _ _ _ _ _ _ _ _ _ _ _ _ _ _ _ _ _ _ _ _ _ _ _ _ _ _ _ _ _ _ _ _ _ _ _ _ _ _ _ _ _ _ _ _ _ _ _ _ _ _ _ _ _ _ _ _ _ _ _ _ _ _ _ _ _ _ _ _ _ _ _ _ _ _ _ _ _ _ _ _ _ _ l A n c w2.heap.size _ w W3 HR.out HWF.out h1 HS.out ?_ ?_
    · intro u0 u1 u3 u4 u5 u6 u7 u8 u9 u10 u11 u12 u13 u14 u15 u16 u17 u18 u19 u20 u21 u22 u23 u24 u25 u26 u27 u28 u29 u30 u31 u32 u33 u34 u35 u36 u37 u38 u39 u40 u41 u42 u43 u44 u45 u46 u47 u48 u49 u50 u51 u52 u53 u54 u55 u56 u57 u58 u59 u60 u61 u62 u63 u64 u65 u66 u67 u68 u69 u70 u71 u72 u73 u74 u75 u76 u77 u78 u79 u80 u81 u82 u83 u84 u85 u86 u87 u88 u89 u90 u91 u92 u93 u94 u95 u96 u97 u98 u99 u100 u101 u102 u103 u104 u105 u106 u107 u108 u109 u110 u111 u112 u113 u114 u115 u116 u117 u118 u119 u120 u121 u122 u123 u124 u125 u126 u127 u128 u129 u130 u131 u132 u133 u134 u135 u136 u137 u138 u139 u140 u141 u142 u143 u144 u145 u146 u147 u148 u149 u150 u151 u152 u153 u154 u155 u156 u157 u158 u159 u160 u161 u162 u163 u164 u165 u166 u167 u168 u169 u170 u171 u172 u173 u174 u175 u176 u177 u178 u179 u180 u181 u182 u183 u184 u185 u186 u187 u188 u189 u190 u191 u192 u193 u194 u195 u196 u197 u198 u199 u200 u201 u202 u203 u204 u205 u206 u207 u208 u209 u210 u211 u212 u213 u214 u215 u216 u217 u218 u219 u220 u221 u222 u223 u224 u225 u226 u227 u228 u229 u230 u231 u232 u233 u234 u235 u236 u237 u238 u239 u240 u241 u242 u243 u244 u245 u246 u247 u248 u249 u250 u251 u252 u253 u254 u255 u256 u257 u258 u259 u260 u261 u262 u263 u264 u265 u266 u267 u268 u269 u270 u271 u272 u273 w' hb
      have HB := Lib.hid hb
      clear hb
      go_simp
      go_ret
      exact ⟨rfl, HB.out⟩
    · intro u0 u1 u2 u3 u4 u5 u6 u7 u8 u9 u10 u11 u12 u13 u14 u15 u16 u17 u18 u19 u20 u21 u22 u23 u24 u25 u26 u27 u28 u29 u30 u31 u32 u33 u34 u35 u36 u37 u38 u39 u40 u41 u42 u43 u44 u45 u46 u47 u48 u49 u50 u51 u52 u53 u54 u55 u56 u57 u58 u59 u60 u61 u62 u63 u64 u65 u66 u67 u68 u69 u70 u71 u72 u73 u74 u75 u76 u77 u78 u79 u80 u81 u82 u83 u84 u85 u86 u87 u88 u89 u90 u91 u92 u93 u94 u95 u96 u97 u98 u99 u100 u101 u102 u103 u104 u105 u106 u107 u108 u109 u110 u111 u112 u113 u114 u115 u116 u117 u118 u119 u120 u121 u122 u123 u124 u125 u126 u127 u128 u129 u130 u131 u132 u133 u134 u135 u136 u137 u138 u139 u140 u141 u142 u143 u144 u145 u146 u147 u148 u149 u150 u151 u152 u153 u154 u155 u156 u157 u158 u159 u160 u161 u162 u163 u164 u165 u166 u167 u168 u169 u170 u171 u172 u173 u174 u175 u176 u177 u178 u179 u180 u181 u182 u183 u184 u185 u186 u187 u188 u189 u190 u191 u192 u193 u194 u195 u196 u197 u198 u199 u200 u201 u202 u203 u204 u205 u206 u207 u208 u209 u210 u211 u212 u213 u214 u215 u216 u217 u218 u219 u220 u221 u222 u223 u224 u225 u226 u227 u228 u229 u230 u231 u232 u233 u234 u235 u236 u237 u238 u239 u240 u241 u242 u243 u244 u245 u246 u247 u248 u249 u250 u251 u252 u253 u254 u255 u256 u257 u258 u259 u260 u261 u262 u263 u264 u265 u266 u267 u268 u269 u270 u271 u272 u273 w' hb
      have HB := Lib.hid hb
      clear hb
      go_simp
      go_at_K
      go_wp2_with fail
      refine (agNext_nil _).mono ?_
      rintro e w1 ⟨rfl, hb1⟩
      have HB1 := Lib.hid (HB.out.trans (hb1.mono HB.out.size))
      clear hb1
      go_wp2_with fail
      obtain ⟨W2, hW2⟩ : ∃ W2, (w1.alloc (.cells #[.int .i64 0, .int .i64 0, .int .i64 0] 33)).alloc (.cells #[.int .i64 0, .int .i64 0, .int .i64 0] 33) = W2 := ⟨_, rfl⟩
      have HB2 : Hid (Below w.heap.size w W2) := by rw [← hW2]; exact (HB1.out.alloc HB1.out.size _).alloc (HB1.out.alloc HB1.out.size _).size _
      rw [hW2]
      clear hW2
      refine (agPut_nil _ _ _ _).mono ?_
      rintro e w2 ⟨rfl, rfl⟩
      go_wp2_with fail
      refine (agDue_nil 9 _).mono ?_
      rintro e w3 ⟨rfl, q, rfl⟩
      have HB3 := Lib.hid (below_drewN HB2.out q)
      generalize hW3 : W2.drewN q = W3 at *
      clear hW3
      go_wp2_with fail
      refine (agTake_nil 1 _).mono ?_
      rintro e w4 ⟨rfl, hb4⟩
      have HB4 := Lib.hid (HB3.out.trans (hb4.mono HB3.out.size))
      clear hb4
      go_wp2_with fail
      refine (agLen_nil _).mono ?_
      rintro e w5 ⟨rfl, rfl⟩
      go_wp2_with fail
      refine (agAll_nil _).mono ?_
      rintro e w6 ⟨rfl, rfl⟩
      go_wp2_with fail
      go_ret
      exact ⟨rfl, HB4.out⟩
  · have h1I : (n : Int) > 40 := by omega
    go_wp2_with fail
    refine (ka.out _).mono ?_
    rintro e w2 ⟨rfl, hb2⟩
    have HB2 := Lib.hid hb2
    clear hb2
    go_wp2_with fail
    go_ret
    exact ⟨rfl, HB2.out⟩
end Go.Proofs.Ytafloaabjinkfaa
