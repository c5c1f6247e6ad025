/-
  The walk of the statement ChartPlays.
-/
-- HOLE2: obtain ⟨fuel0, hf0⟩ := h0
-- obtain ⟨l0, q0⟩ := argAccs hf0
-- obtain ⟨fuel1, hf1⟩ := h1
-- obtain ⟨l1, q1⟩ := argOps hf1
-- obtain ⟨fuel2, hf2⟩ := h2
-- obtain ⟨l2, q2⟩ := argInts hf2
-- obtain ⟨fuel3, hf3⟩ := h3
-- obtain ⟨l3, q3⟩ := argInts hf3
-- exact chartPlays_walk l0 l1 l2 l3 a0 a1 a2 a3 len0 len1 len2 len3 cap0 cap1 cap2 cap3 W q0.rd q1.rd q2.ints q3.ints q0.len q1.len q2.len q3.len
import Derived.Test.YtaliipcgekhepaaGreatChartPlaysOuter
import Derived.Test.YtaliipcgekhepaaGreatMany8
namespace Go.Proofs.YtaliipcgekhepaaGreat
open Go.RowKit

instance : Inhabited COp := ⟨⟨0, 0, 0⟩⟩
def COp.wf (_ : COp) : Prop := True
set_option maxRecDepth 100000 in
theorem argOps {H : Type} {enc : TypeId × Value → H} {w : World} {base : Nat} {spare : Nat → Bool} {held : Bool} {fuel : Nat} {A : Option Addr} {n c : Nat} {x : DataW H × List MemPlace}
    (h : DataW.trod enc Tryz.prog w base spare held fuel 23 (Value.cells (.slice A n c)).toList = some x) : ∃ l : List COp, ArgRd COp.cells 3 COp.wf w A n c l :=
  argRd_of_trod _ 3 COp.wf Tryz.underlying23 (by kernel_rfl) (by omega) (fun _ => rfl) (fun m cs y hy => by
    obtain ⟨xs, q, _, _, hl, hx, hf⟩ := DataW.trod_struct Tryz.underlying50 hy
    have hl : cs.length = 3 := hl.trans (by kernel_rfl)
    have hx : xs.length = 3 := hx
    match cs, hl with
    | [c0, c1, c2], _ =>
      obtain ⟨y0, h0⟩ := part_at (k := 1) (by kernel_rfl) (hf 0 _ rfl) (by omega)
      obtain ⟨y1, h1⟩ := part_at (k := 1) (by kernel_rfl) (hf 1 _ rfl) (by omega)
      obtain ⟨y2, h2⟩ := part_at (k := 1) (by kernel_rfl) (hf 2 _ rfl) (by omega)
      obtain ⟨n0, e0, _, w0⟩ := DataW.trod_int Tryz.underlying3 h0
      obtain ⟨n1, e1, _, w1⟩ := DataW.trod_int Tryz.underlying3 h1
      obtain ⟨n2, e2, _, w2⟩ := DataW.trod_int Tryz.underlying3 h2
      simp at e0 e1 e2
      subst e0 e1 e2
      exact ⟨⟨n0, n1, n2⟩, rfl, trivial⟩) h

set_option maxRecDepth 100000 in
set_option maxHeartbeats 4000000 in
theorem chartPlays_walk (first : List Acc) (ops : List COp) (ask kinds : List Int) (A0 A1 A2 A3 : Option Addr) (n0 n1 n2 n3 c0 c1 c2 c3 : Nat) (w : World) (h0 : Rd w w.heap.size 3 A0 n0 (accs first)) (h1 : Rd w w.heap.size 3 A1 n1 (ops.flatMap COp.cells)) (h2 : Rd w w.heap.size 1 A2 n2 (ints .i64 ask)) (h3 : Rd w w.heap.size 1 A3 n3 (ints .i64 kinds))
    (hm0 : n0 ≤ maxLen) (hm1 : n1 ≤ maxLen) (hm2 : n2 ≤ maxLen) (hm3 : n3 ≤ maxLen) :
    Calls Tryz.prog 3 #[.slice A0 n0 c0, .slice A1 n1 c1, .slice A2 n2 c2, .slice A3 n3 c3] w fun e w' => e = .returned (.bool true) ∧ Below w.heap.size w w' := by
  unfold maxLen at hm0 hm1 hm2 hm3
  have H0 := Lib.hid h0; have H1 := Lib.hid h1; have H2 := Lib.hid h2; have H3 := Lib.hid h3
  have HL0 := Lib.hid h0.accs_len
  clear h0 h1 h2 h3
  have early : (20 < n0 ∨ ¬ 20 < n0 ∧ 40 < n1 ∨ ¬ 20 < n0 ∧ ¬ 40 < n1 ∧ 12 < n2 ∨ ¬ 20 < n0 ∧ ¬ 40 < n1 ∧ ¬ 12 < n2 ∧ 12 < n3) ∨ (n0 ≤ 20 ∧ n1 ≤ 40 ∧ n2 ≤ 12 ∧ n3 ≤ 12) := by omega
  rcases early with hcase | ⟨g0, g1, g2, g3⟩
  · exact chartPlays_early A0 A1 A2 A3 n0 n1 n2 n3 c0 c1 c2 c3 w (by omega) (by omega) (by omega) (by omega) hcase
  clear hm0 hm1 hm2 hm3
  go_enter Tryz.func3, Tryz.ntmps3
  go_wp2_with fail
  refine (alive_any w).mono ?_
  rintro e w1 ⟨rfl, hb1⟩
  have hz1 := hb1.size
  have HB1 := Lib.hid hb1
  clear hb1
  go_wp2_with fail
  refine (lentAccounts_any first A0 n0 c0 _ w1 (H0.out.below HB1.out) (by omega)).mono ?_
  rintro e w2 ⟨g, cap, rfl, hlent, hb2⟩
  have hz2 := hb2.size
  have HB2 : Hid (Below w.heap.size w w2) := HB1.out.trans (hb2.mono hz1)
  have HLT := Lib.hid hlent
  have hlr := hlent.rd
  rw [HL0.out] at hlr
  have kn := Lib.hid (new_any first _ n0 cap _ w2 hlr (Nat.le_refl _) (by omega))
  clear hb2 hlent hlr
  go_wp2_with fail
  refine kn.out.mono ?_
  rintro e w3 ⟨hb3, hpost⟩
  have hz3 := hb3.size
  have HB3 : Hid (Below w.heap.size w w3) := HB2.out.trans (hb3.mono (Nat.le_trans hz1 hz2))
  have HLT3 := Lib.hid (HLT.out.below hb3)
  clear hb3 HLT kn
  have hres : ∃ cp ev, e = .returned (.tuple #[.pointer cp, .int .i64 ev]) ∧ ev = newE first ∧ (cp = none ∧ newE first ≠ 0 ∨ cp = some ⟨w2.heap.size, 0, none⟩ ∧ newE first = 0) := by
    rcases hpost with ⟨hn, rfl⟩ | ⟨hn, rfl, _⟩
    · exact ⟨none, _, rfl, rfl, .inl ⟨rfl, hn⟩⟩
    · exact ⟨_, _, rfl, hn.symm, .inr ⟨rfl, hn⟩⟩
  obtain ⟨cp, ev, rfl, hev, hcp⟩ := hres
  have HEV := Lib.hid hev
  have HCP := Lib.hid hcp
  have HPOST := Lib.hid hpost
  clear hev hcp hpost
  go_wp2_with fail
  go_loopw [12, 13, 14] (fun rv bv iv wr => ∃ j : Nat, j ≤ n0 ∧ iv = .int .i64 j ∧ Head w3 wr first j rv bv) (fun _ _ iv _ => n0 - (intOf iv).toNat)
  case atStart => exact ⟨0, Nat.zero_le _, rfl, Below.refl _ _, .inl ⟨rfl, rfl, none, 0, rfl, World.ownsRow_nil _ _ _ _⟩⟩
  case round =>
    obtain ⟨j, hj, rfl, hbel, hhead⟩ := hrel
    have hzr := hbel.size
    have HBr := Lib.hid hbel
    clear hbel
    rcases hhead with ⟨rfl, hE0, A, c, rfl, hown⟩ | ⟨rfl, hE0⟩
    · have hgl := (newL_good (first.take j)).len
      have HOWN := Lib.hid hown
      have HE0 := Lib.hid hE0
      clear hown hE0
      generalize hM : (newL (first.take j)).length = M at *
      have HM := Lib.hid hM
      clear hM
      by_cases hlt : j < n0
      · obtain ⟨ad, a, rfl, hb1, hx, p1, p2, p3⟩ := ((H0.out.below HB3.out).far HBr.out (by omega)).acc hlt
        have p2' := cell_behind p2 (by omega)
        have p3' := cell_behind p3 (by omega)
        have HST := Lib.hid (new_step hx HE0.out)
        have hjn : (j : Int) < (n0 : Int) := by omega
        have kr := Lib.hid (refAdd_any (newL (first.take j)) a A M c w3.heap.size wr HOWN.out hzr (by omega) (newL_good _))
        clear hx p2 p3
        obtain ⟨x1, x2, x3⟩ := a
        generalize hE : addE (newL (first.take j)) ⟨x1, x2, x3⟩ = E at *
        go_wp2_with fail
        refine kr.out.mono ?_
        rintro e w5 ⟨A5, c5, rfl, ho5, _, hb5⟩
        have HB5 : Hid (Below w3.heap.size w3 w5) := HBr.out.trans (hb5.mono hzr)
        have HO5 := Lib.hid ho5
        clear hb5 ho5
        go_wp2
        refine ⟨⟨j + 1, by omega, by go_num, HB5.out, ?_⟩, by simp [intOf]; omega⟩
        by_cases h0 : E = 0
        · subst h0
          obtain ⟨q1, q2⟩ := HST.out.1 rfl
          refine .inl ⟨rfl, q1, A5, c5, ?_, ?_⟩
          · rw [q2]
          · rw [q2]; exact HO5.out
        · exact .inr ⟨by rw [HST.out.2 h0], by rw [HST.out.2 h0]; exact h0⟩
      · obtain rfl : j = n0 := by omega
        have htk : first.take j = first := List.take_of_length_le (by have := HL0.out; omega)
        have HE : Hid (newE first = 0) := by have := HE0.out; rwa [htk] at this
        obtain ⟨v, hch⟩ : ∃ v, ChartAt w3 w2.heap.size w2.heap.size v (newL first) := by
          rcases HPOST.out with ⟨hn, _⟩ | ⟨_, _, v, hv⟩
          · exact absurd HE.out hn
          · exact ⟨v, hv⟩
        rcases HCP.out with ⟨_, hne⟩ | ⟨rfl, _⟩
        · exact absurd HE.out hne
        obtain rfl : ev = 0 := HEV.out.trans HE.out
        rw [htk] at HOWN HM
        have HCH := Lib.hid ((hch.below HBr.out).base (B' := w.heap.size) (by omega))
        have ks := Lib.hid (staysAccounts_any first first A0 j j c0 _ _ g cap wr (HLT3.out.below HBr.out) HL0.out ((H0.out.below HB3.out).far HBr.out (by omega)) (by omega) (by omega))
        have HOWN2 := Lib.hid (own_base HOWN.out (B' := w.heap.size) (by omega))
        have HSEP : Hid (∀ k, v.ownBlock = some k → (Value.slice A M c).ownBlock ≠ some k) := fun k hk e => by
          have h1 := own_lt hch.own k hk
          have h2 := own_ge HOWN.out k e
          omega
        have HBw : Hid (Below w.heap.size w wr) := HB3.out.trans (HBr.out.mono (by omega))
        have hzw := HBw.out.size
        clear hch HE0 HE HEV HCP HPOST HOWN HLT3 htk HB1 HB2 HBr
        generalize newL first = l at *
        go_wp2_with fail
        refine ks.out.mono ?_
        rintro e w5 ⟨rfl, q, rfl⟩
        rw [show (first == first) = true by simp]
        have HPL : Hid (Play w ((wr.drewN q).alloc (.cells #[.slice none 0 0, .slice none 0 0, .slice none 0 0, .slice none 0 0, .slice none 0 0, .slice none 0 0, .slice none 0 0, .slice none 0 0, .slice none 0 0, .slice none 0 0, .slice none 0 0, .slice none 0 0, .slice none 0 0, .slice none 0 0, .slice none 0 0, .slice none 0 0, .slice none 0 0, .slice none 0 0, .slice none 0 0, .slice none 0 0] 48)) wr.heap.size (.pointer (some ⟨w2.heap.size, 0, none⟩)) (.slice A M c) 0) := by
          have hB5 : Below wr.heap.size wr ((wr.drewN q).alloc (.cells #[.slice none 0 0, .slice none 0 0, .slice none 0 0, .slice none 0 0, .slice none 0 0, .slice none 0 0, .slice none 0 0, .slice none 0 0, .slice none 0 0, .slice none 0 0, .slice none 0 0, .slice none 0 0, .slice none 0 0, .slice none 0 0, .slice none 0 0, .slice none 0 0, .slice none 0 0, .slice none 0 0, .slice none 0 0, .slice none 0 0] 48)) := (below_drewN (Below.refl _ _) q).alloc (Nat.le_refl _) _
          have hM := HM.out
          subst hM
          exact ⟨HBw.out.trans (hB5.mono hzw), w2.heap.size, v, l, A, c, rfl, rfl, HCH.out.below hB5, own_kept HOWN2.out fun k hk _ => hB5.block k hk, HSEP.out, KeptAI.new (heap_new _ _) hzw⟩
        clear HCH HOWN2 HSEP ks
        go_wp2_with fail
        refine cpOuter_any _ _ _ _ _ _ _ _ _ _ _ _ _ _ _ _ _ _ _ _ _ _ _ _ _ _ _ _ _ _ _ _ _ _ _ _ _ _ _ _ _ _ _ _ _ _ _ _ _ _ _ _ _ _ _ _ _ _ _ _ _ _ _ _ _ _ _ _ _ _ _ _ _ _ _ _ _ _ _ _ _ _ _ _ _ _ _ _ _ _ _ _ _ _ _ _ _ _ _ _ _ _ _ _ _ _ _ _ _ _ _ _ _ _ _ _ _ _ _ _ _ _ _ _ _ _ _ _ _ _ _ _ _ _ _ _ _ _ _ _ _ _ _ _ _ _ _ _ _ _ _ _ _ _ _ _ _ _ _ _ _ _ _ _ _ _ _ _ _ _ _ _ _ _ _ _ _ _ _ _ _ _ _ _ _ _ _ _ _ _ _ _ _ _ _ _ _ _ _ _ _ _ _ _ _ _ _ _ _ _ _ _ _ _ _ _ _ _ _ _ _ _ _ _ _ _ _ _ _ _ _ _ _ _ _ _ _ _ _ _ _ _ _ _ _ _ _ _ _ _ _ _ _ _ _ _ _ _ _ _ _ _ _ _ _ _ _ _ _ _ _ _ _ _ _ _ _ _ _ _ _ _ _ _ _ _ _ _ _ _ _ _ _ _ _ _ _ _ _ _ _ _ _ _ _ _ _ _ _ _ _ _ _ _ _ _ _ _ _ _ _ _ _ _ _ _ _ _ _ _ _ _ _ _ _ _ _ _ _ _ _ _ _ _ _ _ _ ops ask kinds A0 A1 A2 A3 j n1 n2 n3 c0 c1 c2 c3 wr.heap.size w _ _ _ H1.out H2.out H3.out g1 g2 g3 HPL.out ?_
        intro u8 u10 u12 u16 u17 u18 u19 u20 u21 u22 u23 u24 u25 u26 u27 u28 u29 u30 u31 u32 u33 u34 u35 u108 u109 u110 u111 u112 u113 u114 u115 u116 u117 u118 u119 u120 u121 u122 u123 u124 u125 u126 u127 u128 u129 u130 u131 u132 u133 u134 u135 u136 u137 u138 u139 u140 u141 u142 u143 u144 u145 u146 u147 u148 u149 u150 u151 u152 u153 u154 u155 u156 u157 u158 u159 u160 u161 u162 u163 u164 u165 u166 u167 u168 u169 u170 u171 u172 u173 u174 u175 u176 u177 u178 u179 u180 u181 u182 u183 u184 u185 u186 u187 u188 u189 u190 u191 u192 u193 u194 u195 u196 u197 u198 u199 u200 u201 u202 u203 u204 u205 u206 u207 u208 u209 u210 u211 u212 u213 u214 u215 u216 u217 u218 u219 u220 u221 u222 u223 u224 u225 u226 u227 u228 u229 u230 u231 u232 u233 u234 u235 u236 u237 u238 u239 u240 u241 u242 u243 u244 u245 u246 u247 u248 u249 u250 u251 u252 u253 u254 u255 u256 u257 u258 u259 u260 u261 u262 u263 u264 u265 u266 u267 u268 u269 u270 u271 u272 u273 u274 u275 u276 u277 u278 u279 u280 u281 u282 u283 u284 u285 u286 u287 u288 u289 u290 u291 u292 u293 u294 u295 u296 u297 u298 u299 u300 u301 u302 u303 u304 u305 u306 u307 u308 u309 u310 u311 w6 hp6
        have HP6 := Lib.hid hp6
        clear hp6 HPL
        rename_i K9 a9
        refine a9 _ _ ?_
        refine cpEnd_any _ _ _ _ _ _ _ _ _ _ _ _ _ _ _ _ _ _ _ _ _ _ _ _ _ _ _ _ _ _ _ _ _ _ _ _ _ _ _ _ _ _ _ _ _ _ _ _ _ _ _ _ _ _ _ _ _ _ _ _ _ _ _ _ _ _ _ _ _ _ _ _ _ _ _ _ _ _ _ _ _ _ _ _ _ _ _ _ _ _ _ _ _ _ _ _ _ _ _ _ _ _ _ _ _ _ _ _ _ _ _ _ _ _ _ _ _ _ _ _ _ _ _ _ _ _ _ _ _ _ _ _ _ _ _ _ _ _ _ _ _ _ _ _ _ _ _ _ _ _ _ _ _ _ _ _ _ _ _ _ _ _ _ _ _ _ _ _ _ _ _ _ _ _ _ _ _ _ _ _ _ _ _ _ _ _ _ _ _ _ _ _ _ _ _ _ _ _ _ _ _ _ _ _ _ _ _ _ _ _ _ _ _ _ _ _ _ _ _ _ _ _ _ _ _ _ _ _ _ _ _ _ _ _ _ _ _ _ _ _ _ _ _ _ _ _ _ _ _ _ _ _ _ _ _ _ _ _ _ _ _ _ _ _ _ _ _ _ _ _ _ _ _ _ _ _ _ _ _ _ _ _ _ _ _ _ _ _ _ _ _ _ _ _ _ _ _ _ _ _ _ _ _ _ _ _ _ _ _ _ _ _ _ _ _ _ _ _ _ _ _ _ _ _ _ _ _ _ _ _ _ _ _ _ _ _ _ _ _ _ _ _ _ _ _ _ _ _ _ _ _ _ _ _ wr.heap.size (n1 + 1) w w6 _ _ (by omega) HP6.out ?_
        intro u36 u37 u38 u312 u313 u314 u315 u316 u317 u318 u319 u320 u321 u322 u323 u324 u325 u326 u327 u328 u329 u330 u331 u332 u333 u334 u335 u336 u337 u338 u339 u340 u341 u342 u343 u344 u345 u346 u347 u348 u349 u350 u351 u352 u353 w7 hb7
        go_ret
        exact ⟨rfl, hb7⟩
    · rcases HCP.out with ⟨rfl, _⟩ | ⟨_, hz⟩
      rotate_left
      · exact absurd hz hE0
      have hev := HEV.out
      subst hev
      have t1 : (newE first == 0) = false := by simp [hE0]
      have t2 : (newE first != 0) = true := by simp [hE0]
      have t3 : (newE first != newE first) = false := by simp
      have ks := Lib.hid (staysAccounts_any first first A0 n0 n0 c0 _ _ g cap wr (HLT3.out.below HBr.out) HL0.out ((H0.out.below HB3.out).far HBr.out (by omega)) (by omega) (by omega))
      generalize newE first = E at *
      have hfin : Hid (∀ q, Below w.heap.size w (wr.drewN q)) := fun q => below_drewN (HB3.out.trans (HBr.out.mono (by omega))) q
      by_cases hlt : j < n0
      · go_wp2_with fail
        refine ks.out.mono ?_
        rintro e w5 ⟨rfl, q, rfl⟩
        rw [show (first == first) = true by simp]
        go_wp2
        go_ret
        exact ⟨rfl, hfin.out q⟩
      · go_wp2_with fail
        refine ks.out.mono ?_
        rintro e w5 ⟨rfl, q, rfl⟩
        rw [show (first == first) = true by simp]
        go_wp2
        go_ret
        exact ⟨rfl, hfin.out q⟩
end Go.Proofs.YtaliipcgekhepaaGreat
