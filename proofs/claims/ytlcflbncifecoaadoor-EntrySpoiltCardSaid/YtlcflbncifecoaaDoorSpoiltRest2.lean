/-
  EntrySpoilt: what stands behind its first Parse.
-/
import Derived.Test.YtlcflbncifecoaaDoorSpoiltRest
namespace Go.Proofs.YtlcflbncifecoaaDoor
open Go.RowKit Go.Sort

theorem parse_form {w w' : World} {s : List UInt8} {e : Ending} (h : ParseEnd w s e w') : ∃ (ja : Jrn) (A : Option Addr) (n c : Nat) (f : Int), e = .returned (.tuple #[.agg #[.int .i64 ja.id, .int .i64 ja.ent, .int .i64 ja.per, .string ja.ref, .slice A n c, .bool ja.void], .int .i64 f]) ∧ w'.ownsRow w.heap.size 44 3 (.slice A n c) n (lins ja.lines) ∧ n ≤ maxLen ∧ (f = 0 → parseJ s = some ja) ∧ (f = 0 ∨ f = 15 ∧ parseJ s = none ∧ ja = zeroJ) ∧ Below w.heap.size w w' := by
  unfold ParseEnd at h
  cases hp : parseJ s with
  | none =>
    rw [hp] at h
    exact ⟨zeroJ, none, 0, 0, 15, h.1, World.ownsRow_nil _ _ _ _, by unfold maxLen; omega, (fun h => by cases h), .inr ⟨rfl, rfl, rfl⟩, h.2⟩
  | some j =>
    rw [hp] at h
    obtain ⟨⟨A, c, he, hown⟩, hb⟩ := h
    have := checkE_len (parseJ_is hp).1
    exact ⟨j, A, j.lines.length, c, 0, he, hown, by unfold maxLen; omega, fun _ => rfl, .inl rfl, hb⟩

/-- What is known of a journal that was read. -/
structure PInfo (w : World) (N : Nat) (s : List UInt8) (jb : Jrn) (A : Option Addr) (n c : Nat) (g : Int) (w' : World) : Prop where
  own : w'.ownsRow N 44 3 (.slice A n c) n (lins jb.lines)
  len : n ≤ maxLen
  ok : g = 0 → parseJ s = some jb
  no : g = 0 ∨ g = 15 ∧ parseJ s = none ∧ jb = zeroJ
  bel : Below w.heap.size w w'
theorem parse_zero (s : List UInt8) (w : World) (G : Glob w) (hs : s.length ≤ 1000000) :
    Calls Tryd.prog 10 #[.string (bs s)] w.drew fun e w' => ∃ jb A n c g, e = .returned (.tuple #[.agg #[.int .i64 jb.id, .int .i64 jb.ent, .int .i64 jb.per, .string jb.ref, .slice A n c, .bool jb.void], .int .i64 g]) ∧ Hid (PInfo w w.heap.size s jb A n c g w') :=
  (entryParse_any s w.drew (G.below (Below.refl _ _).drew) hs).mono fun e w' h => by
    obtain ⟨jb, A, n, c, g, he, r1, r2, r3, r4, r5⟩ := parse_form h
    exact ⟨jb, A, n, c, g, he, r1, r2, r3, r4, (Below.refl _ _).drew.trans r5⟩
theorem parse_one (s : List UInt8) (w : World) (G : Glob w) (hs : s.length ≤ 1000000) (o : Obj) :
    Calls Tryd.prog 10 #[.string (bs s)] (w.alloc o).drew fun e w' => ∃ jb A n c g, e = .returned (.tuple #[.agg #[.int .i64 jb.id, .int .i64 jb.ent, .int .i64 jb.per, .string jb.ref, .slice A n c, .bool jb.void], .int .i64 g]) ∧ Hid (PInfo w (w.heap.size + 1) s jb A n c g w') ∧
      (∀ i, w'.cell? ⟨w.heap.size, i, none⟩ = (w.alloc o).cell? ⟨w.heap.size, i, none⟩) ∧ (∀ i, w'.frozen? ⟨w.heap.size, i, none⟩ = (w.alloc o).frozen? ⟨w.heap.size, i, none⟩) ∧ w.heap.size < w'.heap.size ∧ Hid (w'.heap[w.heap.size]? = some o) :=
  (entryParse_any s (w.alloc o).drew (G.below ((Below.refl _ _).alloc (Nat.le_refl _) o).drew) hs).mono fun e w' h => by
    obtain ⟨jb, A, n, c, g, he, r1, r2, r3, r4, r5⟩ := parse_form h
    have hz : w.heap.size < (w.alloc o).drew.heap.size := by simp
    have hz2 := r5.size
    exact ⟨jb, A, n, c, g, he, ⟨by have e : (w.alloc o).drew.heap.size = w.heap.size + 1 := (by simp); rw [← e]; exact r1, r2, r3, r4, ((Below.refl _ _).alloc (Nat.le_refl _) o).drew.trans (r5.mono (Nat.le_of_lt hz))⟩, fun i => r5.cell (p := ⟨w.heap.size, i, none⟩) hz, fun i => r5.frozen (p := ⟨w.heap.size, i, none⟩) hz, by omega, (r5.block _ hz).trans (heap_new w o)⟩
theorem parse_two (s : List UInt8) (w : World) (G : Glob w) (hs : s.length ≤ 1000000) (o o2 : Obj) :
    Calls Tryd.prog 10 #[.string (bs s)] ((w.alloc o).alloc o2).drew fun e w' => ∃ jb A n c g, e = .returned (.tuple #[.agg #[.int .i64 jb.id, .int .i64 jb.ent, .int .i64 jb.per, .string jb.ref, .slice A n c, .bool jb.void], .int .i64 g]) ∧ Hid (PInfo w (w.heap.size + 2) s jb A n c g w') ∧
      (∀ i, w'.cell? ⟨w.heap.size, i, none⟩ = ((w.alloc o).alloc o2).cell? ⟨w.heap.size, i, none⟩) ∧ (∀ i, w'.frozen? ⟨w.heap.size, i, none⟩ = ((w.alloc o).alloc o2).frozen? ⟨w.heap.size, i, none⟩) ∧
      (∀ i, w'.cell? ⟨w.heap.size + 1, i, none⟩ = ((w.alloc o).alloc o2).cell? ⟨w.heap.size + 1, i, none⟩) ∧ (∀ i, w'.frozen? ⟨w.heap.size + 1, i, none⟩ = ((w.alloc o).alloc o2).frozen? ⟨w.heap.size + 1, i, none⟩) ∧ w.heap.size + 1 < w'.heap.size ∧ Hid (w'.heap[w.heap.size]? = some o ∧ w'.heap[w.heap.size + 1]? = some o2) :=
  (entryParse_any s ((w.alloc o).alloc o2).drew (G.below (((Below.refl _ _).alloc (Nat.le_refl _) o).alloc (by simp) o2).drew) hs).mono fun e w' h => by
    obtain ⟨jb, A, n, c, g, he, r1, r2, r3, r4, r5⟩ := parse_form h
    have hs2 : ((w.alloc o).alloc o2).drew.heap.size = w.heap.size + 2 := by simp
    have hz : w.heap.size < ((w.alloc o).alloc o2).drew.heap.size := by omega
    have hz1 : w.heap.size + 1 < ((w.alloc o).alloc o2).drew.heap.size := by omega
    have hz2 := r5.size
    refine ⟨jb, A, n, c, g, he, ⟨by rw [← hs2]; exact r1, r2, r3, r4, (((Below.refl _ _).alloc (Nat.le_refl _) o).alloc (by simp) o2).drew.trans (r5.mono (Nat.le_of_lt hz))⟩, fun i => r5.cell (p := ⟨w.heap.size, i, none⟩) hz, fun i => r5.frozen (p := ⟨w.heap.size, i, none⟩) hz, fun i => r5.cell (p := ⟨w.heap.size + 1, i, none⟩) hz1, fun i => r5.frozen (p := ⟨w.heap.size + 1, i, none⟩) hz1, by omega, (r5.block _ hz).trans ((Below.heap_alloc _ _ _ (by simp)).trans (heap_new w o)), (r5.block _ hz1).trans ?_⟩
    have := heap_new (w.alloc o) o2
    rw [show (w.alloc o).heap.size = w.heap.size + 1 by simp] at this
    exact this

noncomputable def spR12 : Code := subCode [1, 1, 1, 1, 1, 1, 1, 1, 0] (Tryd.f6.body.getD .skip)
set_option maxRecDepth 100000 in
set_option maxHeartbeats 4000000 in
theorem sp12_any (s0 s1 s4 s5 s8 s10 s11 s12 s13 s14 s15 s16 s17 s18 s19 s20 s21 s22 s23 s24 s25 s26 s27 s28 s29 s30 s31 s32 s33 s34 s35 s36 s37 s38 s39 s40 s41 s42 s43 s44 s45 s46 s47 s48 s49 s50 s51 s52 s53 s54 s55 s56 s57 s58 s59 s60 s61 s62 s63 s64 s65 s66 s67 s68 s69 s70 s71 s72 s73 s74 s75 s76 s77 s78 s79 s80 s81 s82 s83 s84 s85 s86 s87 s88 s89 s90 s91 s92 s93 : Value) (j : Jrn) (A : Option Addr) (n c B k : Nat) (ch x : Int) (b : UInt8) (T : List UInt8) (r6 : Bool) (w w6 : World) (G : Glob w6)
    (hbox : JAt w6 w.heap.size j A n c) (h : Rd w6 B 3 A n (lins j.lines)) (hB : B ≤ w6.heap.size) (hn : n ≤ maxLen)
    (hk : k < T.length) (hT : T.length ≤ 1000) (hi : ∀ w, (Instr.index 9 (.string (bs T)) (.int .i64 (k : Int))).run Tryd.prog w = .ok (.int .u8 x) w) (hch : (b.toNat : Int) = ch) (hfin2 : x ≠ ch → parseJ (T.take k ++ [b] ++ T.drop (k + 1)) ≠ some j) (hBel : Below w.heap.size w w6) (K : Act → World → Prop) (hK : ∀ a w7, Code.wp Tryd.prog spR13 (bodyPost Tryd.prog Tryd.f6 fun e w' => e = .returned (.bool true) ∧ Below w.heap.size w w') a w7 → K a w7) :
    Code.wp Tryd.prog spR12 (Exit.then K (bodyPost Tryd.prog Tryd.f6 fun e w' => e = .returned (.bool true) ∧ Below w.heap.size w w')) ⟨#[s0, s1, .int .u8 ch, .pointer (some ⟨w.heap.size, 0, none⟩), s4, s5, .bool r6, .string (bs T), s8, .int .i64 (k : Int), s10, s11, s12, s13, s14, s15, s16, s17, s18, s19, s20, s21, s22, s23, s24, s25, s26, s27, s28, s29, s30, s31, s32, s33, s34, s35, s36, s37, s38, s39, s40, s41, s42, s43, s44, s45, s46, s47, s48, s49, s50, s51, s52, s53, s54, s55, s56, s57, s58, s59, s60, s61, s62, s63, s64, s65, s66, s67, s68, s69, s70, s71, s72, s73, s74, s75, s76, s77, s78, s79, s80, s81, s82, s83, s84, s85, s86, s87, s88, s89, s90, s91, s92, s93], []⟩ w6 := by
  have hsz := bs_size T
  have e1 : (bs T).extract 0 k = bs (T.take k) := bs_take T k
  have e2 : (bs T).extract (k + 1) T.length = bs (T.drop (k + 1)) := bs_drop T (k + 1)
  have e3 : bs (T.take k) ++ bs [b] = bs (T.take k ++ [b]) := bs_append _ _
  have e4 : bs (T.take k ++ [b]) ++ bs (T.drop (k + 1)) = bs (T.take k ++ [b] ++ T.drop (k + 1)) := bs_append _ _
  have hk1 : (k : Int) ≤ (T.length : Int) := by omega
  have hk2 : (k : Int) + 1 ≤ (T.length : Int) := by omega
  have hw1 : IntKind.i64.wrap ((k : Int) + 1) = (k : Int) + 1 := by rw [IntKind.wrap_i64]; omega
  have hw2 : ((k : Int) + 1).toNat = k + 1 := by omega
  have hw3 : (0 : Int) ≤ (k : Int) + 1 := by omega
  have hk3 : k ≤ T.length := by omega
  have hk4 : k + 1 ≤ T.length := by omega
  have n1 : ¬ 9223372036854775807 < (bs (T.take k)).size + (bs [b]).size := by rw [bs_size, bs_size, List.length_take]; simp; omega
  have n2 : ¬ 9223372036854775807 < (bs (T.take k ++ [b])).size + (bs (T.drop (k + 1))).size := by rw [bs_size, bs_size, List.length_append, List.length_take, List.length_drop]; simp; omega
  have hdl : (T.take k ++ [b] ++ T.drop (k + 1)).length ≤ 1000000 := by rw [List.length_append, List.length_append, List.length_take, List.length_drop]; simp; omega
  have kc : ∀ (W : World) (g : Nat), W.cell? ⟨g, 0, none⟩ = some (.int .u8 ch) → (convert 45 9 (.slice (some ⟨g, 0, none⟩) 1 1)).run Tryd.prog W = .ok (.string (bs [b])) W := fun W g hc => by
    have := run_convert_bytes_back (P := Tryd.prog) W 45 9 5 ⟨g, 0, none⟩ 1 [b] Tryd.underlying45 Tryd.underlying5 Tryd.underlying9 (fun i hi => by
      have : i = 0 := by simpa using hi
      subst this
      rw [Addr.add_lit]
      simpa [hch] using hc)
    exact this
  have kp1 := Lib.hid (parse_one (T.take k ++ [b] ++ T.drop (k + 1)) w6 G hdl)
  have kp2 := Lib.hid (parse_two (T.take k ++ [b] ++ T.drop (k + 1)) w6 G hdl)
  have HBEL := Lib.hid hBel
  have HBOX := Lib.hid hbox
  have HRD := Lib.hid h
  have HF2 := Lib.hid hfin2
  have HI := Lib.hid hi
  have hK2 := Lib.hid hK
  clear hK
  generalize T.take k ++ [b] ++ T.drop (k + 1) = I at *
  clear hbox h hBel hfin2 G hdl hi
  -- whatever block the journal that was read lies in
  conv => arg 2; whnf
  conv => arg 4; dsimp only
  have REST : ∀ (jb : Jrn) (A' : Option Addr) (n' c' bb N : Nat) (g : Int) (w7 w8 : World), Hid (PInfo w6 N I jb A' n' c' g w7) → Below w6.heap.size w6 w8 → w8.ownsRow N 44 3 (.slice A' n' c') n' (lins jb.lines) → JAt w8 bb jb A' n' c' → ∀ (u13 u14 u15 u16 u17 u18 u19 u20 u21 u22 u23 u24 u25 u26 u27 u28 u29 u30 u31 u32 u33 u34 u35 u36 u37 u38 u39 u40 u41 u42 u43 u44 u45 u46 u47 u48 u49 u50 u51 u52 u53 u54 u55 u56 u57 u58 u59 u60 u61 u62 u63 u64 u65 u66 u67 u68 u69 u70 u71 u72 u73 u74 u75 u76 u77 u78 u79 u80 u81 u82 u83 u84 u85 u86 u87 u88 u89 u90 u91 u92 u93 : Value), u13 = .int .i64 g → K ⟨#[s0, s1, .int .u8 ch, .pointer (some ⟨w.heap.size, 0, none⟩), s4, s5, .bool r6, .string (bs T), s8, .int .i64 (k : Int), s10, s11, .pointer (some ⟨bb, 0, none⟩), u13, u14, u15, u16, u17, u18, u19, u20, u21, u22, u23, u24, u25, u26, u27, u28, u29, u30, u31, u32, u33, u34, u35, u36, u37, u38, u39, u40, u41, u42, u43, u44, u45, u46, u47, u48, u49, u50, u51, u52, u53, u54, u55, u56, u57, u58, u59, u60, u61, u62, u63, u64, u65, u66, u67, u68, u69, u70, u71, u72, u73, u74, u75, u76, u77, u78, u79, u80, u81, u82, u83, u84, u85, u86, u87, u88, u89, u90, u91, u92, u93], []⟩ w8 := by
    intro jb A' n' c' bb N g w7 w8 h1 h2 h3 h4 u13 u14 u15 u16 u17 u18 u19 u20 u21 u22 u23 u24 u25 u26 u27 u28 u29 u30 u31 u32 u33 u34 u35 u36 u37 u38 u39 u40 u41 u42 u43 u44 u45 u46 u47 u48 u49 u50 u51 u52 u53 u54 u55 u56 u57 u58 u59 u60 u61 u62 u63 u64 u65 u66 u67 u68 u69 u70 u71 u72 u73 u74 u75 u76 u77 u78 u79 u80 u81 u82 u83 u84 u85 u86 u87 u88 u89 u90 u91 u92 u93 e13
    subst e13
    refine hK2.out _ _ ?_
    exact sp13_any _ _ _ _ _ _ _ _ _ _ _ _ _ _ _ _ _ _ _ _ _ _ _ _ _ _ _ _ _ _ _ _ _ _ _ _ _ _ _ _ _ _ _ _ _ _ _ _ _ _ _ _ _ _ _ _ _ _ _ _ _ _ _ _ _ _ _ _ _ _ _ _ _ _ _ _ _ _ _ _ _ _ _ _ _ _ _ j jb A A' n n' c c' bb B w8.heap.size k ch g x (bs T) r6 w w8 ((h2.block _ (lt_of_blk HBOX.out)).trans HBOX.out) h4 (HRD.out.far h2 hB) (rd_of_own h3) (Nat.le_trans hB h2.size) (Nat.le_refl _) hn h1.out.len HI.out (fun hg hx e => HF2.out hx (by rw [← e]; exact h1.out.ok hg)) (HBEL.out.trans (h2.mono HBEL.out.size))
  have HREST := Lib.hid REST
  clear REST hK2
  go_region_law (first | (go_simp; go_at_call 10; refine (kp2.out _ _).mono ?_; rintro e w7 ⟨jb, A', n', c', g, rfl, HPI, q0, p0, q1, p1, hz7, HBK⟩) | (go_simp; go_at_call 10; refine (kp1.out _).mono ?_; rintro e w7 ⟨jb, A', n', c', g, rfl, HPI, q0, p0, hz7, HBK⟩))
  all_goals go_simp
  · refine HREST.out jb A' n' c' w7.heap.size _ g w7 _ HPI (HPI.out.bel.alloc HPI.out.bel.size _) (own_kept HPI.out.own fun q hq _ => Below.heap_alloc _ _ _ hq) (heap_new w7 _) _ _ _ _ _ _ _ _ _ _ _ _ _ _ _ _ _ _ _ _ _ _ _ _ _ _ _ _ _ _ _ _ _ _ _ _ _ _ _ _ _ _ _ _ _ _ _ _ _ _ _ _ _ _ _ _ _ _ _ _ _ _ _ _ _ _ _ _ _ _ _ _ _ _ _ _ _ _ _ _ _ rfl
  · exact HREST.out jb A' n' c' (w6.heap.size + 1) _ g w7 _ HPI (below_six HPI.out.bel (Nat.le_succ _) _ _ _ _ _ _) (own_six HPI.out.own (by omega) _ _ _ _ _ _) (jat_six jb A' n' c' HBK.out.2) _ _ _ _ _ _ _ _ _ _ _ _ _ _ _ _ _ _ _ _ _ _ _ _ _ _ _ _ _ _ _ _ _ _ _ _ _ _ _ _ _ _ _ _ _ _ _ _ _ _ _ _ _ _ _ _ _ _ _ _ _ _ _ _ _ _ _ _ _ _ _ _ _ _ _ _ _ _ _ _ _ rfl
  · exact HREST.out jb A' n' c' (w6.heap.size + 1) _ g w7 _ HPI (below_six HPI.out.bel (Nat.le_succ _) _ _ _ _ _ _) (own_six HPI.out.own (by omega) _ _ _ _ _ _) (jat_six jb A' n' c' HBK.out.2) _ _ _ _ _ _ _ _ _ _ _ _ _ _ _ _ _ _ _ _ _ _ _ _ _ _ _ _ _ _ _ _ _ _ _ _ _ _ _ _ _ _ _ _ _ _ _ _ _ _ _ _ _ _ _ _ _ _ _ _ _ _ _ _ _ _ _ _ _ _ _ _ _ _ _ _ _ _ _ _ _ rfl
  · exact HREST.out jb A' n' c' w6.heap.size _ g w7 _ HPI (below_six HPI.out.bel (Nat.le_refl _) _ _ _ _ _ _) (own_six HPI.out.own (by omega) _ _ _ _ _ _) (jat_six jb A' n' c' HBK.out.1) _ _ _ _ _ _ _ _ _ _ _ _ _ _ _ _ _ _ _ _ _ _ _ _ _ _ _ _ _ _ _ _ _ _ _ _ _ _ _ _ _ _ _ _ _ _ _ _ _ _ _ _ _ _ _ _ _ _ _ _ _ _ _ _ _ _ _ _ _ _ _ _ _ _ _ _ _ _ _ _ _ rfl

set_option maxRecDepth 100000 in
set_option maxHeartbeats 4000000 in
theorem sp10_any (s0 s1 s4 s5 s8 s12 s13 s14 s15 s16 s17 s18 s19 s20 s21 s22 s23 s24 s25 s26 s27 s28 s29 s30 s31 s32 s33 s34 s35 s36 s37 s38 s39 s40 s41 s42 s43 s44 s45 s46 s47 s48 s49 s50 s51 s52 s53 s54 s55 s56 s57 s58 s59 s60 s61 s62 s63 s64 s65 s66 s67 s68 s69 s70 s71 s72 s73 s74 s75 s76 s77 s78 s79 s80 s81 s82 s83 s84 s85 s86 s87 s88 s89 s90 s91 s92 s93 : Value) (j ja : Jrn) (A A' : Option Addr) (n n' c c' aa B B' k : Nat) (ch f x : Int) (b : UInt8) (T : List UInt8) (r6 : Bool) (w w5 : World) (G : Glob w5)
    (hbox : JAt w5 w.heap.size j A n c) (haa : JAt w5 aa ja A' n' c') (h : Rd w5 B 3 A n (lins j.lines)) (h' : Rd w5 B' 3 A' n' (lins ja.lines)) (hB : B ≤ w5.heap.size) (hB' : B' ≤ w5.heap.size) (hn : n ≤ maxLen) (hn' : n' ≤ maxLen)
    (hk : k < T.length) (hT : T.length ≤ 1000) (hi : ∀ w, (Instr.index 9 (.string (bs T)) (.int .i64 (k : Int))).run Tryd.prog w = .ok (.int .u8 x) w) (hch : (b.toNat : Int) = ch) (hfin : f = 0 → ja ≠ j) (hfin2 : x ≠ ch → parseJ (T.take k ++ [b] ++ T.drop (k + 1)) ≠ some j) (hBel : Below w.heap.size w w5) :
    Code.wp Tryd.prog spR10 (bodyPost Tryd.prog Tryd.f6 fun e w' => e = .returned (.bool true) ∧ Below w.heap.size w w') ⟨#[s0, s1, .int .u8 ch, .pointer (some ⟨w.heap.size, 0, none⟩), s4, s5, .bool r6, .string (bs T), s8, .int .i64 (k : Int), .pointer (some ⟨aa, 0, none⟩), .int .i64 f, s12, s13, s14, s15, s16, s17, s18, s19, s20, s21, s22, s23, s24, s25, s26, s27, s28, s29, s30, s31, s32, s33, s34, s35, s36, s37, s38, s39, s40, s41, s42, s43, s44, s45, s46, s47, s48, s49, s50, s51, s52, s53, s54, s55, s56, s57, s58, s59, s60, s61, s62, s63, s64, s65, s66, s67, s68, s69, s70, s71, s72, s73, s74, s75, s76, s77, s78, s79, s80, s81, s82, s83, s84, s85, s86, s87, s88, s89, s90, s91, s92, s93], []⟩ w5 := by
  obtain ⟨b0, b1, b2, b3, b4, b5⟩ := six_cells hbox
  obtain ⟨y0, y1, y2, y3, y4, y5⟩ := six_cells haa
  have ks := Lib.hid (refSame_any ja j A' A n' n c' c B' B w5 h' h hB' hB hn' hn)
  have HS : Hid (f = 0 → sameJ ja j = false) := fun h1 => by
    cases hq : sameJ ja j
    · rfl
    · exact absurd (sameJ_iff.1 hq) (hfin h1)
  have NEXT : Hid (∀ w6, Below w5.heap.size w5 w6 → ∀ (s0 s1 s4 s5 s8 s10 s11 s12 s13 s14 s15 s16 s17 s18 s19 s20 s21 s22 s23 s24 s25 s26 s27 s28 s29 s30 s31 s32 s33 s34 s35 s36 s37 s38 s39 s40 s41 s42 s43 s44 s45 s46 s47 s48 s49 s50 s51 s52 s53 s54 s55 s56 s57 s58 s59 s60 s61 s62 s63 s64 s65 s66 s67 s68 s69 s70 s71 s72 s73 s74 s75 s76 s77 s78 s79 s80 s81 s82 s83 s84 s85 s86 s87 s88 s89 s90 s91 s92 s93 : Value) (K : Act → World → Prop) (_ : ∀ a w7, Code.wp Tryd.prog spR13 (bodyPost Tryd.prog Tryd.f6 fun e w' => e = .returned (.bool true) ∧ Below w.heap.size w w') a w7 → K a w7), Code.wp Tryd.prog spR12 (Exit.then K (bodyPost Tryd.prog Tryd.f6 fun e w' => e = .returned (.bool true) ∧ Below w.heap.size w w')) ⟨#[s0, s1, .int .u8 ch, .pointer (some ⟨w.heap.size, 0, none⟩), s4, s5, .bool r6, .string (bs T), s8, .int .i64 (k : Int), s10, s11, s12, s13, s14, s15, s16, s17, s18, s19, s20, s21, s22, s23, s24, s25, s26, s27, s28, s29, s30, s31, s32, s33, s34, s35, s36, s37, s38, s39, s40, s41, s42, s43, s44, s45, s46, s47, s48, s49, s50, s51, s52, s53, s54, s55, s56, s57, s58, s59, s60, s61, s62, s63, s64, s65, s66, s67, s68, s69, s70, s71, s72, s73, s74, s75, s76, s77, s78, s79, s80, s81, s82, s83, s84, s85, s86, s87, s88, s89, s90, s91, s92, s93], []⟩ w6) := by
    intro w6 hb s0 s1 s4 s5 s8 s10 s11 s12 s13 s14 s15 s16 s17 s18 s19 s20 s21 s22 s23 s24 s25 s26 s27 s28 s29 s30 s31 s32 s33 s34 s35 s36 s37 s38 s39 s40 s41 s42 s43 s44 s45 s46 s47 s48 s49 s50 s51 s52 s53 s54 s55 s56 s57 s58 s59 s60 s61 s62 s63 s64 s65 s66 s67 s68 s69 s70 s71 s72 s73 s74 s75 s76 s77 s78 s79 s80 s81 s82 s83 s84 s85 s86 s87 s88 s89 s90 s91 s92 s93 K hK
    exact sp12_any _ _ _ _ _ _ _ _ _ _ _ _ _ _ _ _ _ _ _ _ _ _ _ _ _ _ _ _ _ _ _ _ _ _ _ _ _ _ _ _ _ _ _ _ _ _ _ _ _ _ _ _ _ _ _ _ _ _ _ _ _ _ _ _ _ _ _ _ _ _ _ _ _ _ _ _ _ _ _ _ _ _ _ _ _ _ _ _ _ j A n c B k ch x b T r6 w w6 (G.below hb) ((hb.block _ (lt_of_blk hbox)).trans hbox) (h.far hb hB) (Nat.le_trans hB hb.size) hn hk hT hi hch hfin2 (hBel.trans (hb.mono hBel.size)) K hK
  clear hbox haa h h' hBel hfin hfin2 G hi
  conv => arg 2; whnf
  conv => arg 4; dsimp only
  unfold Jrn.val at ks
  by_cases hf : f = 0
  · subst hf
    rw [HS.out rfl] at ks
    clear HS
    go_wp2_with fail
    refine ks.out.mono ?_
    rintro e w6 ⟨rfl, hb6⟩
    have HB6 := Lib.hid hb6
    clear hb6 ks b0 b1 b2 b3 b4 b5 y0 y1 y2 y3 y4 y5
    go_wp2_with fail
    rename_i K hK
    exact NEXT.out _ HB6.out _ _ _ _ _ _ _ _ _ _ _ _ _ _ _ _ _ _ _ _ _ _ _ _ _ _ _ _ _ _ _ _ _ _ _ _ _ _ _ _ _ _ _ _ _ _ _ _ _ _ _ _ _ _ _ _ _ _ _ _ _ _ _ _ _ _ _ _ _ _ _ _ _ _ _ _ _ _ _ _ _ _ _ _ _ _ _ _ _ K hK
  · have t1 : (f == 0) = false := by simpa using hf
    clear HS ks hf
    go_wp2_with fail
    rename_i K hK
    exact NEXT.out _ (Below.refl _ _) _ _ _ _ _ _ _ _ _ _ _ _ _ _ _ _ _ _ _ _ _ _ _ _ _ _ _ _ _ _ _ _ _ _ _ _ _ _ _ _ _ _ _ _ _ _ _ _ _ _ _ _ _ _ _ _ _ _ _ _ _ _ _ _ _ _ _ _ _ _ _ _ _ _ _ _ _ _ _ _ _ _ _ _ _ _ _ _ _ K hK
end Go.Proofs.YtlcflbncifecoaaDoor
