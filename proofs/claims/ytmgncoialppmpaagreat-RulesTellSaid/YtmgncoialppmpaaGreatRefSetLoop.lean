/-
  The reference's SetGate: its loop; all its ways in one.
-/
import Derived.Test.YtmgncoialppmpaaGreatRefSetBody
namespace Go.Proofs.YtmgncoialppmpaaGreat
open Go.RowKit

/-- The head of the loop. -/
def SetRel (w0 : World) (x : Trio) (l : List Trio) (j : Nat) (ov dv : Value) (wr : World) : Prop :=
  ∃ A c d acc, ov = .slice A acc.length c ∧ dv = .bool d ∧ refAllGt x [] (decide (x.z = 0)) (l.take j) = (acc, d) ∧ wr.ownsRow w0.heap.size 121 3 (.slice A acc.length c) acc.length (trios acc) ∧ Below w0.heap.size w0 wr
theorem SetRel.next {w0 w' : World} {x y : Trio} {l acc acc' : List Trio} {j m : Nat} {d d' : Bool} {A : Option Addr} {c : Nat} (hy : l[j]? = some y) (h : refAllGt x [] (decide (x.z = 0)) (l.take j) = (acc, d)) (h1 : refOut x acc d y = acc') (h2 : refD x d y = d') (hm : acc'.length = m)
    (ho : w'.ownsRow w0.heap.size 121 3 (.slice A m c) m (trios acc')) (hb : Below w0.heap.size w0 w') : SetRel w0 x l (j + 1) (.slice A m c) (.bool d') w' := by
  subst hm
  refine ⟨A, c, d', acc', rfl, rfl, ?_, ho, hb⟩
  rw [refAll_stepGt hy, h]
  dsimp only
  rw [h1, h2]

set_option maxRecDepth 100000 in
set_option maxHeartbeats 4000000 in
theorem gsBody_any (s1 s2 s4 s5 s6 s10 s11 s12 s13 s14 s15 s16 s17 s18 s19 s20 s21 s22 s23 s24 s25 s26 s27 s28 s29 s30 s31 s32 s33 s34 s35 s36 s37 s38 s39 s40 s41 s42 s43 s44 s45 s46 s47 s48 s49 s50 s51 s52 s53 s54 s55 s56 s57 s58 s59 s60 s61 s62 s63 s64 s65 s66 s67 s68 s69 s70 s71 s72 s73 s74 s75 s76 s77 s78 s79 s80 s81 s82 s83 s84 s85 s86 s87 s88 s89 s90 s91 s92 s93 s94 s95 s96 s97 s98 s99 s100 s101 s102 s103 s104 s105 s106 s107 s108 s109 s110 s111 s112 s113 s114 s115 s116 s117 s118 : Value) (Q0 : Exit → Act → World → Prop) (l : List Trio) (en pe s : Int) (A : Option Addr) (n c bx j : Nat) (w0 wr : World) (ov dv : Value) (hl : l.length = n) (hn : n ≤ 100000) (hR : Rd w0 w0.heap.size 3 A n (trios l)) (hbx : bx < w0.heap.size)
    (k0 : w0.cell? ⟨bx, 0, none⟩ = some (.int .i64 en)) (k1 : w0.cell? ⟨bx, 1, none⟩ = some (.int .i64 pe)) (k2 : w0.cell? ⟨bx, 2, none⟩ = some (.int .i64 s)) (hg : ∀ a ∈ l, okT a.x a.y = true) (ho : okT en pe = true) (hj : j < n) (hrel : SetRel w0 ⟨en, pe, s⟩ l j ov dv wr)
    (hQ : ∀ (u7 u8 u10 u11 u64 u65 u66 u67 u68 u69 u70 u71 u72 u73 u74 u75 u76 u77 u78 u79 u80 u81 u82 u83 u84 u85 u86 u87 u88 u89 u90 u91 u92 u93 u94 u95 u96 u97 u98 u99 u100 u101 u102 u103 u104 u105 u106 u107 u108 u109 u110 u111 : Value) (w' : World), SetRel w0 ⟨en, pe, s⟩ l (j + 1) u7 u8 w' → Q0 .normal ⟨#[.slice A n c, s1, s2, .pointer (some ⟨bx, 0, none⟩), s4, s5, s6, u7, u8, .int .i64 (j : Nat), u10, u11, s12, s13, s14, s15, s16, s17, s18, s19, s20, s21, s22, s23, s24, s25, s26, s27, s28, s29, s30, s31, s32, s33, s34, s35, s36, s37, s38, s39, s40, s41, s42, s43, s44, s45, s46, s47, s48, s49, s50, s51, s52, s53, s54, s55, s56, s57, s58, s59, s60, s61, s62, s63, u64, u65, u66, u67, u68, u69, u70, u71, u72, u73, u74, u75, u76, u77, u78, u79, u80, u81, u82, u83, u84, u85, u86, u87, u88, u89, u90, u91, u92, u93, u94, u95, u96, u97, u98, u99, u100, u101, u102, u103, u104, u105, u106, u107, u108, u109, u110, u111, s112, s113, s114, s115, s116, s117, s118], []⟩ w') :
    Code.wp Tryz.prog gsBody Q0 ⟨#[.slice A n c, s1, s2, .pointer (some ⟨bx, 0, none⟩), s4, s5, s6, ov, dv, .int .i64 (j : Nat), s10, s11, s12, s13, s14, s15, s16, s17, s18, s19, s20, s21, s22, s23, s24, s25, s26, s27, s28, s29, s30, s31, s32, s33, s34, s35, s36, s37, s38, s39, s40, s41, s42, s43, s44, s45, s46, s47, s48, s49, s50, s51, s52, s53, s54, s55, s56, s57, s58, s59, s60, s61, s62, s63, s64, s65, s66, s67, s68, s69, s70, s71, s72, s73, s74, s75, s76, s77, s78, s79, s80, s81, s82, s83, s84, s85, s86, s87, s88, s89, s90, s91, s92, s93, s94, s95, s96, s97, s98, s99, s100, s101, s102, s103, s104, s105, s106, s107, s108, s109, s110, s111, s112, s113, s114, s115, s116, s117, s118], []⟩ wr := by
  obtain ⟨A0, cc, d, acc, rfl, rfl, hd, hown, hbel⟩ := hrel
  have hzr := hbel.size
  have hm : acc.length ≤ 300000 := by
    have h1 := refAll_len ⟨en, pe, s⟩ (l.take j) [] (decide (s = 0))
    have h2 : (l.take j).length ≤ n := by rw [List.length_take, hl]; omega
    rw [hd] at h1
    simp only [List.length_nil] at h1
    omega
  have x0 := (hbel.cell (p := ⟨bx, 0, none⟩) hbx).trans k0
  have x1 := (hbel.cell (p := ⟨bx, 1, none⟩) hbx).trans k1
  have x2 := (hbel.cell (p := ⟨bx, 2, none⟩) hbx).trans k2
  obtain ⟨ad, a, rfl, hb1, hx, p1, p2, p3⟩ := (hR.below hbel).trio hj
  have p2' := cell_behind p2 (by omega)
  have p3' := cell_behind p3 (by omega)
  have hok := okT_t (hg a (List.mem_of_getElem? hx))
  have hok2 := okT_t ho
  obtain ⟨y1, y2, y3⟩ := a
  dsimp only at p1 p2' p3' hok
  have hkey : ((⟨y1, y2, y3⟩ : Trio).key = (⟨en, pe, s⟩ : Trio).key ↔ y1 = en ∧ y2 = pe) ∧ ((⟨en, pe, s⟩ : Trio).key < (⟨y1, y2, y3⟩ : Trio).key ↔ en < y1 ∨ (y1 = en ∧ pe < y2)) := by
    unfold Trio.key
    dsimp only
    omega
  show Code.wp Tryz.prog (Code.seq gsR11 (Code.seq gsR12 (Code.seq gs2 gs3))) _ _ _
  refine gs1_any _ _ _ _ _ _ _ _ _ _ _ _ _ _ _ _ _ _ _ _ _ _ _ _ _ _ _ _ _ _ _ _ _ _ _ _ _ _ _ _ _ _ _ _ _ _ _ _ _ _ _ _ _ _ _ _ _ _ _ _ _ _ _ _ _ _ _ _ _ _ _ _ _ _ _ _ _ _ _ _ _ _ _ _ _ _ _ _ _ _ _ _ _ _ _ _ _ _ _ _ _ _ _ _ _ _ _ _ _ _ _ _ _ _ _ _ _ _ ad n c j bx en pe y1 y2 y3 wr hj hn (by omega) p1 p2' p3' x0 x1 ?_
  intro u64 u65 u66 u67 u68 u69 u70 u71 u72 u73 u74 u75 u76 u77 u78 u79 u80 u81 u82 u83 u84 u85 u86
  obtain ⟨Y, hY⟩ : ∃ Y, wr.alloc (.cells #[.int .i64 y1, .int .i64 y2, .int .i64 y3] 121) = Y := ⟨_, rfl⟩
  rw [hY]
  have hYs : Y.heap.size = wr.heap.size + 1 := by rw [← hY]; simp
  have hYo : Y.ownsRow w0.heap.size 121 3 (.slice A0 acc.length cc) acc.length (trios acc) := by rw [← hY]; exact own_kept hown fun q hq _ => Below.heap_alloc _ _ _ hq
  have hYb : Below wr.heap.size wr Y := by rw [← hY]; exact (Below.refl _ _).alloc (Nat.le_refl _) _
  have hBY : Below w0.heap.size w0 Y := hbel.trans (hYb.mono hzr)
  have Y0 : Y.cell? ⟨wr.heap.size, 0, none⟩ = some (.int .i64 y1) := by rw [← hY]; simp [go_sem]
  have Y1 : Y.cell? ⟨wr.heap.size, 1, none⟩ = some (.int .i64 y2) := by rw [← hY]; simp [go_sem]
  have Y2 : Y.cell? ⟨wr.heap.size, 2, none⟩ = some (.int .i64 y3) := by rw [← hY]; simp [go_sem]
  have X0 := (hYb.cell (p := ⟨bx, 0, none⟩) (by show bx < _; omega)).trans x0
  have X1 := (hYb.cell (p := ⟨bx, 1, none⟩) (by show bx < _; omega)).trans x1
  have X2 := (hYb.cell (p := ⟨bx, 2, none⟩) (by show bx < _; omega)).trans x2
  by_cases hy : d = false ∧ (en < y1 ∨ (y1 = en ∧ pe < y2))
  · -- x, then y
    obtain ⟨rfl, haf⟩ := hy
    rw [show decide (en < y1 ∨ (y1 = en ∧ pe < y2)) = true by simpa using haf]
    obtain ⟨Ax, cx, wx, rx, ox, bxx, fx, zx⟩ := gate_add ⟨en, pe, s⟩ hYo (by omega) (by omega)
    obtain ⟨Az, cz, wz, rz, oz, bz, fz, zz⟩ := gate_add ⟨y1, y2, y3⟩ ox (by omega) (by omega)
    have hBx : Below w0.heap.size w0 wx := hBY.trans (bxx.below (fun k _ hk => own_ge hown k hk) (by omega))
    have hBz : Below w0.heap.size w0 wz := hBx.trans (bz.below (fun k _ hk => own_ge ox k hk) (by omega))
    have hnew : (Value.slice A0 acc.length cc).ownBlock ≠ some wr.heap.size := fun e => by have := own_lt hown _ e; omega
    have hold : (Value.slice A0 acc.length cc).ownBlock ≠ some bx := fun e => by have := own_ge hown _ e; omega
    have hkb := bxx.block bx (by omega) hold
    have hky := bxx.block wr.heap.size (by omega) hnew
    refine gs2_yes _ _ _ _ _ _ _ _ _ _ _ _ _ _ _ _ _ _ _ _ _ _ _ _ _ _ _ _ _ _ _ _ _ _ _ _ _ _ _ _ _ _ _ _ _ _ _ _ _ _ _ _ _ _ _ _ _ _ _ _ _ _ _ _ _ _ _ _ _ _ _ _ _ _ _ _ _ _ _ _ _ _ _ _ _ _ _ _ _ _ _ _ _ _ _ _ _ _ _ _ _ _ _ _ _ _ _ _ _ _ _ _ _ _ _ _ _ _ _ en pe s bx Y wx (by omega) X0 X1 X2 rx ?_
    intro u87 u88 u89 u90 u91 u92 u93 u94 u95
    refine gs3_yes _ _ _ _ _ _ _ _ _ _ _ _ _ _ _ _ _ _ _ _ _ _ _ _ _ _ _ _ _ _ _ _ _ _ _ _ _ _ _ _ _ _ _ _ _ _ _ _ _ _ _ _ _ _ _ _ _ _ _ _ _ _ _ _ _ _ _ _ _ _ _ _ _ _ _ _ _ _ _ _ _ _ _ _ _ _ _ _ _ _ _ _ _ _ _ _ _ _ _ _ _ _ _ _ _ _ _ _ _ _ _ _ _ _ _ _ _ _ _ en pe y1 y2 y3 bx wr.heap.size wx wz (by omega) (by omega) ((World.cell?_of_block hkb).trans X0) ((World.cell?_of_block hkb).trans X1) ((World.cell?_of_block hky).trans Y0) ((World.cell?_of_block hky).trans Y1) ((World.cell?_of_block hky).trans Y2) rz ?_
    intro u96 u97 u98 u99 u100 u101 u102 u103 u104 u105 u106 u107 u108 u109 u110 u111
    refine hQ _ _ _ _ _ _ _ _ _ _ _ _ _ _ _ _ _ _ _ _ _ _ _ _ _ _ _ _ _ _ _ _ _ _ _ _ _ _ _ _ _ _ _ _ _ _ _ _ _ _ _ _ _ (SetRel.next hx hd (acc' := acc ++ [⟨en, pe, s⟩] ++ [⟨y1, y2, y3⟩]) ?_ ?_ (by simp) oz hBz)
    · unfold refOut refIn
      rw [if_neg (fun h => by have := hkey.1.1 h; omega), if_pos ⟨rfl, hkey.2.2 haf⟩]
    · unfold refD
      simp only [Bool.false_or, decide_eq_true_eq]
      exact hkey.2.2 haf
  · have hno : d = true ∨ decide (en < y1 ∨ (y1 = en ∧ pe < y2)) = false := by
      cases d
      · exact .inr (by simp only [decide_eq_false_iff_not]; exact fun h => hy ⟨rfl, h⟩)
      · exact .inl rfl
    have hin : refIn ⟨en, pe, s⟩ acc d ⟨y1, y2, y3⟩ = acc := by
      unfold refIn
      rw [if_neg]
      rintro ⟨h1, h2⟩
      exact hy ⟨h1, hkey.2.1 h2⟩
    have hdd : refD ⟨en, pe, s⟩ d ⟨y1, y2, y3⟩ = d := by
      unfold refD
      cases d
      · simp only [Bool.false_or, decide_eq_false_iff_not]
        exact fun h => hy ⟨rfl, hkey.2.1 h⟩
      · rfl
    refine gs2_no _ _ _ _ _ _ _ _ _ _ _ _ _ _ _ _ _ _ _ _ _ _ _ _ _ _ _ _ _ _ _ _ _ _ _ _ _ _ _ _ _ _ _ _ _ _ _ _ _ _ _ _ _ _ _ _ _ _ _ _ _ _ _ _ _ _ _ _ _ _ _ _ _ _ _ _ _ _ _ _ _ _ _ _ _ _ _ _ _ _ _ _ _ _ _ _ _ _ _ _ _ _ _ _ _ _ _ _ _ _ _ _ _ _ _ _ _ _ _ d _ Y hno ?_
    intro u87 u88 u89 u90 u91
    by_cases he : y1 = en ∧ y2 = pe
    · obtain ⟨rfl, rfl⟩ := he
      refine gs3_no _ _ _ _ _ _ _ _ _ _ _ _ _ _ _ _ _ _ _ _ _ _ _ _ _ _ _ _ _ _ _ _ _ _ _ _ _ _ _ _ _ _ _ _ _ _ _ _ _ _ _ _ _ _ _ _ _ _ _ _ _ _ _ _ _ _ _ _ _ _ _ _ _ _ _ _ _ _ _ _ _ _ _ _ _ _ _ _ _ _ _ _ _ _ _ _ _ _ _ _ _ _ _ _ _ _ _ _ _ _ _ _ _ _ _ _ _ _ y1 y2 bx wr.heap.size Y X0 X1 Y0 Y1 ?_
      intro u96 u97 u98 u99 u100 u101 u102 u103 u104 u105 u106 u107
      refine hQ _ _ _ _ _ _ _ _ _ _ _ _ _ _ _ _ _ _ _ _ _ _ _ _ _ _ _ _ _ _ _ _ _ _ _ _ _ _ _ _ _ _ _ _ _ _ _ _ _ _ _ _ _ (SetRel.next hx hd (acc' := acc) ?_ hdd rfl hYo hBY)
      unfold refOut
      rw [if_pos (hkey.1.2 ⟨rfl, rfl⟩), hin]
    · obtain ⟨Ay, cy, wy, ry, oy, by_, fy, zy⟩ := gate_add ⟨y1, y2, y3⟩ hYo (by omega) (by omega)
      have hBy : Below w0.heap.size w0 wy := hBY.trans (by_.below (fun k _ hk => own_ge hown k hk) (by omega))
      refine gs3_yes _ _ _ _ _ _ _ _ _ _ _ _ _ _ _ _ _ _ _ _ _ _ _ _ _ _ _ _ _ _ _ _ _ _ _ _ _ _ _ _ _ _ _ _ _ _ _ _ _ _ _ _ _ _ _ _ _ _ _ _ _ _ _ _ _ _ _ _ _ _ _ _ _ _ _ _ _ _ _ _ _ _ _ _ _ _ _ _ _ _ _ _ _ _ _ _ _ _ _ _ _ _ _ _ _ _ _ _ _ _ _ _ _ _ _ _ _ _ _ en pe y1 y2 y3 bx wr.heap.size Y wy he (by omega) X0 X1 Y0 Y1 Y2 ry ?_
      intro u96 u97 u98 u99 u100 u101 u102 u103 u104 u105 u106 u107 u108 u109 u110 u111
      refine hQ _ _ _ _ _ _ _ _ _ _ _ _ _ _ _ _ _ _ _ _ _ _ _ _ _ _ _ _ _ _ _ _ _ _ _ _ _ _ _ _ _ _ _ _ _ _ _ _ _ _ _ _ _ (SetRel.next hx hd (acc' := acc ++ [⟨y1, y2, y3⟩]) ?_ hdd (by simp) oy hBy)
      unfold refOut
      rw [if_neg (fun h => he (hkey.1.1 h)), hin]

set_option maxRecDepth 100000 in
set_option maxHeartbeats 4000000 in
theorem gsLoop_any (s1 s2 s4 s5 s6 s10 s11 s12 s13 s14 s15 s16 s17 s18 s19 s20 s21 s22 s23 s24 s25 s26 s27 s28 s29 s30 s31 s32 s33 s34 s35 s36 s37 s38 s39 s40 s41 s42 s43 s44 s45 s46 s47 s48 s49 s50 s51 s52 s53 s54 s55 s56 s57 s58 s59 s60 s61 s62 s63 s64 s65 s66 s67 s68 s69 s70 s71 s72 s73 s74 s75 s76 s77 s78 s79 s80 s81 s82 s83 s84 s85 s86 s87 s88 s89 s90 s91 s92 s93 s94 s95 s96 s97 s98 s99 s100 s101 s102 s103 s104 s105 s106 s107 s108 s109 s110 s111 s112 s113 s114 s115 s116 s117 s118 : Value) (Q0 : Exit → Act → World → Prop) (l : List Trio) (en pe s : Int) (A : Option Addr) (n c bx : Nat) (w0 : World) (hl : l.length = n) (hn : n ≤ 100000) (hR : Rd w0 w0.heap.size 3 A n (trios l)) (hbx : bx < w0.heap.size)
    (k0 : w0.cell? ⟨bx, 0, none⟩ = some (.int .i64 en)) (k1 : w0.cell? ⟨bx, 1, none⟩ = some (.int .i64 pe)) (k2 : w0.cell? ⟨bx, 2, none⟩ = some (.int .i64 s)) (hg : ∀ a ∈ l, okT a.x a.y = true) (ho : okT en pe = true)
    (hQ : ∀ (u7 u8 u9 u10 u11 u58 u59 u60 u61 u62 u63 u64 u65 u66 u67 u68 u69 u70 u71 u72 u73 u74 u75 u76 u77 u78 u79 u80 u81 u82 u83 u84 u85 u86 u87 u88 u89 u90 u91 u92 u93 u94 u95 u96 u97 u98 u99 u100 u101 u102 u103 u104 u105 u106 u107 u108 u109 u110 u111 : Value) (w' : World), SetRel w0 ⟨en, pe, s⟩ l n u7 u8 w' → Q0 (.exit 0) ⟨#[.slice A n c, s1, s2, .pointer (some ⟨bx, 0, none⟩), s4, s5, s6, u7, u8, u9, u10, u11, s12, s13, s14, s15, s16, s17, s18, s19, s20, s21, s22, s23, s24, s25, s26, s27, s28, s29, s30, s31, s32, s33, s34, s35, s36, s37, s38, s39, s40, s41, s42, s43, s44, s45, s46, s47, s48, s49, s50, s51, s52, s53, s54, s55, s56, s57, u58, u59, u60, u61, u62, u63, u64, u65, u66, u67, u68, u69, u70, u71, u72, u73, u74, u75, u76, u77, u78, u79, u80, u81, u82, u83, u84, u85, u86, u87, u88, u89, u90, u91, u92, u93, u94, u95, u96, u97, u98, u99, u100, u101, u102, u103, u104, u105, u106, u107, u108, u109, u110, u111, s112, s113, s114, s115, s116, s117, s118], []⟩ w') :
    Code.wp Tryz.prog (Code.loop (Code.seq gsTest (Code.seq (Code.block 1 gsBody) gsR10))) Q0 ⟨#[.slice A n c, s1, s2, .pointer (some ⟨bx, 0, none⟩), s4, s5, s6, .slice none 0 0, .bool (s == 0), .int .i64 0, s10, s11, s12, s13, s14, s15, s16, s17, s18, s19, s20, s21, s22, s23, s24, s25, s26, s27, s28, s29, s30, s31, s32, s33, s34, s35, s36, s37, s38, s39, s40, s41, s42, s43, s44, s45, s46, s47, s48, s49, s50, s51, s52, s53, s54, s55, s56, s57, s58, s59, s60, s61, s62, s63, s64, s65, s66, s67, s68, s69, s70, s71, s72, s73, s74, s75, s76, s77, s78, s79, s80, s81, s82, s83, s84, s85, s86, s87, s88, s89, s90, s91, s92, s93, s94, s95, s96, s97, s98, s99, s100, s101, s102, s103, s104, s105, s106, s107, s108, s109, s110, s111, s112, s113, s114, s115, s116, s117, s118], []⟩ w0 := by
  have HQ := Lib.hid hQ
  clear hQ
  have hstart : SetRel w0 ⟨en, pe, s⟩ l 0 (.slice none 0 0) (.bool (s == 0)) w0 := ⟨none, 0, s == 0, [], rfl, rfl, by show ([], decide (s = 0)) = ([], s == 0); by_cases e : s = 0 <;> simp [e], World.ownsRow_nil _ _ _ _, Below.refl _ _⟩
  refine wp_loop (fun a w' => ∃ (u7 u8 u10 u11 u58 u59 u60 u61 u62 u63 u64 u65 u66 u67 u68 u69 u70 u71 u72 u73 u74 u75 u76 u77 u78 u79 u80 u81 u82 u83 u84 u85 u86 u87 u88 u89 u90 u91 u92 u93 u94 u95 u96 u97 u98 u99 u100 u101 u102 u103 u104 u105 u106 u107 u108 u109 u110 u111 : Value) (m : Nat), (m ≤ n ∧ SetRel w0 ⟨en, pe, s⟩ l m u7 u8 w') ∧ a = ⟨#[.slice A n c, s1, s2, .pointer (some ⟨bx, 0, none⟩), s4, s5, s6, u7, u8, .int .i64 (m : Int), u10, u11, s12, s13, s14, s15, s16, s17, s18, s19, s20, s21, s22, s23, s24, s25, s26, s27, s28, s29, s30, s31, s32, s33, s34, s35, s36, s37, s38, s39, s40, s41, s42, s43, s44, s45, s46, s47, s48, s49, s50, s51, s52, s53, s54, s55, s56, s57, u58, u59, u60, u61, u62, u63, u64, u65, u66, u67, u68, u69, u70, u71, u72, u73, u74, u75, u76, u77, u78, u79, u80, u81, u82, u83, u84, u85, u86, u87, u88, u89, u90, u91, u92, u93, u94, u95, u96, u97, u98, u99, u100, u101, u102, u103, u104, u105, u106, u107, u108, u109, u110, u111, s112, s113, s114, s115, s116, s117, s118], []⟩) (fun a _ => n - (intOf (a.tmps.getD 9 undef)).toNat) ⟨_, _, _, _, _, _, _, _, _, _, _, _, _, _, _, _, _, _, _, _, _, _, _, _, _, _, _, _, _, _, _, _, _, _, _, _, _, _, _, _, _, _, _, _, _, _, _, _, _, _, _, _, _, _, _, _, _, _, 0, ⟨Nat.zero_le _, hstart⟩, rfl⟩ ?_
  intro a w' hI
  obtain ⟨u7, hI⟩ := hI
  obtain ⟨u8, hI⟩ := hI
  obtain ⟨u10, hI⟩ := hI
  obtain ⟨u11, hI⟩ := hI
  obtain ⟨u58, hI⟩ := hI
  obtain ⟨u59, hI⟩ := hI
  obtain ⟨u60, hI⟩ := hI
  obtain ⟨u61, hI⟩ := hI
  obtain ⟨u62, hI⟩ := hI
  obtain ⟨u63, hI⟩ := hI
  obtain ⟨u64, hI⟩ := hI
  obtain ⟨u65, hI⟩ := hI
  obtain ⟨u66, hI⟩ := hI
  obtain ⟨u67, hI⟩ := hI
  obtain ⟨u68, hI⟩ := hI
  obtain ⟨u69, hI⟩ := hI
  obtain ⟨u70, hI⟩ := hI
  obtain ⟨u71, hI⟩ := hI
  obtain ⟨u72, hI⟩ := hI
  obtain ⟨u73, hI⟩ := hI
  obtain ⟨u74, hI⟩ := hI
  obtain ⟨u75, hI⟩ := hI
  obtain ⟨u76, hI⟩ := hI
  obtain ⟨u77, hI⟩ := hI
  obtain ⟨u78, hI⟩ := hI
  obtain ⟨u79, hI⟩ := hI
  obtain ⟨u80, hI⟩ := hI
  obtain ⟨u81, hI⟩ := hI
  obtain ⟨u82, hI⟩ := hI
  obtain ⟨u83, hI⟩ := hI
  obtain ⟨u84, hI⟩ := hI
  obtain ⟨u85, hI⟩ := hI
  obtain ⟨u86, hI⟩ := hI
  obtain ⟨u87, hI⟩ := hI
  obtain ⟨u88, hI⟩ := hI
  obtain ⟨u89, hI⟩ := hI
  obtain ⟨u90, hI⟩ := hI
  obtain ⟨u91, hI⟩ := hI
  obtain ⟨u92, hI⟩ := hI
  obtain ⟨u93, hI⟩ := hI
  obtain ⟨u94, hI⟩ := hI
  obtain ⟨u95, hI⟩ := hI
  obtain ⟨u96, hI⟩ := hI
  obtain ⟨u97, hI⟩ := hI
  obtain ⟨u98, hI⟩ := hI
  obtain ⟨u99, hI⟩ := hI
  obtain ⟨u100, hI⟩ := hI
  obtain ⟨u101, hI⟩ := hI
  obtain ⟨u102, hI⟩ := hI
  obtain ⟨u103, hI⟩ := hI
  obtain ⟨u104, hI⟩ := hI
  obtain ⟨u105, hI⟩ := hI
  obtain ⟨u106, hI⟩ := hI
  obtain ⟨u107, hI⟩ := hI
  obtain ⟨u108, hI⟩ := hI
  obtain ⟨u109, hI⟩ := hI
  obtain ⟨u110, hI⟩ := hI
  obtain ⟨u111, hI⟩ := hI
  obtain ⟨m, ⟨hm, hp⟩, rfl⟩ := hI
  have HP := Lib.hid hp
  clear hp hstart
  refine wp_seq ?_
  conv => arg 2; whnf
  conv => arg 4; dsimp only
  by_cases hmn : m < n
  · have hmI : (m : Int) < (n : Int) := by omega
    go_wp2_with fail
    refine gsBody_any _ _ _ _ _ _ _ _ _ _ _ _ _ _ _ _ _ _ _ _ _ _ _ _ _ _ _ _ _ _ _ _ _ _ _ _ _ _ _ _ _ _ _ _ _ _ _ _ _ _ _ _ _ _ _ _ _ _ _ _ _ _ _ _ _ _ _ _ _ _ _ _ _ _ _ _ _ _ _ _ _ _ _ _ _ _ _ _ _ _ _ _ _ _ _ _ _ _ _ _ _ _ _ _ _ _ _ _ _ _ _ _ _ _ _ l en pe s A n c bx m w0 w' _ _ hl hn hR hbx k0 k1 k2 hg ho hmn HP.out ?_
    intro u7 u8 u10 u11 u64 u65 u66 u67 u68 u69 u70 u71 u72 u73 u74 u75 u76 u77 u78 u79 u80 u81 u82 u83 u84 u85 u86 u87 u88 u89 u90 u91 u92 u93 u94 u95 u96 u97 u98 u99 u100 u101 u102 u103 u104 u105 u106 u107 u108 u109 u110 u111 w6 hp6
    have HP6 := Lib.hid hp6
    clear hp6
    rename_i K hK
    refine hK _ _ ?_
    conv => arg 2; whnf
    conv => arg 4; dsimp only
    go_wp2
    refine ⟨⟨_, _, _, _, _, _, _, _, _, _, _, _, _, _, _, _, _, _, _, _, _, _, _, _, _, _, _, _, _, _, _, _, _, _, _, _, _, _, _, _, _, _, _, _, _, _, _, _, _, _, _, _, _, _, _, _, _, _, m + 1, ⟨by omega, HP6.out⟩, rfl⟩, by simp [intOf]; omega⟩
  · obtain rfl : m = n := by omega
    have hmI : ¬ (m : Int) < (m : Int) := by omega
    go_wp2
    exact HQ.out _ _ _ _ _ _ _ _ _ _ _ _ _ _ _ _ _ _ _ _ _ _ _ _ _ _ _ _ _ _ _ _ _ _ _ _ _ _ _ _ _ _ _ _ _ _ _ _ _ _ _ _ _ _ _ _ _ _ _ _ HP.out
end Go.Proofs.YtmgncoialppmpaaGreat

