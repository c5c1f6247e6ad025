/-
  BookPlays: who has the reference.
-/
import Derived.Test.YtpbdmohccebhhaaGreatBookPlaysPost
namespace Go.Proofs.YtpbdmohccebhhaaGreat
open Go.RowKit

noncomputable def bpWho : Code := subCode [1, 1, 1, 1, 1, 0, 1, 0, 0, 1, 0, 0, 1, 1, 1, 1, 1, 1, 1, 1, 1, 1, 1, 1, 1, 0, 1, 0] (Tryz.f3.body.getD .skip)
theorem refJ_drop {r : List JR} {k : Nat} {a : JR} (h : r[k]? = some a) (s : ByteArray) : refJ ((r.drop k).map JR.j) s = if holdsRef s a.j = true then a.j.id else refJ ((r.drop (k + 1)).map JR.j) s := by
  obtain ⟨h1, rfl⟩ := List.getElem?_eq_some_iff.1 h
  rw [List.drop_eq_getElem_cons h1, List.map_cons]
  unfold refJ
  rw [List.find?_cons]
  cases holdsRef s r[k].j <;> rfl

set_option maxRecDepth 100000 in
set_option maxHeartbeats 4000000 in
theorem bpWho_any (s0 s1 s3 s4 s5 s6 s7 s9 s10 s11 s12 s13 s14 s15 s16 s17 s18 s19 s20 s21 s22 s23 s24 s27 s28 s29 s30 s31 s32 s33 s34 s35 s36 s37 s38 s39 s40 s41 s42 s43 s44 s45 s46 s47 s48 s49 s50 s51 s52 s53 s54 s55 s56 s57 s58 s59 s60 s61 s62 s63 s64 s65 s66 s67 s68 s69 s70 s71 s72 s73 s74 s75 s76 s77 s78 s79 s80 s81 s82 s83 s84 s85 s86 s87 s88 s89 s90 s91 s92 s93 s94 s95 s96 s97 s98 s99 s100 s101 s102 s103 s104 s105 s106 s107 s108 s109 s110 s111 s112 s113 s114 s115 s116 s117 s118 s119 s120 s121 s122 s123 s124 s125 s126 s127 s128 s129 s130 s131 s132 s133 s134 s135 s136 s137 s138 s139 s140 s141 s142 s143 s144 s145 s146 s147 s148 s149 s150 s151 s152 s153 s154 s155 s156 s157 s158 s159 s160 s161 s162 s163 s164 s165 s166 s167 s168 s169 s170 s171 s172 s173 s174 s175 s176 s177 s178 s179 s180 s181 s182 s183 s184 s185 s186 s187 s188 s189 s190 s191 s192 s193 s194 s195 s196 s197 s198 s199 s200 s201 s202 s203 s204 s205 s206 s207 s208 s209 s210 s211 s212 s213 s214 s215 s216 s217 s218 s219 s220 s221 s222 s223 s224 s225 s226 s227 s228 s229 s230 s231 s232 s233 s234 s235 s236 s237 s238 s239 s240 s241 s242 s243 s244 s245 s246 s247 s248 s249 s250 s251 s252 s253 s254 s255 s256 s257 s258 s259 s260 s261 s262 s263 s264 s265 s266 s267 s268 s269 s270 s271 s272 s273 s274 s275 s276 s277 s278 s279 s280 s281 s282 s283 s284 s285 s286 s287 s288 s289 s290 s291 s292 s293 s294 s295 s296 s297 s298 s299 s300 s301 s302 s303 s304 s305 s306 s307 s308 s309 s310 s311 s312 s313 s314 s315 s316 s317 s318 s319 s320 s321 s322 s323 s324 s325 s326 s327 s328 s329 : Value) (Q0 : Exit → Act → World → Prop) (s : ByteArray) (A : Option Addr) (n cp B : Nat) (r : List JR) (w : World) (h : Rd w B 6 A n (jrs r)) (hB : B ≤ w.heap.size) (hn : n ≤ 1000)
    (hQ : ∀ (u26 u198 u199 u200 u201 u202 u203 u204 u205 u206 u207 u208 u209 u210 u211 u212 u213 u214 u215 u216 u217 u218 u219 u220 u221 u222 u223 u224 u225 : Value) (w' : World), Drew w w' → Q0 (.exit 3) ⟨#[s0, s1, .string s, s3, s4, s5, s6, s7, .slice A n cp, s9, s10, s11, s12, s13, s14, s15, s16, s17, s18, s19, s20, s21, s22, s23, s24, .int .i64 (refJ (r.map JR.j) s), u26, s27, s28, s29, s30, s31, s32, s33, s34, s35, s36, s37, s38, s39, s40, s41, s42, s43, s44, s45, s46, s47, s48, s49, s50, s51, s52, s53, s54, s55, s56, s57, s58, s59, s60, s61, s62, s63, s64, s65, s66, s67, s68, s69, s70, s71, s72, s73, s74, s75, s76, s77, s78, s79, s80, s81, s82, s83, s84, s85, s86, s87, s88, s89, s90, s91, s92, s93, s94, s95, s96, s97, s98, s99, s100, s101, s102, s103, s104, s105, s106, s107, s108, s109, s110, s111, s112, s113, s114, s115, s116, s117, s118, s119, s120, s121, s122, s123, s124, s125, s126, s127, s128, s129, s130, s131, s132, s133, s134, s135, s136, s137, s138, s139, s140, s141, s142, s143, s144, s145, s146, s147, s148, s149, s150, s151, s152, s153, s154, s155, s156, s157, s158, s159, s160, s161, s162, s163, s164, s165, s166, s167, s168, s169, s170, s171, s172, s173, s174, s175, s176, s177, s178, s179, s180, s181, s182, s183, s184, s185, s186, s187, s188, s189, s190, s191, s192, s193, s194, s195, s196, s197, u198, u199, u200, u201, u202, u203, u204, u205, u206, u207, u208, u209, u210, u211, u212, u213, u214, u215, u216, u217, u218, u219, u220, u221, u222, u223, u224, u225, s226, s227, s228, s229, s230, s231, s232, s233, s234, s235, s236, s237, s238, s239, s240, s241, s242, s243, s244, s245, s246, s247, s248, s249, s250, s251, s252, s253, s254, s255, s256, s257, s258, s259, s260, s261, s262, s263, s264, s265, s266, s267, s268, s269, s270, s271, s272, s273, s274, s275, s276, s277, s278, s279, s280, s281, s282, s283, s284, s285, s286, s287, s288, s289, s290, s291, s292, s293, s294, s295, s296, s297, s298, s299, s300, s301, s302, s303, s304, s305, s306, s307, s308, s309, s310, s311, s312, s313, s314, s315, s316, s317, s318, s319, s320, s321, s322, s323, s324, s325, s326, s327, s328, s329], []⟩ w') :
    Code.wp Tryz.prog bpWho Q0 ⟨#[s0, s1, .string s, s3, s4, s5, s6, s7, .slice A n cp, s9, s10, s11, s12, s13, s14, s15, s16, s17, s18, s19, s20, s21, s22, s23, s24, .int .i64 0, .int .i64 ((n : Int) - 1), s27, s28, s29, s30, s31, s32, s33, s34, s35, s36, s37, s38, s39, s40, s41, s42, s43, s44, s45, s46, s47, s48, s49, s50, s51, s52, s53, s54, s55, s56, s57, s58, s59, s60, s61, s62, s63, s64, s65, s66, s67, s68, s69, s70, s71, s72, s73, s74, s75, s76, s77, s78, s79, s80, s81, s82, s83, s84, s85, s86, s87, s88, s89, s90, s91, s92, s93, s94, s95, s96, s97, s98, s99, s100, s101, s102, s103, s104, s105, s106, s107, s108, s109, s110, s111, s112, s113, s114, s115, s116, s117, s118, s119, s120, s121, s122, s123, s124, s125, s126, s127, s128, s129, s130, s131, s132, s133, s134, s135, s136, s137, s138, s139, s140, s141, s142, s143, s144, s145, s146, s147, s148, s149, s150, s151, s152, s153, s154, s155, s156, s157, s158, s159, s160, s161, s162, s163, s164, s165, s166, s167, s168, s169, s170, s171, s172, s173, s174, s175, s176, s177, s178, s179, s180, s181, s182, s183, s184, s185, s186, s187, s188, s189, s190, s191, s192, s193, s194, s195, s196, s197, s198, s199, s200, s201, s202, s203, s204, s205, s206, s207, s208, s209, s210, s211, s212, s213, s214, s215, s216, s217, s218, s219, s220, s221, s222, s223, s224, s225, s226, s227, s228, s229, s230, s231, s232, s233, s234, s235, s236, s237, s238, s239, s240, s241, s242, s243, s244, s245, s246, s247, s248, s249, s250, s251, s252, s253, s254, s255, s256, s257, s258, s259, s260, s261, s262, s263, s264, s265, s266, s267, s268, s269, s270, s271, s272, s273, s274, s275, s276, s277, s278, s279, s280, s281, s282, s283, s284, s285, s286, s287, s288, s289, s290, s291, s292, s293, s294, s295, s296, s297, s298, s299, s300, s301, s302, s303, s304, s305, s306, s307, s308, s309, s310, s311, s312, s313, s314, s315, s316, s317, s318, s319, s320, s321, s322, s323, s324, s325, s326, s327, s328, s329], []⟩ w := by
  have HQ := Lib.hid hQ
  have HL := Lib.hid h.jrs_len
  clear hQ
  conv => arg 2; whnf
  conv => arg 4; dsimp only
  go_loopw [25, 26] (fun uv iv wx => ∃ (k : Nat) (z : Int), k ≤ n ∧ z = (k : Int) - 1 ∧ iv = .int .i64 z ∧ uv = .int .i64 (refJ ((r.drop k).map JR.j) s) ∧ Drew w wx) (fun _ iv _ => (intOf iv + 1).toNat)
  case atStart => exact ⟨n, _, Nat.le_refl _, rfl, rfl, by rw [List.drop_of_length_le (by rw [HL.out]; exact Nat.le_refl _)]; rfl, Drew.refl _⟩
  case round =>
    obtain ⟨k, z, hk, hz, rfl, rfl, q, rfl⟩ := hrel
    cases k with
    | zero =>
      have hz0 : ¬ (0 : Int) ≤ z := by omega
      clear hz
      go_wp2_with fail
      exact HQ.out _ _ _ _ _ _ _ _ _ _ _ _ _ _ _ _ _ _ _ _ _ _ _ _ _ _ _ _ _ _ ⟨q, rfl⟩
    | succ k =>
      obtain rfl : z = (k : Int) := by omega
      clear hz
      have hkn : (k : Int) < (n : Int) := by omega
      have h0 : (0 : Int) ≤ (k : Int) := by omega
      obtain ⟨ad, a, rfl, hb1, hx, p1, p2, p3, p4, p5, p6⟩ := h.jr (i := k) (by omega)
      have HS : Hid (refJ ((r.drop k).map JR.j) s = if holdsRef s a.j = true then a.j.id else refJ ((r.drop (k + 1)).map JR.j) s) := refJ_drop hx s
      unfold holdsRef at HS
      have hblt : ad.block < w.heap.size := by omega
      clear hx h
      generalize refJ ((r.drop (k + 1)).map JR.j) s = T at *
      cases t1 : (s.toList == [])
      · have t1' : (s.toList != []) = true := by simp [bne, t1]
        rw [t1] at HS
        cases t2 : a.j.void
        · rw [t2] at HS p6
          cases t3 : (a.j.ref.toList == s.toList)
          · rw [t3] at HS
            have HS2 : Hid (refJ ((r.drop k).map JR.j) s = T) := HS.out.trans (by simp)
            clear HS
            go_wp2_with fail
            exact ⟨⟨k, (k : Int) - 1, by omega, rfl, by go_num, by rw [HS2.out], ⟨q, rfl⟩⟩, by simp [intOf]⟩
          · rw [t3] at HS
            have HS2 : Hid (refJ ((r.drop k).map JR.j) s = a.j.id) := HS.out.trans (by simp)
            clear HS
            go_wp2_with fail
            exact ⟨⟨k, (k : Int) - 1, by omega, rfl, by go_num, by rw [HS2.out], ⟨q, rfl⟩⟩, by simp [intOf]⟩
        · rw [t2] at HS p6
          have HS2 : Hid (refJ ((r.drop k).map JR.j) s = T) := HS.out.trans (by simp)
          clear HS
          go_wp2_with fail
          exact ⟨⟨k, (k : Int) - 1, by omega, rfl, by go_num, by rw [HS2.out], ⟨q, rfl⟩⟩, by simp [intOf]⟩
      · have t1' : (s.toList != []) = false := by simp [bne, t1]
        rw [t1] at HS
        have HS2 : Hid (refJ ((r.drop k).map JR.j) s = T) := HS.out.trans (by simp)
        clear HS
        go_wp2_with fail
        exact ⟨⟨k, (k : Int) - 1, by omega, rfl, by go_num, by rw [HS2.out], ⟨q, rfl⟩⟩, by simp [intOf]⟩
end Go.Proofs.YtpbdmohccebhhaaGreat
