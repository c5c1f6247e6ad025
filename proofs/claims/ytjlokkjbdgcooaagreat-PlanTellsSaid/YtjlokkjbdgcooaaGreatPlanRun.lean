/-
  Contract of plan.Run.
-/
import Derived.Test.YtjlokkjbdgcooaaGreatMany14
import Derived.Test.YtjlokkjbdgcooaaGreatMany19
import Derived.Test.YtjlokkjbdgcooaaGreatStages
namespace Go.Proofs.YtjlokkjbdgcooaaGreat
open Mo
open Go.RowKit Go.Sort

/-- The journals of items in their order, numbered one behind the other. -/
noncomputable def runT (l : List Tpl) (first : Int) : List Itm → List Jrn → Option (List Jrn)
  | [], acc => some acc
  | x :: r, acc => match l[x.id.toNat]? with
    | some t => if mkB t x.per (first + acc.length) = true then runT l first r (acc ++ mkL t x.per (first + acc.length)) else none
    | none => none
noncomputable def runJ (l : List Tpl) (first : Int) : Option (List Jrn) := runT l first (putsI [] (itemsK l l.length)) []
theorem runT_step {l : List Tpl} {first : Int} {x : Itm} {r : List Itm} {acc : List Jrn} {t : Tpl} {i : Nat} (hi : x.id = i) (ht : l[i]? = some t) :
    runT l first (x :: r) acc = if mkB t x.per (first + acc.length) = true then runT l first r (acc ++ mkL t x.per (first + acc.length)) else none := by
  show (match l[x.id.toNat]? with | some t => _ | none => none) = _
  rw [show x.id.toNat = i by omega, ht]
theorem mem_insI {x y : Itm} {l : List Itm} (h : y ∈ putI l x) : y = x ∨ y ∈ l := by
  unfold putI at h
  split at h
  · exact .inr h
  · have := (insI_perm l x).mem_iff.1 h
    simpa using this
theorem mem_putsI : ∀ (m l : List Itm) (y : Itm), y ∈ putsI l m → y ∈ l ∨ y ∈ m
  | [], _, _, h => .inl h
  | x :: m, l, y, h => by
    rcases mem_putsI m (putI l x) y h with h | h
    · rcases mem_insI h with rfl | h
      · exact .inr (List.mem_cons_self ..)
      · exact .inl h
    · exact .inr (List.mem_cons_of_mem _ h)
/-- Every item is of one of the templates. -/
def IdIn (n : Nat) (x : Itm) : Prop := ∃ i : Nat, x.id = i ∧ i < n
theorem itemsK_in (l : List Tpl) : ∀ k, ∀ x ∈ itemsK l k, IdIn k x
  | 0, _, h => by cases h
  | k + 1, x, h => by
    rcases List.mem_append.1 h with h | h
    · obtain ⟨i, h1, h2⟩ := itemsK_in l k x h
      exact ⟨i, h1, by omega⟩
    · cases hg : l[k]? with
      | none => rw [hg] at h; cases h
      | some t =>
        rw [hg] at h
        obtain ⟨p, _, rfl⟩ := List.mem_map.1 (show x ∈ tplP k t.rk (perT t) from h)
        exact ⟨k, rfl, by omega⟩
theorem mkL_len (t : Tpl) (per id : Int) : (mkL t per id).length ≤ 2 := by
  unfold mkL accL
  split <;> simp <;> split <;> simp
def okN : Value → Nat
  | .bool true => 1
  | _ => 0
/-- How many rounds there are yet. -/
def runM (b : Nat) (ok : Value) (w : World) : Nat := lenV ((w.cell? ⟨b, 0, none⟩).getD (.bool false)) + okN ok
theorem runM_of {w : World} {B b : Nat} {v ok : Value} {L : List Itm} (h : AgAt w B b v L) : runM b ok w = L.length + okN ok := by
  obtain ⟨A, c, rfl⟩ := h.form
  unfold runM
  rw [h.cell]
  rfl
theorem OwnJl.keptS {w w' : World} {B n c : Nat} {A : Option Addr} {l : List JR} (h : OwnJl w B A n c l) (hb : ∀ k, B ≤ k → k < w.heap.size → w'.heap[k]? = w.heap[k]?) : OwnJl w' B A n c l :=
  ⟨own_kept h.own fun k hk ho => hb k (own_ge h.own k ho) hk, fun a ha => own_kept (h.lines a ha) fun k hk ho => hb k (own_ge (h.lines a ha) k ho) hk⟩
theorem OwnJl.base {w : World} {B B' n c : Nat} {A : Option Addr} {l : List JR} (h : OwnJl w B A n c l) (hB : B' ≤ B) : OwnJl w B' A n c l := ⟨own_base h.own hB, fun a ha => own_base (h.lines a ha) hB⟩
theorem own_typed {w : World} {B n : Nat} {e : TypeId} {size : Nat} {v : Value} {xs : List Value} (h : w.ownsRow B e size v n xs) {k : Nat} (hk : v.ownBlock = some k) : ∃ cs, w.heap[k]? = some (.cells cs e (0, 0)) := by
  rcases h.2 with ⟨rfl, _⟩ | ⟨g, cap, cur, rfl, _, hh, _⟩
  · simp [Value.ownBlock] at hk
  · have : g = k := by simpa [Value.ownBlock] using hk
    subst this
    exact ⟨_, hh⟩
/-- Journals appended to journals, both one's own. -/
theorem append_own {w : World} {base m n cap c : Nat} {A A2 : Option Addr} {L l2 : List JR} (h : OwnJl w base A m cap L) (h2 : OwnJl w base A2 n c l2) (hb : base ≤ w.heap.size) (hm : m + n ≤ 1000000) :
    ∃ v' w', (∀ ty, (Builtin.append_ #[48, 48] ty #[.slice A m cap, .slice A2 n c]).run Tryz.prog w = .ok v' w') ∧ (∃ A' c', v' = .slice A' (m + n) c' ∧ OwnJl w' base A' (m + n) c' (L ++ l2)) ∧ But (fun k => (Value.slice A m cap).ownBlock = some k) w w' ∧ Below base w w' := by
  obtain ⟨v', w', hrun, hown, hg, hp⟩ := append_fresh (P := Tryz.prog) (ty := 0) (c := c) infoJrn Tryz.underlying48 rfl (by omega) base _ m (jrs L) h.own (rd_of_own h2.own) (jrs_one _) (by unfold maxLen; omega) (by omega) (by omega)
  rw [← jrs_append] at hown
  have hbut : But (fun k => (Value.slice A m cap).ownBlock = some k) w w' := But.of_grown hg
  obtain ⟨A', c', rfl⟩ := own_form hown
  refine ⟨_, w', fun ty => hrun, ⟨A', c', rfl, hown, fun a ha => ?_⟩, hbut, (Below.refl _ _).grown hg hb (own_ge h.own)⟩
  have hl : w.ownsRow base 113 3 a.lv a.j.lines.length (lins a.j.lines) := by
    rcases List.mem_append.1 ha with ha | ha
    · exact h.lines a ha
    · exact h2.lines a ha
  refine own_kept hl fun k hk ho => hbut.block k hk fun ho2 => ?_
  obtain ⟨cs, hcs⟩ := own_typed h.own ho2
  exact own_ne hl hcs (by decide) ho

def RunEnd (w : World) (o : Option (List Jrn)) (e : Ending) (w' : World) : Prop :=
  Below w.heap.size w w' ∧ ((o = none ∧ e = .returned (.tuple #[.slice none 0 0, .int .i64 1])) ∨ ∃ A c l, o = some (l.map JR.j) ∧ e = .returned (.tuple #[.slice A (List.length l) c, .int .i64 0]) ∧ OwnJl w' w.heap.size A (List.length l) c l)
/-- What holds of a run between its rounds. -/
def RunSt (l : List Tpl) (first : Int) (n B b S : Nat) (v : Value) (w1 : World) (R : Option (List Jrn)) (lv xv ov : Value) (w : World) : Prop :=
  ∃ r v' la A c g x, AgAt w B b v' r ∧ v'.ownBlock = v.ownBlock ∧ Below B w1 w ∧ OwnJl w S A (List.length la) c la ∧ lv = .slice A (List.length la) c ∧ xv = .pointer (some ⟨g, 0, none⟩) ∧ S ≤ g ∧
    w.heap[g]? = some (.cells #[.int .i64 (Itm.per x), .int .i64 x.rk, .int .i64 x.id] 71 (0, 0)) ∧
    ((ov = .bool true ∧ (∀ y ∈ x :: r, IdIn n y) ∧ runT l first (x :: r) (la.map JR.j) = R ∧ la.length + 2 * (r.length + 1) ≤ 2000) ∨ (ov = .bool false ∧ R = some (la.map JR.j)))

def NextTo (L : List Itm) (w : World) (B b : Nat) (v : Value) (e : Ending) (w' : World) : Prop :=
  ∃ x ok, e = .returned (.tuple #[.agg #[.int .i64 (Itm.per x), .int .i64 x.rk, .int .i64 x.id], .bool ok]) ∧ ((ok = true ∧ ∃ r, L = x :: r ∧ AgStay w B b v r w') ∨ (ok = false ∧ L = [] ∧ AgStay w B b v [] w'))
theorem agNext_any {w : World} {B b : Nat} {v : Value} {L : List Itm} (h : AgAt w B b v L) : Calls Tryz.prog 102 #[.pointer (some ⟨b, 0, none⟩)] w (NextTo L w B b v) := by
  cases L with
  | nil => exact (agNext_none h).mono fun e w' h2 => ⟨⟨0, 0, 0⟩, false, h2.1, .inr ⟨rfl, rfl, AgStay.of_below h h2.2⟩⟩
  | cons x r => exact (agNext_some h).mono fun e w' h2 => ⟨x, true, h2.1, .inl ⟨rfl, r, rfl, h2.2⟩⟩
set_option maxRecDepth 100000 in
set_option maxHeartbeats 4000000 in
theorem run_any (first : Int) (l : List Tpl) (A : Option Addr) (n c : Nat) (w : World) (hR : Rd w w.heap.size 12 A n (tpls l)) (hin : ∀ t ∈ l, TplIn w t) (hn : n ≤ 1000000) (hf : -1000000000000000 ≤ first ∧ first ≤ 1000000000000000) :
    Calls Tryz.prog 24 #[.int .i64 first, .slice A n c] w (RunEnd w (runJ l first)) := by
  have hln := hR.tpls_len
  have KI := Lib.hid (items_any l A n c w hR hin hn)
  have HTR : Hid (∀ w1, Below w.heap.size w w1 → Rd w1 w.heap.size 12 A n (tpls l)) := fun w1 h1 => hR.below h1
  have HIN : Hid (∀ t, t ∈ l → ∀ w1, Below w.heap.size w w1 → TplIn w1 t) := fun t ht w1 h1 => (hin t ht).below h1
  obtain ⟨R, hRR⟩ : ∃ R, runJ l first = R := ⟨_, rfl⟩
  have HR0 : Hid (runT l first (putsI [] (itemsK l n)) [] = R) := by rw [Hid, ← hRR, ← hln]; rfl
  have HID : Hid (∀ y ∈ putsI [] (itemsK l n), IdIn n y) := fun y hy => by
    rcases mem_putsI _ _ y hy with h | h
    · cases h
    · exact itemsK_in l n y h
  rw [hRR]
  clear hR hin hRR hln
  go_enter Tryz.func24, Tryz.ntmps24
  go_wp2_with fail
  refine KI.out.mono ?_
  rintro e w1 ⟨b, v, rfl, hat, hb1⟩
  have hlen := hat.len
  have HAT := Lib.hid hat; have HB1 := Lib.hid hb1
  have HLT : Hid (∀ k, InAg b v k → k < w1.heap.size) := hat.ltB
  generalize putsI [] (itemsK l n) = L at *
  have kn := agNext_any hat
  have KN := Lib.hid kn
  clear KI kn hat hb1
  go_wp2_with fail
  refine KN.out.mono ?_
  rintro e w2 ⟨x, ok, rfl, hres⟩
  have HRES := Lib.hid hres
  clear hres KN
  go_wp2_with fail
  go_loopw [6, 8, 9] (fun lv xv ov wr => RunSt l first n w.heap.size b w1.heap.size v w R lv xv ov wr) (fun _ _ ov wr => runM b ov wr)
  case atStart =>
    have hb0 : ∀ {r}, AgStay w1 w.heap.size b v r w2 → Below w.heap.size w2 (w2.alloc (.cells #[.int .i64 x.per, .int .i64 x.rk, .int .i64 x.id] 71)) ∧ Below w.heap.size w w2 ∧ w1.heap.size ≤ w2.heap.size := fun {r} T => by
      have h2 := HB1.out.trans (T.to.bel HAT.out HB1.out.size)
      obtain ⟨_, _, hb, _⟩ := T
      exact ⟨(Below.refl _ _).alloc h2.size _, h2, hb.size⟩
    rcases HRES.out with ⟨rfl, r, rfl, T⟩ | ⟨rfl, rfl, T⟩
    · obtain ⟨h1, h2, h3⟩ := hb0 T
      obtain ⟨v2, hat2, _, hsame2⟩ := T
      simp at hlen
      exact ⟨r, v2, [], none, 0, w2.heap.size, x, hat2.below ((Below.refl _ _).alloc (Nat.le_refl _) _), hsame2, h2.trans h1, ⟨World.ownsRow_nil _ _ _ _, fun a ha => by cases ha⟩, rfl, rfl, h3, heap_new w2 _, .inl ⟨rfl, HID.out, HR0.out, by simp; omega⟩⟩
    · obtain ⟨h1, h2, h3⟩ := hb0 T
      obtain ⟨v2, hat2, _, hsame2⟩ := T
      exact ⟨[], v2, [], none, 0, w2.heap.size, x, hat2.below ((Below.refl _ _).alloc (Nat.le_refl _) _), hsame2, h2.trans h1, ⟨World.ownsRow_nil _ _ _ _, fun a ha => by cases ha⟩, rfl, rfl, h3, heap_new w2 _, .inr ⟨rfl, HR0.out.symm⟩⟩
  case round =>
    obtain ⟨r, v', la, A6, c6, g, x, hat, hsame, hbel, hown, rfl, rfl, hSg, hg, hcase⟩ := hrel
    clear HRES
    rcases hcase with ⟨rfl, hids, hrun, hlen2⟩ | ⟨rfl, hRn⟩
    · obtain ⟨i, hi, hin⟩ := hids x (List.mem_cons_self ..)
      obtain ⟨ad, t, rfl, hb0, hx, ⟨x0, x1, x2, x3, x4, x5⟩, x6, x7, x8, x9, x10, x11⟩ := (HTR.out _ hbel).tpl hin
      have hRS := (runT_step (first := first) (r := r) (acc := la.map JR.j) hi hx).symm.trans hrun
      rw [List.length_map] at hRS
      have hinI : (i : Int) < (n : Int) := by omega
      have hMem := List.mem_of_getElem? hx
      have KM : Hid (∀ w3, Below w.heap.size w w3 → Calls Tryz.prog 16 #[.agg t.cells.toArray, .int .i64 x.per, .int .i64 (wrap64 (first + (la.length : Int)))] w3 (MkEnd w3 (mkB t x.per (first + (la.length : Int))) (mkL t x.per (first + (la.length : Int))))) := fun w3 h3 => by
        have := makeT_any t x.per (first + (la.length : Int)) w3 (HIN.out t hMem w3 h3) (by omega)
        rwa [show wrap64 (first + (la.length : Int)) = first + (la.length : Int) by unfold wrap64; omega]
      have HLA : Hid ((mkL t x.per (first + (la.length : Int))).length ≤ 2) := mkL_len _ _ _
      have HG := Lib.hid hg
      rw [hi] at hg
      obtain ⟨q0, q1, q2⟩ := cells3_regrown hg
      have HATr := Lib.hid hat; have HSM := Lib.hid hsame; have HBEL := Lib.hid hbel; have HOWN := Lib.hid hown; have HIDS := Lib.hid hids; have HRS := Lib.hid hRS; have HL2 := Lib.hid hlen2; have HSG := Lib.hid hSg
      have HRM := Lib.hid (runM_of (ok := .bool true) hat)
      clear hat hsame hbel hown hids hrun hRS hlen2 hSg hx hMem hg
      unfold Tpl.cells at *
      go_wp2_with fail
      replace q0 := cell_regrown q0; replace q2 := cell_regrown q2
      replace x0 := cell_regrown x0; replace x1 := cell_regrown x1; replace x2 := cell_regrown x2; replace x3 := cell_regrown x3; replace x4 := cell_regrown x4; replace x5 := cell_regrown x5
      replace x6 := cell_regrown x6; replace x7 := cell_regrown x7; replace x8 := cell_regrown x8; replace x9 := cell_regrown x9; replace x10 := cell_regrown x10; replace x11 := cell_regrown x11
      refine wp_region_stages 11 (by kernel_rfl) (by kernel_rfl) ?_
      simp only [List.take_succ_cons, List.take_zero, List.drop_succ_cons, List.drop_zero]
      repeat (go_big_quiet_step (fail))
      refine wpQuiet_nil ?_
      intro w3 hw3
      have hb3 : Below wr.heap.size wr w3 := by
        obtain ⟨p, rfl⟩ := hw3
        exact below_regrown _ _ _
      have km := KM.out _ (HBEL.out.trans (hb3.mono HBEL.out.size))
      have KM2 := Lib.hid km
      have HB3 := Lib.hid hb3
      clear km hb3 KM hw3 q0 q1 q2 x0 x1 x2 x3 x4 x5 x6 x7 x8 x9 x10 x11
      refine stage_run 11 13 (by kernel_rfl) ?_
      simp only [List.take_succ_cons, List.take_zero, List.drop_succ_cons, List.drop_zero]
      go_wp2_with fail
      refine KM2.out.mono ?_
      rintro e w4 ⟨hb4, hres⟩
      have HB4 := Lib.hid (HB3.out.trans (hb4.mono HB3.out.size))
      rcases hres with ⟨hmk, rfl⟩ | ⟨hmk, A5, c5, l5, rfl, hmap, hown5⟩
      · clear hb4 KM2
        go_wp2_with fail
        show StageAt _ _ _ 13 _ _
        refine stage_below 13 16 (by kernel_rfl) ?_
        simp only [List.take_succ_cons, List.take_zero, List.drop_succ_cons, List.drop_zero]
        repeat (go_big_quiet_step (fail))
        refine wpQuiet_nil ?_
        intro w5 hw5
        have hb5 : Below w4.heap.size w4 w5 := by
          obtain ⟨p, rfl⟩ := hw5
          exact below_regrown _ _ _
        have HB5 := Lib.hid (HB4.out.trans (hb5.mono HB4.out.size))
        clear hb5 hw5
        refine stage_end 16 (by kernel_rfl) ?_
        simp only [List.take_succ_cons, List.take_zero, List.drop_succ_cons, List.drop_zero]
        go_wp2_with fail
        go_ret2
        exact ⟨HBEL.out.trans (HB5.out.mono HBEL.out.size), .inl ⟨by have := HRS.out; rw [hmk] at this; exact this.symm, rfl⟩⟩
      · have hS : w1.heap.size ≤ wr.heap.size := Nat.le_trans HSG.out (Nat.le_of_lt (lt_of_blk HG.out))
        have hl5 : l5.length ≤ 2 := by
          have := congrArg List.length hmap
          rw [List.length_map] at this
          rw [this]
          exact HLA.out
        have HMAP := Lib.hid hmap
        have HMK := Lib.hid hmk
        have HO5 : Hid (OwnJl w4 w1.heap.size A5 l5.length c5 l5) := hown5.base (Nat.le_trans hS HB3.out.size)
        clear hb4 KM2 hmap hmk hown5
        go_wp2_with fail
        show StageAt _ _ _ 13 _ _
        refine stage_below 13 16 (by kernel_rfl) ?_
        simp only [List.take_succ_cons, List.take_zero, List.drop_succ_cons, List.drop_zero]
        repeat (go_big_quiet_step (fail))
        refine wpQuiet_nil ?_
        intro w5 hw5
        have hb5 : Below w4.heap.size w4 w5 := by
          obtain ⟨p, rfl⟩ := hw5
          exact below_regrown _ _ _
        have hb25 : Below wr.heap.size wr w5 := HB4.out.trans (hb5.mono HB4.out.size)
        have hll : la.length + l5.length ≤ 1000000 := by have := HL2.out; omega
        obtain ⟨v6, w6, hrun6, ⟨A7, c7, rfl, hown6⟩, hbut6, hbel6⟩ := append_own (HOWN.out.kept hb25) (HO5.out.kept hb5) (Nat.le_trans hS hb25.size) hll
        have hin6 : ∀ k, InAg b v' k → (Value.slice A6 la.length c6).ownBlock ≠ some k := fun k hk e => by
          have h1 := own_ge HOWN.out.own k e
          have h2 : InAg b v k := by
            rcases hk with h | h
            · exact .inl h
            · exact .inr (HSM.out ▸ h)
          have := HLT.out k h2
          omega
        have hg6 : w6.heap[g]? = some (.cells #[.int .i64 x.per, .int .i64 x.rk, .int .i64 x.id] 71 (0, 0)) := by
          rw [hbut6.block g (Nat.lt_of_lt_of_le (lt_of_blk HG.out) hb25.size) (fun e => own_ne HOWN.out.own HG.out (by decide) e), hb25.block g (lt_of_blk HG.out)]
          exact HG.out
        have hat6 : AgAt w6 w.heap.size b v' r := (HATr.out.below hb25).but hbut6 hin6
        have hB06 : Below w.heap.size w w6 := (HBEL.out.trans (hb25.mono HBEL.out.size)).trans (hbel6.mono HB1.out.size)
        have hs6 : w1.heap.size ≤ w6.heap.size := Nat.le_trans (Nat.le_trans hS hb25.size) hbel6.size
        rw [hi] at hg6
        obtain ⟨q0, q1, q2⟩ := cells3_regrown hg6
        obtain ⟨W7, hW7⟩ : ∃ W7, w6.alloc (.cells #[.int .i64 x.per, .int .i64 x.rk, .int .i64 i] 71) = W7 := ⟨_, rfl⟩
        have hb7 : Below w6.heap.size w6 W7 := by rw [← hW7]; exact (Below.refl _ _).alloc (Nat.le_refl _) _
        have hg7 : W7.heap[w6.heap.size]? = some (.cells #[.int .i64 x.per, .int .i64 x.rk, .int .i64 i] 71 (0, 0)) := by rw [← hW7]; exact heap_new w6 _
        have hat7 := hat6.below hb7
        have KN := Lib.hid (agNext_any hat7)
        have HRUN6 := Lib.hid hrun6
        have HOWN6 : Hid (OwnJl W7 w1.heap.size A7 (la.length + l5.length) c7 (la ++ l5)) := hown6.kept hb7
        have HOWNk := Lib.hid hown6
        have HAT7 := Lib.hid hat7; have HB06 := Lib.hid hB06; have HG7 := Lib.hid hg7; have HW7 := Lib.hid hW7; have HB7 := Lib.hid hb7; have HS6 := Lib.hid hs6
        clear hw5 hb5 hb25 hrun6 hown6 hbut6 hbel6 hin6 hg6 hat6 hB06 hs6 hW7 hb7 hg7 hat7
        refine stage_end 16 (by kernel_rfl) ?_
        simp only [List.take_succ_cons, List.take_zero, List.drop_succ_cons, List.drop_zero]
        go_wp2_with (at_builtin; refine wpList_append_run rfl _ _ _ rfl _ _ _ _ rfl rfl (HRUN6.out _) ?_)
        rw [HW7.out]
        clear q0 q1 q2
        go_wp2_with fail
        refine KN.out.mono ?_
        rintro e w8 ⟨x8, ok8, rfl, hres8⟩
        have hbut8 : But (InAg b v') W7 w8 ∧ ∃ v8 r8, v8.ownBlock = v'.ownBlock ∧ AgAt w8 w.heap.size b v8 r8 ∧ ((ok8 = true ∧ r = x8 :: r8) ∨ (ok8 = false ∧ r = [] ∧ r8 = [])) := by
          rcases hres8 with ⟨rfl, r8, rfl, v8, h1, h2, h3⟩ | ⟨rfl, rfl, v8, h1, h2, h3⟩
          · exact ⟨h2, v8, r8, h3, h1, .inl ⟨rfl, rfl⟩⟩
          · exact ⟨h2, v8, [], h3, h1, .inr ⟨rfl, rfl, rfl⟩⟩
        obtain ⟨hbut8, v8, r8, hsame8, hat8, hcase8⟩ := hbut8
        have hnin : ∀ k, w1.heap.size ≤ k → ¬ InAg b v' k := fun k hk hi => by
          have h2 : InAg b v k := by
            rcases hi with h | h
            · exact .inl h
            · exact .inr (HSM.out ▸ h)
          have := HLT.out k h2
          omega
        have hg8 : w8.heap[w6.heap.size]? = some (.cells #[.int .i64 x.per, .int .i64 x.rk, .int .i64 i] 71 (0, 0)) := by
          rw [hbut8.block _ (lt_of_blk HG7.out) (hnin _ HS6.out)]
          exact HG7.out
        have HB8 : Hid (Below w.heap.size w w8) := by
          have h2 : AgStay W7 w.heap.size b v' r8 w8 := ⟨v8, hat8, hbut8, hsame8⟩
          have h3 := HB06.out.trans (HB7.out.mono HB06.out.size)
          exact h3.trans (h2.to.bel HAT7.out h3.size)
        have HO8 : Hid (OwnJl w8 w1.heap.size A7 (la.length + l5.length) c7 (la ++ l5)) := HOWN6.out.keptS fun k hk hk2 => hbut8.block k hk2 (hnin k hk)
        have hwf := fun o => warm_of hg8 o
        obtain ⟨q0, q1, q2⟩ := cells3_regrown hg8
        have HG8 := Lib.hid hg8; have HAT8 := Lib.hid hat8; have HC8 := Lib.hid hcase8; have HSM8 := Lib.hid hsame8
        clear hres8 hbut8 hg8 hat8 hcase8 hnin hsame8 KN
        go_wp2_with fail
        have hb9 : Below w6.heap.size w8 (((w8.setCell ⟨w6.heap.size, 0, none⟩ (.int .i64 x8.per)).setCell ⟨w6.heap.size, 1, none⟩ (.int .i64 x8.rk)).setCell ⟨w6.heap.size, 2, none⟩ (.int .i64 x8.id)) := below_three _ _ _ _ _
        have hg9 : (((w8.setCell ⟨w6.heap.size, 0, none⟩ (.int .i64 x8.per)).setCell ⟨w6.heap.size, 1, none⟩ (.int .i64 x8.rk)).setCell ⟨w6.heap.size, 2, none⟩ (.int .i64 x8.id)).heap[w6.heap.size]? = some (.cells #[.int .i64 x8.per, .int .i64 x8.rk, .int .i64 x8.id] 71 (0, 0)) := set_here (set_here (set_here HG8.out))
        generalize (((w8.setCell ⟨w6.heap.size, 0, none⟩ (.int .i64 x8.per)).setCell ⟨w6.heap.size, 1, none⟩ (.int .i64 x8.rk)).setCell ⟨w6.heap.size, 2, none⟩ (.int .i64 x8.id)) = w9 at *
        have hk9 : ∀ k, InAg b v8 k → k < w6.heap.size := fun k hi => by
          have h2 : InAg b v k := by
            rcases hi with h | h
            · exact .inl h
            · exact .inr (by rw [HSM8.out, HSM.out] at h; exact h)
          have := HLT.out k h2
          have := HS6.out
          omega
        have hat9 : AgAt w9 w.heap.size b v8 r8 := HAT8.out.kept fun k hk hi => hb9.block k (hk9 k hi)
        have hown9 : OwnJl w9 w1.heap.size A7 (la.length + l5.length) c7 (la ++ l5) :=
          ⟨own_kept HO8.out.own fun k _ ho => hb9.block k (own_lt HOWNk.out.own k ho), fun a ha => own_kept (HO8.out.lines a ha) fun k _ ho => hb9.block k (own_lt (HOWNk.out.lines a ha) k ho)⟩
        have hrs := HRS.out
        rw [if_pos HMK.out, ← HMAP.out, ← List.map_append] at hrs
        rw [← List.length_append] at hown9
        have hl2 := HL2.out
        have hrm := HRM.out
        rw [← List.length_append]
        refine ⟨⟨r8, v8, la ++ l5, A7, c7, w6.heap.size, x8, hat9, HSM8.out.trans HSM.out, HB8.out.trans (hb9.mono (Nat.le_trans HB1.out.size HS6.out)), hown9, rfl, rfl, HS6.out, hg9, ?_⟩, ?_⟩
        · rcases HC8.out with ⟨rfl, rfl⟩ | ⟨rfl, rfl, rfl⟩
          · refine .inl ⟨rfl, fun y hy => HIDS.out y (List.mem_cons_of_mem _ hy), hrs, ?_⟩
            rw [List.length_append]
            simp at hl2
            omega
          · exact .inr ⟨rfl, hrs.symm⟩
        · rw [hrm, runM_of hat9]
          rcases HC8.out with ⟨rfl, rfl⟩ | ⟨rfl, rfl, rfl⟩
          · simp [okN]
          · simp [okN]
    · have HBEL := Lib.hid hbel; have HOWN := Lib.hid hown; have HRn := Lib.hid hRn
      have hS : w.heap.size ≤ w1.heap.size := HB1.out.size
      clear hbel hown hRn hat hg
      go_wp2_with fail
      go_ret2
      exact ⟨HBEL.out, .inr ⟨A6, c6, la, HRn.out, rfl, HOWN.out.base hS⟩⟩
end Go.Proofs.YtjlokkjbdgcooaaGreat

