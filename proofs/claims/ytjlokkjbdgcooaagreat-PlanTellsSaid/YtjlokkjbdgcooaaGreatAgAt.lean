/-
  An agenda in memory, as the list of its items in order; Len, Put.
-/
import Derived.Test.YtjlokkjbdgcooaaGreatMany13
namespace Go.Proofs.YtjlokkjbdgcooaaGreat
open Go.RowKit Go.Sort

/-- The agenda in block b, of the variable v, has the items L, in order. -/
def AgAt (w : World) (B b : Nat) (v : Value) (L : List Itm) : Prop :=
  ∃ f, HeapAt w B b v L.length f ∧ Hp.Heap itmLt L.length f ∧ Rises L ∧ L.Perm (lst f L.length) ∧ L.length ≤ 1000
def AgTo (w : World) (B b : Nat) (v : Value) (L : List Itm) (w' : World) : Prop :=
  ∃ v', AgAt w' B b v' L ∧ But (InAg b v) w w' ∧ ∀ k, v'.ownBlock = some k → v.ownBlock = some k ∨ w.heap.size ≤ k
def AgStay (w : World) (B b : Nat) (v : Value) (L : List Itm) (w' : World) : Prop :=
  ∃ v', AgAt w' B b v' L ∧ But (InAg b v) w w' ∧ v'.ownBlock = v.ownBlock
section
variable {w w' : World} {B b : Nat} {v : Value} {L : List Itm}
theorem AgAt.blk (h : AgAt w B b v L) : w.heap[b]? = some (.cells #[v] 153 (0, 0)) := by obtain ⟨_, h, _⟩ := h; exact h.blk
theorem AgAt.lt (h : AgAt w B b v L) : b < w.heap.size := lt_of_blk h.blk
theorem AgAt.low (h : AgAt w B b v L) : B ≤ b := by obtain ⟨_, h, _⟩ := h; exact h.low
theorem AgAt.len (h : AgAt w B b v L) : L.length ≤ 1000 := by obtain ⟨_, _, _, _, _, h⟩ := h; exact h
theorem AgAt.rises (h : AgAt w B b v L) : Rises L := by obtain ⟨_, _, _, h, _⟩ := h; exact h
theorem AgAt.cell (h : AgAt w B b v L) : w.cell? ⟨b, 0, none⟩ = some v := by rw [cell_of h.blk]; rfl
theorem AgAt.form (h : AgAt w B b v L) : ∃ A c, v = .slice A L.length c := by obtain ⟨_, h, _⟩ := h; exact own_form h.own
theorem AgAt.kept (h : AgAt w B b v L) (hk : ∀ k, k < w.heap.size → InAg b v k → w'.heap[k]? = w.heap[k]?) : AgAt w' B b v L := by
  have hl := h.lt
  obtain ⟨f, h, r⟩ := h
  exact ⟨f, ⟨(hk b hl (.inl rfl)).trans h.blk, own_kept h.own fun k hk1 hk2 => hk k hk1 (.inr hk2), h.low⟩, r⟩
theorem AgAt.below (h : AgAt w B b v L) (hb : Below w.heap.size w w') : AgAt w' B b v L := h.kept fun k hk _ => hb.block k hk
theorem AgAt.but {S : Nat → Prop} (h : AgAt w B b v L) (hb : But S w w') (hs : ∀ k, InAg b v k → ¬ S k) : AgAt w' B b v L := h.kept fun k hk hi => hb.block k hk (hs k hi)
theorem AgAt.ge (h : AgAt w B b v L) : ∀ k, InAg b v k → B ≤ k := by
  obtain ⟨f, h, r⟩ := h
  rintro k (rfl | hk)
  · exact h.low
  · exact own_ge h.own k hk
theorem AgAt.ltB (h : AgAt w B b v L) : ∀ k, InAg b v k → k < w.heap.size := by
  rintro k (rfl | hk)
  · exact h.lt
  · obtain ⟨f, h, r⟩ := h
    exact own_lt h.own k hk
theorem AgAt.base {B' : Nat} (h : AgAt w B b v L) (hB : B' ≤ B) : AgAt w B' b v L := by
  obtain ⟨f, h, r⟩ := h
  exact ⟨f, ⟨h.blk, own_base h.own hB, Nat.le_trans hB h.low⟩, r⟩
theorem AgStay.to (h : AgStay w B b v L w') : AgTo w B b v L w' := by
  obtain ⟨v', h1, h2, h3⟩ := h
  exact ⟨v', h1, h2, fun k hk => .inl (by rw [← h3]; exact hk)⟩
theorem AgTo.refl (h : AgAt w B b v L) : AgTo w B b v L w := ⟨v, h, But.refl _ _, fun _ h => .inl h⟩
theorem AgStay.refl (h : AgAt w B b v L) : AgStay w B b v L w := ⟨v, h, But.refl _ _, rfl⟩
theorem AgTo.of_below (h : AgAt w B b v L) (hb : Below w.heap.size w w') : AgTo w B b v L w' := ⟨v, h.below hb, But.of_below hb, fun _ h => .inl h⟩
theorem AgStay.of_below (h : AgAt w B b v L) (hb : Below w.heap.size w w') : AgStay w B b v L w' := ⟨v, h.below hb, But.of_below hb, rfl⟩
theorem AgTo.bel (h : AgAt w B b v L) {L' : List Itm} (t : AgTo w B b v L' w') (hB : B ≤ w.heap.size) : Below B w w' := by
  obtain ⟨v', _, h2, _⟩ := t
  exact h2.below (fun k _ hk => h.ge k hk) hB
end
theorem AgTo.trans {w w1 w2 : World} {B b : Nat} {v v1 : Value} {L2 : List Itm} (h1 : But (InAg b v) w w1) (h2 : ∀ k, v1.ownBlock = some k → v.ownBlock = some k ∨ w.heap.size ≤ k) (t : AgTo w1 B b v1 L2 w2) : AgTo w B b v L2 w2 := by
  obtain ⟨v2, k1, k2, k3⟩ := t
  refine ⟨v2, k1, h1.more k2 fun i hi hk => ?_, fun k hk => ?_⟩
  · rcases hk with rfl | hk
    · exact .inl rfl
    · rcases h2 i hk with h | h
      · exact .inr h
      · omega
  · rcases k3 k hk with h | h
    · exact h2 k h
    · exact .inr (Nat.le_trans h1.size h)
theorem AgStay.trans {w w1 w2 : World} {B b : Nat} {v v1 : Value} {L2 : List Itm} (h1 : But (InAg b v) w w1) (h2 : v1.ownBlock = v.ownBlock) (t : AgStay w1 B b v1 L2 w2) : AgStay w B b v L2 w2 := by
  obtain ⟨v2, k1, k2, k3⟩ := t
  refine ⟨v2, k1, h1.more k2 fun i hi hk => ?_, k3.trans h2⟩
  rcases hk with rfl | hk
  · exact .inl rfl
  · exact .inr (h2 ▸ hk)
/-- Another agenda, apart from this one. -/
theorem AgAt.apart {w w' : World} {B b B2 b2 : Nat} {v v2 : Value} {L L2 L' : List Itm} (h2 : AgAt w B2 b2 v2 L2) (hd : ∀ k, InAg b2 v2 k → ¬ InAg b v k) (t : AgTo w B b v L' w') : AgAt w' B2 b2 v2 L2 ∧ ∀ v', (∀ k, v'.ownBlock = some k → v.ownBlock = some k ∨ w.heap.size ≤ k) → ∀ k, InAg b2 v2 k → ¬ InAg b v' k := by
  obtain ⟨v', _, hb, _⟩ := t
  refine ⟨h2.but hb hd, fun v3 h3 k hk hi => ?_⟩
  rcases hi with rfl | hi
  · exact hd k hk (.inl rfl)
  · rcases h3 k hi with h | h
    · exact hd k hk (.inr h)
    · have := h2.ltB k hk; omega
/-- A new one. -/
theorem ag_new (w : World) : AgAt (w.alloc (.cells #[.slice none 0 0] 153)) w.heap.size w.heap.size (.slice none 0 0) [] :=
  ⟨fun _ => default, ⟨heap_new w _, ⟨rfl, .inl ⟨rfl, rfl⟩⟩, Nat.le_refl _⟩, fun k h0 hk => by simp at hk, List.Pairwise.nil, List.Perm.refl _, by simp⟩

/-- What the list becomes where the heap gets one more. -/
theorem ag_push {w w' : World} {B b : Nat} {v : Value} {L : List Itm} {f f' : Nat → Itm} (x : Itm) (hr : Rises L) (hp : L.Perm (lst f L.length)) (hl : L.length < 1000) (t : HeapTo w B b v (L.length + 1) f' w') (hh : Hp.Heap itmLt (L.length + 1) f') (hq : Hp.Perm (L.length + 1) (put f L.length x) f') : AgTo w B b v (putI L x) w' := by
  obtain ⟨v', h1, h2, h3⟩ := t
  have e : putI L x = insI L x := by unfold putI; rw [if_neg (by omega)]
  rw [e]
  have hl2 := insI_len L x
  refine ⟨v', ⟨f', by rw [hl2]; exact h1, by rw [hl2]; exact hh, insI_rises L x hr, ?_, by omega⟩, h2, h3⟩
  rw [hl2]
  refine (insI_perm L x).trans ?_
  refine List.Perm.trans ?_ (lst_perm hq).symm
  rw [lst_succ, show lst (put f L.length x) L.length = lst f L.length from lst_congr fun k hk => by simp [put]; intro h; omega, show put f L.length x L.length = x by simp [put]]
  exact (hp.cons x).trans (List.perm_append_singleton x _).symm

set_option maxRecDepth 100000 in
theorem agLen_any {w : World} {B b : Nat} {v : Value} {L : List Itm} (h : AgAt w B b v L) : Calls Tryz.prog 28 #[.pointer (some ⟨b, 0, none⟩)] w fun e w' => e = .returned (.int .i64 L.length) ∧ w = w' := by
  have hc := h.cell
  obtain ⟨A, c, rfl⟩ := h.form
  clear h
  go_enter Tryz.func28, Tryz.ntmps28
  go_wp2
  go_ret
  exact ⟨rfl, rfl⟩
set_option maxRecDepth 100000 in
theorem agLen_nil (w : World) : Calls Tryz.prog 28 #[.pointer none] w fun e w' => e = .returned (.int .i64 0) ∧ w = w' := by
  go_enter Tryz.func28, Tryz.ntmps28
  go_wp2
  go_ret
  exact ⟨rfl, rfl⟩

/-- What is read stays where other blocks are written. -/
theorem Rd.but {w w' : World} {B0 size n : Nat} {A : Option Addr} {xs : List Value} {S : Nat → Prop} (h : Rd w B0 size A n xs) (hb : But S w w') (hB : B0 ≤ w.heap.size) (hd : 0 < n → ∀ ad, A = some ad → ¬ S ad.block) : Rd w' B0 size A n xs :=
  ⟨h.1, fun hn => by
    obtain ⟨ad, e, h1, h2⟩ := h.2 hn
    refine ⟨ad, e, h1, fun j u hu => ?_⟩
    rw [← h2 j u hu]
    exact World.cell?_of_block (by rw [add_block]; exact hb.block _ (by omega) (hd hn ad e))⟩

theorem takeI_step {l : List Itm} {k : Nat} {x : Itm} (h : l[k]? = some x) (L : List Itm) : putI (putsI L (l.take k)) x = putsI L (l.take (k + 1)) := by
  obtain ⟨hk, rfl⟩ := List.getElem?_eq_some_iff.1 h
  rw [List.take_succ_eq_append_getElem hk]
  unfold putsI
  rw [List.foldl_append]
  rfl
set_option maxRecDepth 100000 in
theorem agPut_nil (A : Option Addr) (n c : Nat) (w : World) : Calls Tryz.prog 104 #[.pointer none, .slice A n c] w fun e w' => e = .returned (.int .i64 0) ∧ w = w' := by
  go_enter Tryz.func104, Tryz.ntmps104
  go_wp2
  go_ret
  exact ⟨rfl, rfl⟩
set_option maxRecDepth 100000 in
set_option maxHeartbeats 2000000 in
theorem agPut_any (l : List Itm) (A : Option Addr) (n c B0 B b : Nat) (v : Value) (L : List Itm) (w : World) (h : AgAt w B b v L) (hR : Rd w B0 3 A n (itms l)) (hB : B0 ≤ w.heap.size) (hn : n ≤ 1000000) (hnc : n ≤ c) (hd : 0 < n → ∀ ad, A = some ad → ¬ InAg b v ad.block) :
    Calls Tryz.prog 104 #[.pointer (some ⟨b, 0, none⟩), .slice A n c] w fun e w' => e = .returned (.int .i64 (putsI L l).length) ∧ AgTo w B b v (putsI L l) w' := by
  have hL := h.len
  have hc := h.cell
  have hln := hR.itms_len
  obtain ⟨A0, c0, rfl⟩ := h.form
  obtain ⟨r, hr⟩ : ∃ r : Nat, 1000 - (L.length : Int) = (r : Int) := ⟨1000 - L.length, by omega⟩
  have hlI : ((L.length : Nat) : Int) ≤ 1000 := by omega
  have HT : Hid (putsI L (l.take (min r n)) = putsI L l) := by
    have := putsI_take l L hL
    rw [hln, show 1000 - L.length = r by omega] at this
    exact this
  have H := Lib.hid h; have HR := Lib.hid hR; have HD := Lib.hid hd
  have HLN := Lib.hid hln
  have HLR : Hid (L.length + r = 1000) := show L.length + r = 1000 by omega
  clear h hR hd hln
  have HC : (r ≤ n ∧ min r n = r) ∨ (¬ (r : Int) ≤ (n : Int) ∧ min r n = n) := by omega
  rcases HC with ⟨hrn, hm⟩ | ⟨hrn, hm⟩
  · rw [hm] at HT
    have hmn : r ≤ n := by omega
    have hmc : r ≤ c := by omega
    have HML : Hid (r ≤ r) := show r ≤ r by omega
    clear hm
    go_enter Tryz.func104, Tryz.ntmps104
    go_wp2_with fail
    go_loopw [23, 7] (fun iv _ wr => ∃ k : Nat, k ≤ r ∧ iv = .int .i64 k ∧ AgTo w B b (.slice A0 L.length c0) (putsI L (l.take k)) wr) (fun iv _ _ => r - (intOf iv).toNat)
    case atStart => exact ⟨0, Nat.zero_le _, rfl, AgTo.refl H.out⟩
    case round =>
      obtain ⟨k, hk, rfl, v1, hat, hbut, hown⟩ := hrel
      by_cases hlt : k < r
      · have hkI : (k : Int) < (r : Int) := by omega
        have hkn : k < n := by omega
        obtain ⟨ad, x, rfl, hb0, hx, p0, p1, p2⟩ := (HR.out.but hbut hB HD.out).itm hkn
        have p1' := cell_behind p1 (by omega)
        have p2' := cell_behind p2 (by omega)
        have hlen : (putsI L (l.take k)).length < 1000 := by
          have h1 := HLN.out
          have h2 := HLR.out
          have h3 := HML.out
          rw [putsI_len _ _ hL, List.length_take]
          omega
        have HX := Lib.hid (takeI_step hx L)
        have HAT := Lib.hid hat; have HBUT := Lib.hid hbut; have HOWN := Lib.hid hown; have HLEN := Lib.hid hlen
        clear hat hbut hown hlen hx p1 p2
        go_wp2_with fail
        obtain ⟨W2, hW2⟩ : ∃ W2, wr.alloc (.cells #[.int .i64 x.per, .int .i64 x.rk, .int .i64 x.id] 71) = W2 := ⟨_, rfl⟩
        have hi := heap_new wr (.cells #[.int .i64 x.per, .int .i64 x.rk, .int .i64 x.id] 71)
        rw [hW2] at hi
        obtain ⟨q0, q1, q2⟩ := cells3_regrown hi
        have HB2 : Hid (Below wr.heap.size wr W2) := by rw [← hW2]; exact (Below.refl _ _).alloc (Nat.le_refl _) _
        rw [hW2]
        clear hW2 hi p0 p1' p2'
        refine wp_region_drew_tail 6 (by kernel_rfl) (by kernel_rfl) ?_
        simp only [List.take_succ_cons, List.take_zero, List.drop_succ_cons, List.drop_zero]
        repeat (quiet_step (fail))
        refine wpQuiet_nil ?_
        rintro w' ⟨q, rfl⟩
        have hb3 : Below wr.heap.size wr (W2.drewN q) := below_drewN HB2.out q
        obtain ⟨f, hh, hheap, hrise, hperm, hle⟩ := HAT.out.below hb3
        have HB3 := Lib.hid hb3; have HHP := Lib.hid hheap; have HRI := Lib.hid hrise; have HPM := Lib.hid hperm; have HH := Lib.hid hh
        clear hb3 hheap hrise hperm hh hle q0 q1 q2
        go_wp2_with fail
        refine (heapPush_any b B _ v1 f x _ HH.out HHP.out (by have := HLEN.out; omega)).mono ?_
        rintro e w3 ⟨rfl, f', hto, hh3, hp3⟩
        have T := ag_push x HRI.out HPM.out HLEN.out hto hh3 hp3
        rw [HX.out] at T
        have T2 := Lib.hid (AgTo.trans (HBUT.out.trans (But.of_below HB3.out)) HOWN.out T)
        clear T hto hh3 hp3
        go_wp2_with fail
        exact ⟨⟨k + 1, by omega, by go_num, T2.out⟩, by simp [intOf]; omega⟩
      · obtain rfl : k = r := by omega
        have hcv := hat.cell
        obtain ⟨A1, c1, rfl⟩ := hat.form
        have HAT := Lib.hid hat; have HBUT := Lib.hid hbut; have HOWN := Lib.hid hown
        rw [HT.out] at hcv HAT HOWN
        clear hat hbut hown
        go_wp2_with fail
        go_ret
        exact ⟨rfl, _, HAT.out, HBUT.out, HOWN.out⟩
  · rw [hm] at HT
    have hmn : n ≤ n := by omega
    have hmc : n ≤ c := by omega
    have HML : Hid (n ≤ r) := show n ≤ r by omega
    clear hm
    go_enter Tryz.func104, Tryz.ntmps104
    go_wp2_with fail
    go_loopw [23, 7] (fun iv _ wr => ∃ k : Nat, k ≤ n ∧ iv = .int .i64 k ∧ AgTo w B b (.slice A0 L.length c0) (putsI L (l.take k)) wr) (fun iv _ _ => n - (intOf iv).toNat)
    case atStart => exact ⟨0, Nat.zero_le _, rfl, AgTo.refl H.out⟩
    case round =>
      obtain ⟨k, hk, rfl, v1, hat, hbut, hown⟩ := hrel
      by_cases hlt : k < n
      · have hkI : (k : Int) < (n : Int) := by omega
        have hkn : k < n := by omega
        obtain ⟨ad, x, rfl, hb0, hx, p0, p1, p2⟩ := (HR.out.but hbut hB HD.out).itm hkn
        have p1' := cell_behind p1 (by omega)
        have p2' := cell_behind p2 (by omega)
        have hlen : (putsI L (l.take k)).length < 1000 := by
          have h1 := HLN.out
          have h2 := HLR.out
          have h3 := HML.out
          rw [putsI_len _ _ hL, List.length_take]
          omega
        have HX := Lib.hid (takeI_step hx L)
        have HAT := Lib.hid hat; have HBUT := Lib.hid hbut; have HOWN := Lib.hid hown; have HLEN := Lib.hid hlen
        clear hat hbut hown hlen hx p1 p2
        go_wp2_with fail
        obtain ⟨W2, hW2⟩ : ∃ W2, wr.alloc (.cells #[.int .i64 x.per, .int .i64 x.rk, .int .i64 x.id] 71) = W2 := ⟨_, rfl⟩
        have hi := heap_new wr (.cells #[.int .i64 x.per, .int .i64 x.rk, .int .i64 x.id] 71)
        rw [hW2] at hi
        obtain ⟨q0, q1, q2⟩ := cells3_regrown hi
        have HB2 : Hid (Below wr.heap.size wr W2) := by rw [← hW2]; exact (Below.refl _ _).alloc (Nat.le_refl _) _
        rw [hW2]
        clear hW2 hi p0 p1' p2'
        refine wp_region_drew_tail 6 (by kernel_rfl) (by kernel_rfl) ?_
        simp only [List.take_succ_cons, List.take_zero, List.drop_succ_cons, List.drop_zero]
        repeat (quiet_step (fail))
        refine wpQuiet_nil ?_
        rintro w' ⟨q, rfl⟩
        have hb3 : Below wr.heap.size wr (W2.drewN q) := below_drewN HB2.out q
        obtain ⟨f, hh, hheap, hrise, hperm, hle⟩ := HAT.out.below hb3
        have HB3 := Lib.hid hb3; have HHP := Lib.hid hheap; have HRI := Lib.hid hrise; have HPM := Lib.hid hperm; have HH := Lib.hid hh
        clear hb3 hheap hrise hperm hh hle q0 q1 q2
        go_wp2_with fail
        refine (heapPush_any b B _ v1 f x _ HH.out HHP.out (by have := HLEN.out; omega)).mono ?_
        rintro e w3 ⟨rfl, f', hto, hh3, hp3⟩
        have T := ag_push x HRI.out HPM.out HLEN.out hto hh3 hp3
        rw [HX.out] at T
        have T2 := Lib.hid (AgTo.trans (HBUT.out.trans (But.of_below HB3.out)) HOWN.out T)
        clear T hto hh3 hp3
        go_wp2_with fail
        exact ⟨⟨k + 1, by omega, by go_num, T2.out⟩, by simp [intOf]; omega⟩
      · obtain rfl : k = n := by omega
        have hcv := hat.cell
        obtain ⟨A1, c1, rfl⟩ := hat.form
        have HAT := Lib.hid hat; have HBUT := Lib.hid hbut; have HOWN := Lib.hid hown
        rw [HT.out] at hcv HAT HOWN
        clear hat hbut hown
        go_wp2_with fail
        go_ret
        exact ⟨rfl, _, HAT.out, HBUT.out, HOWN.out⟩
end Go.Proofs.YtjlokkjbdgcooaaGreat

