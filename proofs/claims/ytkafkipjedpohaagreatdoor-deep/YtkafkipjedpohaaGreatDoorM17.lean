import Derived.Test.YtkafkipjedpohaaGreatDoorM16

/-
  The project's machine: call.
-/
namespace Go.Proofs.YtkafkipjedpohaaGreatDoor
open Go.RowKit

/-- The frame at hand goes on to another instruction. -/
theorem LayM.goto {w : World} {B mb : Nat} {A : AdM} {s : Mc} {en : Int} {f : Fr} {rest : List Fr} (h : LayM w B mb A s en) (hs : s.fr = f :: rest) (pc : Nat) :
    LayM (w.setCell ⟨A.FB rest.length, 1, none⟩ (.int .i64 pc)) B mb A { s with fr := { f with pc := pc } :: rest } en ∧ Ch B (Tk rest.length) A.tag A.tag w (w.setCell ⟨A.FB rest.length, 1, none⟩ (.int .i64 pc)) := by
  have hlen : s.fr.length = rest.length + 1 := by rw [hs]; rfl
  have e0 : frAt s.fr rest.length = f := by rw [hs]; exact frAt_top _ _
  obtain ⟨g1, g2, g3⟩ := h.fb rest.length (by omega)
  have hrow := h.stk rest.length (by omega)
  have hloc := h.loc rest.length (by omega)
  rw [e0] at g1 hrow hloc
  have hc : Ch B (fun d => d = 10 + 4 * rest.length) A.tag A.tag w (w.setCell ⟨A.FB rest.length, 1, none⟩ (.int .i64 pc)) := Ch.set w _ _ _ g2 g3
  have hc2 : Ch B (Tk rest.length) A.tag A.tag w (w.setCell ⟨A.FB rest.length, 1, none⟩ (.int .i64 pc)) := hc.mono (fun d hd => Or.inl hd)
  have := h.top (f' := { f with pc := pc }) (lv := A.LV rest.length) (sv := A.SV rest.length) hs hc2 (heap_set g1 _) (hloc.keep hc (by omega)) (hrow.keep hc (by omega))
  have e1 : upd A.LV rest.length (A.LV rest.length) = A.LV := by funext i; unfold upd; split <;> simp_all
  have e2 : upd A.SV rest.length (A.SV rest.length) = A.SV := by funext i; unfold upd; split <;> simp_all
  rw [e1, e2] at this
  exact ⟨this, hc2⟩

/-- n values of the call's own in block b, the last j of them laid: xs, the first one last. -/
def Laid (w : World) (b n j : Nat) (xs : List V) : Prop :=
  ∃ cur : Array Value, w.heap[b]? = some (.cells cur 43 (0, 0)) ∧ cur.size = n * 2 ∧ ∀ i, i < j → cur[(n - 1 - i) * 2]? = some (.int .i64 (xs.getD i vnil).k) ∧ cur[(n - 1 - i) * 2 + 1]? = some (.int .i64 (xs.getD i vnil).n)

theorem Laid.keep {w w' : World} {B b n j : Nat} {xs : List V} {tag tag' : Nat → Nat} {p : Nat → Prop} (h : Laid w b n j xs) (k : Ch B p tag tag' w w') (hp : ¬ p (tag b)) : Laid w' b n j xs := by
  obtain ⟨cur, h1, h2⟩ := h
  exact ⟨cur, (blk_keep h1 k hp).1, h2⟩

theorem Laid.set {w : World} {b n j : Nat} {xs : List V} (h : Laid w b n j xs) (hj : j < n) : Laid ((w.setCell ⟨b, (n - 1 - j) * 2, none⟩ (.int .i64 (xs.getD j vnil).k)).setCell ⟨b, (n - 1 - j) * 2 + 1, none⟩ (.int .i64 (xs.getD j vnil).n)) b n (j + 1) xs := by
  obtain ⟨cur, h1, h2, h3⟩ := h
  refine ⟨_, heap_set (heap_set h1 _) _, by simpa using h2, fun i hi => ?_⟩
  by_cases e : i = j
  · subst e
    constructor
    · rw [Array.getElem?_setIfInBounds_ne (by omega), Array.getElem?_setIfInBounds_self_of_lt (by omega)]
    · rw [Array.getElem?_setIfInBounds_self_of_lt (by simp; omega)]
  · obtain ⟨g1, g2⟩ := h3 i (by omega)
    constructor
    · rw [Array.getElem?_setIfInBounds_ne (by omega), Array.getElem?_setIfInBounds_ne (by omega)]; exact g1
    · rw [Array.getElem?_setIfInBounds_ne (by omega), Array.getElem?_setIfInBounds_ne (by omega)]; exact g2

theorem Laid.args {w : World} {b n : Nat} {xs : List V} (h : Laid w b n n xs) (hn : xs.length = n) (c : Nat) : ArgsIn w (.slice (some ⟨b, 0, none⟩) n c) xs.reverse := by
  obtain ⟨cur, h1, h2, h3⟩ := h
  refine Or.inr ⟨b, c, by simp [hn], heap_lt h1, fun i hi => ?_⟩
  rw [List.length_reverse, hn] at hi
  rw [cell_heap h1]
  obtain ⟨g1, g2⟩ := h3 (n - 1 - i / 2) (by omega)
  rw [show n - 1 - (n - 1 - i / 2) = i / 2 by omega] at g1 g2
  have hx : xs.reverse.getD (i / 2) vnil = xs.getD (n - 1 - i / 2) vnil := by
    rw [List.getD_eq_getElem?_getD, List.getD_eq_getElem?_getD, List.getElem?_reverse (by omega), hn]
  unfold vcell
  rw [hx]
  have : i % 2 = 0 ∨ i % 2 = 1 := by omega
  rcases this with e | e
  · rw [if_pos e]
    rw [show i / 2 * 2 = i by omega] at g1
    exact g1
  · rw [if_neg (by omega)]
    rw [show i / 2 * 2 + 1 = i by omega] at g2
    exact g2

theorem drop_at {xs r : List V} {g : V} {stk : List V} (h : stk = xs ++ g :: r) {j : Nat} (hj : j < xs.length) : stk.drop j = xs.getD j vnil :: stk.drop (j + 1) := by
  have hl : j < stk.length := by rw [h]; simp; omega
  rw [List.drop_eq_getElem_cons hl]
  congr 1
  rw [List.getD_eq_getElem?_getD]
  have : stk[j]? = xs[j]? := by rw [h, List.getElem?_append_left hj]
  rw [← this, List.getElem?_eq_getElem hl]
  rfl

set_option maxRecDepth 100000 in
set_option maxHeartbeats 1000000 in
theorem callM (w : World) (B mb m : Nat) (A : AdM) (s : Mc) (en : Int) (F : Nat → PF) (MV : Nat → Value) (f : Fr) (rest : List Fr) (xs r : List V) (g : V) (cnt : Nat) (hM : MSt w B mb m F MV A s en) (hs : s.fr = f :: rest) (hst : f.stk = xs ++ g :: r) (hxs : xs.length = cnt) (hcnt : cnt ≤ 8) (hr : r.length ≤ 20) (hg : g.k = 3 → 0 ≤ g.n ∧ g.n < m) (hfun : ∀ k, k < m → 0 ≤ (F k).locals ∧ (F k).locals ≤ 8 ∧ (F k).args ≤ (F k).locals) (hfr : rest.length ≤ 30) (hm : m ≤ 8) (hpc : f.pc ≤ 64) :
    Calls Tryz.prog 130 #[.pointer (some ⟨mb, 0, none⟩), .pointer (some ⟨A.FB rest.length, 0, none⟩), .int .i64 cnt] w fun e w' =>
      ((g.k ≠ 3 ∨ (F g.n.toNat).args ≠ cnt) ∧ e = trapE 6 ∧ Goes w B mb m F MV (rest.length + 1) A { s with fr := { f with stk := r } :: rest } en w') ∨
      (¬ (g.k ≠ 3 ∨ (F g.n.toNat).args ≠ cnt) ∧ 24 ≤ rest.length + 1 ∧ e = trapE 7 ∧ Goes w B mb m F MV (rest.length + 1) A { s with fr := { f with stk := r } :: rest } en w') ∨
      (¬ (g.k ≠ 3 ∨ (F g.n.toNat).args ≠ cnt) ∧ ¬ 24 ≤ rest.length + 1 ∧ e = .returned (.tuple #[]) ∧ Goes w B mb m F MV (rest.length + 1) A { s with fr := ⟨g.n.toNat, 0, xs.reverse ++ List.replicate ((F g.n.toNat).locals.toNat - cnt) vnil, []⟩ :: { f with pc := f.pc + 1, stk := r } :: rest, high := s.made g.n.toNat :: s.high } en w') := by
  have hmk := fun wx => make_vals (cnt : Int) (by omega) (by omega) wx
  simp only [Int.toNat_natCast] at hmk
  have hB := hM.le
  have HS := hid (And.intro hst hxs)
  have HG := hid (And.intro hg (And.intro hfun hm))
  have HL := hid hM
  have hstl : f.stk.length ≤ 64 := by rw [hst]; simp; omega
  generalize hfb : A.FB rest.length = fb at *
  have HF := hid hfb
  clear hst hxs hg hfun hm hM hfb
  go_enter Tryz.func130, Tryz.ntmps130
  go_wp2
  go_loopw [13] (fun v wr => ∃ j : Nat, j ≤ cnt ∧ v = .int .i64 j ∧ ∃ A1 : AdM, LayM wr B mb A1 { s with fr := { f with stk := f.stk.drop j } :: rest } en ∧ A1.g = A.g ∧ A1.tag w.heap.size = 5 ∧ Ch B N5 A.tag A1.tag w wr ∧ Laid wr w.heap.size cnt j xs) (fun v _ => cnt - (intOf v).toNat)
  case atStart =>
    have hb := HL.out.lay.box (.cells (vArr cnt) 43)
    refine ⟨0, by omega, rfl, { A with tag := upd A.tag w.heap.size 5 }, ?_, rfl, upd_same _ _ _, Ch.of_tags ((Below.refl _ _).alloc (Nat.le_refl _) _) (fun b hb => upd_other _ _ _ _ (by omega)), vArr cnt, Go.Deep.blk_alloc_new _ _, by simp [vArr, size_madeCells], fun i hi => by omega⟩
    have e : ({ s with fr := { f with stk := f.stk.drop 0 } :: rest } : Mc) = s := by rw [List.drop_zero]; cases s; simp at hs; simp [hs]
    rw [e]
    exact hb
  case round =>
    obtain ⟨j, hj, rfl, A1, l1, p1, t1, c1, d1⟩ := hrel
    have f1 : A1.FB = A.FB := by unfold AdM.FB; rw [p1]
    by_cases hlt : j < cnt
    · have hdec : decide ((j : Int) < (cnt : Int)) = true := by simp; omega
      have hdrop := drop_at HS.out.1 (j := j) (by rw [HS.out.2]; exact hlt)
      have hpop := popX (fbk := fb) l1 rfl hdrop (by simp; omega) (by rw [f1]; exact HF.out) wr (Below.refl _ _)
      have HP := hid hpop
      have HX := hid (And.intro p1 (And.intro t1 (And.intro c1 d1)))
      clear hpop l1 p1 f1 t1 c1 d1 hdrop hmk
      go_wp2_with fail
      refine HP.out.mono ?_
      rintro e w2 ⟨rfl, A2, l2, p2, c2⟩
      obtain ⟨p1, t1, c1, d1⟩ := HX.out
      have d2 := d1.keep c2 (by rw [t1]; exact tk5 _)
      have hab : w.heap.size < wr.heap.size := heap_lt d1.choose_spec.1
      have t2 : A2.tag w.heap.size = 5 := (c2.tags _ hab).trans t1
      have d3 := d2.set hlt
      obtain ⟨cur, hc1, hc2, _⟩ := d2
      obtain ⟨p, hp⟩ : ∃ p : Nat, p = cnt - 1 - j := ⟨_, rfl⟩
      rw [← hp] at d3
      have hp2 : p < cnt := by omega
      obtain ⟨u0, hu0⟩ : ∃ u, cur[p * 2]? = some u := ⟨_, Array.getElem?_eq_getElem (by omega)⟩
      obtain ⟨u1, hu1⟩ : ∃ u, cur[p * 2 + 1]? = some u := ⟨_, Array.getElem?_eq_getElem (by omega)⟩
      have x0 : w2.cell? ⟨w.heap.size, p * 2, none⟩ = some u0 := (cell_heap hc1).trans hu0
      have x1 : w2.cell? ⟨w.heap.size, p * 2 + 1, none⟩ = some u1 := (cell_heap hc1).trans hu1
      have z0 : w2.frozen? ⟨w.heap.size, p * 2, none⟩ = false := frozen_heap hc1
      have z1 : w2.frozen? ⟨w.heap.size, p * 2 + 1, none⟩ = false := frozen_heap hc1
      have hch5 : Ch B (fun d => d = 5) A2.tag A2.tag w2 ((w2.setCell ⟨w.heap.size, p * 2, none⟩ (.int .i64 (xs.getD j vnil).k)).setCell ⟨w.heap.size, p * 2 + 1, none⟩ (.int .i64 (xs.getD j vnil).n)) := (Ch.set w2 _ _ _ (by omega) t2).trans (Ch.set _ _ _ _ (by omega) t2)
      have hchw : Ch B N5 A.tag A2.tag w ((w2.setCell ⟨w.heap.size, p * 2, none⟩ (.int .i64 (xs.getD j vnil).k)).setCell ⟨w.heap.size, p * 2 + 1, none⟩ (.int .i64 (xs.getD j vnil).n)) := ((c1.trans (c2.mono (fun _ => tk_n5))).setNew (Nat.le_refl _) _).setNew (Nat.le_refl _) _
      have HN := hid (And.intro (l2.keep5 hch5) (And.intro (p2.trans p1) (And.intro t2 (And.intro hchw d3))))
      have e1 : wrap64 ((cnt : Int) - 1) = (cnt : Int) - 1 := by unfold wrap64; omega
      have e2 : wrap64 ((cnt : Int) - 1 - (j : Int)) = (p : Int) := by unfold wrap64; omega
      have e3 : (cnt : Int) - 1 - (j : Int) = (p : Int) := by omega
      have i0 : (0 : Int) ≤ (p : Int) := by omega
      have i1 : (p : Int) < (cnt : Int) := by omega
      clear hch5 hchw d3 l2 p2 c2 p1 t1 c1 d1 hc1 hc2 t2 HP HX hu0 hu1 hp
      generalize xs.getD j vnil = x at *
      go_wp2
      exact ⟨⟨j + 1, by omega, by go_num, A2, HN.out⟩, by simp [intOf]; omega⟩
    · have hdec : decide ((j : Int) < (cnt : Int)) = false := by simp; omega
      obtain rfl : j = cnt := by omega
      have hdrop : f.stk.drop j = g :: r := by rw [HS.out.1, List.drop_append_of_le_length (by rw [HS.out.2]; exact Nat.le_refl _), List.drop_of_length_le (by rw [HS.out.2]; exact Nat.le_refl _)]; rfl
      have hpop := popX (fbk := fb) l1 rfl hdrop (by omega) (by rw [f1]; exact HF.out) wr (Below.refl _ _)
      have HP := hid hpop
      have HX := hid (And.intro p1 (And.intro t1 (And.intro c1 d1)))
      clear hpop l1 p1 f1 t1 c1 d1 hdrop hmk
      go_wp2_with fail
      refine HP.out.mono ?_
      rintro e w2 ⟨rfl, h2⟩
      obtain ⟨A3, l3, p3, t3, c3⟩ := h2.boxed (.cells #[.int .i64 g.k, .int .i64 g.n] 43)
      obtain ⟨p1, t1, c1, d1⟩ := HX.out
      have hab : w.heap.size < wr.heap.size := heap_lt d1.choose_spec.1
      have d3 := d1.keep c3 (by rw [t1]; exact tk5 _)
      have c4 : Ch B N5 A.tag A3.tag w (w2.alloc (.cells #[.int .i64 g.k, .int .i64 g.n] 43)) := c1.trans (c3.mono (fun _ => tk_n5))
      have t4 : A3.tag w.heap.size = 5 := (c3.tags _ hab).trans t1
      have hM3 : MSt (w2.alloc (.cells #[.int .i64 g.k, .int .i64 g.n] 43)) B mb m F MV A3 { s with fr := { f with stk := r } :: rest } en := HL.out.same l3 (p3.trans p1) c4 ⟨by rw [hs]; rfl, rfl, rfl, rfl, rfl, rfl⟩
      have b0 : (w2.alloc (.cells #[.int .i64 g.k, .int .i64 g.n] 43)).cell? ⟨w2.heap.size, 0, none⟩ = some (.int .i64 g.k) := cell_new w2 _ _ _ _ rfl
      have b1 : (w2.alloc (.cells #[.int .i64 g.k, .int .i64 g.n] 43)).cell? ⟨w2.heap.size, 1, none⟩ = some (.int .i64 g.n) := cell_new w2 _ _ _ _ rfl
      have HY := hid (And.intro b0 b1)
      have HM := hid (And.intro hM3 (And.intro (p3.trans p1) (And.intro (And.intro t3 t4) (And.intro d3 c4))))
      have hz3 : w2.heap.size < (w2.alloc (.cells #[.int .i64 g.k, .int .i64 g.n] 43)).heap.size := by simp
      clear l3 p3 t3 c3 p1 t1 c1 d1 d3 b0 b1 h2 HP HX c4 t4 hM3 hdec hj hlt
      go_wp2_with fail
      obtain ⟨b0, b1⟩ := HY.out
      clear HY
      generalize w2.alloc (.cells #[.int .i64 g.k, .int .i64 g.n] 43) = W at *
      generalize w2.heap.size = bx at *
      have HT6 := hid (fun k : Nat => (show Goes w B mb m F MV (rest.length + 1) A { s with fr := { f with stk := r } :: rest } en (W.drewN k) from by
        obtain ⟨q1, q2, _, _, q5⟩ := HM.out
        have hV : Below W.heap.size W (W.drewN k) := below_drewN (Below.refl _ _) _
        exact ⟨A3, q1.same (q1.lay.below hV) rfl (Ch.of_below hV) ⟨rfl, rfl, rfl, rfl, rfl, rfl⟩, SameG.of q2, q5.trans' hV, fun i _ _ => fb_of q2 i, fun i hi => ⟨fun _ => by rw [q2], fun h => absurd (show i < rest.length + 1 from hi) (by omega)⟩⟩))
      by_cases h3 : g.k = 3
      · have hk : (g.k != 3) = false := by simpa using h3
        obtain ⟨gn0, gn1⟩ := HG.out.1 h3
        obtain ⟨gn, hgn⟩ : ∃ gn : Nat, g.n = gn := ⟨g.n.toNat, by omega⟩
        have hgt : g.n.toNat = gn := by omega
        obtain ⟨pb, po, pc, CA, CC, hpv, hPA, hpb, _⟩ := HM.out.1.pg.at_
        have a0 := (hPA.fn gn (by omega)).args
        have r0 : W.cell? ⟨mb, 0, none⟩ = some (.slice (some ⟨pb, po, none⟩) m pc) := by rw [cell_heap HM.out.1.lay.run, ← hpv]; rfl
        have i0 : (0 : Int) ≤ (gn : Int) := by omega
        have i1 : (gn : Int) < (m : Int) := by omega
        rw [hgn] at b1
        have HG3 := hid (And.intro h3 (And.intro hgn hgt))
        clear h3 hgn hgt gn0 gn1 hPA hpv
        by_cases ha : (F gn).args = (j : Int)
        · have hka : ((F gn).args != (j : Int)) = false := by simpa using ha
          have HA := hid ha
          clear ha
          have hno : Hid (¬ (g.k ≠ 3 ∨ (F g.n.toNat).args ≠ (j : Int))) := by unfold Hid; rw [HG3.out.2.2]; have := HG3.out.1; have := HA.out; omega
          go_quiet (fail)
          obtain ⟨hM3, p3, ⟨t3, t1⟩, d3, c3⟩ := HM.out
          have hV : Below W.heap.size W (W.drewN nq) := below_drewN (Below.refl _ _) _
          have hM4 : MSt (W.drewN nq) B mb m F MV A3 { s with fr := { f with stk := r } :: rest } en := hM3.same (hM3.lay.below hV) rfl (Ch.of_below hV) ⟨rfl, rfl, rfl, rfl, rfl, rfl⟩
          have d4 := d3.keep (Ch.of_below (B := B) (p := fun _ => False) (tag := A3.tag) hV) (fun h => h)
          have hCV : Ch B N5 A.tag A3.tag w (W.drewN nq) := c3.trans' hV
          have b1V : (W.drewN nq).cell? ⟨bx, 1, none⟩ = some (.int .i64 gn) := b1
          have HG6 := hid (HT6.out nq)
          clear hV hM3 d3 c3 HM b0 b1 a0 r0 HT6
          generalize W.drewN nq = V at *
          have l4 := hM4.lay
          have hfrl : ({ s with fr := { f with stk := r } :: rest } : Mc).fr.length = rest.length + 1 := rfl
          have hfrow := l4.fr
          rw [hfrl] at hfrow
          obtain ⟨gb, gcap, hgv, _, _, _, _⟩ := hfrow.form (by omega)
          have x1 : V.cell? ⟨mb, 3, none⟩ = some (.slice (some ⟨gb, 0, none⟩) (rest.length + 1) gcap) := by rw [cell_heap l4.run, ← hgv]; rfl
          obtain ⟨g1, g2, g3⟩ := l4.fb rest.length (by rw [hfrl]; omega)
          have hfbe : A3.FB rest.length = fb := by have := HF.out; unfold AdM.FB at *; rw [p3]; exact this
          rw [hfbe] at g1 g3
          have y1 : V.cell? ⟨fb, 1, none⟩ = some (.int .i64 f.pc) := by rw [cell_heap g1, frAt_top]; rfl
          have z1 : V.frozen? ⟨fb, 1, none⟩ = false := frozen_heap g1
          have hne : ¬ bx = fb := by intro e; rw [e, g3] at t3; omega
          have hgo := l4.goto rfl (f.pc + 1)
          rw [hfbe] at hgo
          have ec : ((f.pc + 1 : Nat) : Int) = (f.pc : Int) + 1 := by omega
          rw [ec] at hgo
          clear ec
          have d5 := d4.keep hgo.2 (by rw [t1]; exact tk5 _)
          have cN5 : Ch B N5 A3.tag A3.tag V (V.setCell ⟨fb, 1, none⟩ (.int .i64 ((f.pc : Int) + 1))) := hgo.2.mono (fun _ => tk_n5)
          have hM5 := hM4.same hgo.1 rfl cN5 ⟨rfl, rfl, rfl, rfl, rfl, rfl⟩
          obtain ⟨h0, h8, hal⟩ := HG.out.2.1 gn (by omega)
          have hnf := newFrameM _ B mb m A3 _ en F MV gn xs.reverse (.slice (some ⟨w.heap.size, 0, none⟩) j j) hM5 (by omega) (d5.args HS.out.2 j) h0 h8 (by rw [List.length_reverse, HS.out.2]; have := HA.out; omega) (by show rest.length + 1 ≤ 60; omega)
          have HNF := hid hnf
          have HB5 := hid (And.intro (hCV.trans cN5) p3)
          have epc : wrap64 ((f.pc : Int) + 1) = (f.pc : Int) + 1 := by unfold wrap64; omega
          have hlen2 : Hid (xs.reverse.length = j) := by unfold Hid; rw [List.length_reverse]; exact HS.out.2
          clear hnf d5 d4 hgo hCV g1 g2 g3 hfrow hgv l4 hM4 hM5 t3 t1 p3 hfbe HG hfrl hab cN5 h0 h8 hal HL HS
          generalize hpcl : (f.pc : Int) = pcl at *
          have hpc0 : 0 ≤ pcl ∧ pcl ≤ 64 := by omega
          clear hpcl hpc
          generalize hfl : rest.length + 1 = fl at *
          have HFL := hid hfl
          clear hfl
          by_cases h24 : 24 ≤ fl
          · have hd24 : decide ((24 : Int) ≤ (fl : Int)) = true := by simp; omega
            have H24 := hid h24
            clear h24
            go_wp2_with fail
            refine (lenF V mb 3 fl gcap (some ⟨gb, 0, none⟩) x1).mono ?_
            rintro e w' ⟨rfl, hw'⟩
            rw [hw']
            clear hw' w'
            go_wp2_with fail
            exact ⟨rfl, Or.inr (Or.inl ⟨hno.out, by have := HFL.out; have := H24.out; omega, rfl, by have h := HG6.out; rw [← HFL.out] at h; exact h⟩)⟩
          · have hd24 : decide ((24 : Int) ≤ (fl : Int)) = false := by simp; omega
            have H24 := hid h24
            clear h24
            go_wp2_with fail
            refine (lenF V mb 3 fl gcap (some ⟨gb, 0, none⟩) x1).mono ?_
            rintro e w' ⟨rfl, hw'⟩
            rw [hw']
            clear hw' w'
            go_wp2_with fail
            refine HNF.out.mono ?_
            rintro e w7 ⟨rfl, g7⟩
            rw [hlen2.out] at g7
            have HQ := hid (Goes.on HB5.out.2 HB5.out.1 g7)
            clear g7 HNF
            go_wp2
            go_end0
            refine Or.inr (Or.inr ⟨hno.out, by have := HFL.out; have := H24.out; omega, rfl, ?_⟩)
            rw [HG3.out.2.2]
            exact HQ.out
        · have hka : ((F gn).args != (j : Int)) = true := by simpa using ha
          have HA := hid ha
          clear ha
          go_quiet (fail)
          go_wp2
          exact ⟨rfl, Or.inl ⟨Or.inr (by rw [HG3.out.2.2]; exact HA.out), rfl, HT6.out _⟩⟩
      · have hk : (g.k != 3) = true := by simpa using h3
        have HG3 := hid h3
        clear h3
        go_quiet (fail)
        go_wp2
        exact ⟨rfl, Or.inl ⟨Or.inl HG3.out, rfl, HT6.out _⟩⟩
end Go.Proofs.YtkafkipjedpohaaGreatDoor
