/-
  The project's machine: call.
-/
import Derived.Test.YtnhjjjijeeobbaaDoorM7
namespace Go.Proofs.YtnhjjjijeeobbaaDoor
open Go.RowKit

/-- At most boxes have turned. -/
theorem LayM.keep5 {w w' : World} {B mb : Nat} {A : AdM} {s : Mc} {en : Int} {tag' : Nat → Nat} (h : LayM w B mb A s en) (k : Ch B (fun d => d = 5) A.tag tag' w w') : LayM w' B mb { A with tag := tag' } s en := by
  obtain ⟨r1, r2⟩ := blk_keep h.run k (by rw [h.own.2]; omega)
  refine ⟨r1, ⟨h.own.1, r2.trans h.own.2⟩, h.fr.keep k (by omega), fun i hi => ?_, h.ar.keep k (by omega), h.out.keep k (by omega), fun i hi => (h.loc i hi).keep k (by omega), fun i hi => (h.stk i hi).keep k (by omega), fun j hj => (h.arr j hj).keep k (by omega)⟩
  obtain ⟨g1, g2, g3⟩ := h.fb i hi
  obtain ⟨g4, g5⟩ := blk_keep g1 k (by rw [g3]; omega)
  exact ⟨g4, g2, g5.trans g3⟩

/-- The frame at hand goes on to another instruction. -/
theorem LayM.goto {w : World} {B mb : Nat} {A : AdM} {s : Mc} {en : Int} {f : Fr} {rest : List Fr} (h : LayM w B mb A s en) (hs : s.fr = f :: rest) (pc : Nat) :
    LayM (w.setCell ⟨A.FB rest.length, 1, none⟩ (.int .i64 pc)) B mb A { s with fr := { f with pc := pc } :: rest } en ∧ Ch B (Tk rest.length) A.tag A.tag w (w.setCell ⟨A.FB rest.length, 1, none⟩ (.int .i64 pc)) := by
  have hlen : s.fr.length = rest.length + 1 := by rw [hs]; rfl
  have e0 : frAt s.fr rest.length = f := by rw [hs]; exact frAt_top _ _
  obtain ⟨g1, g2, g3⟩ := h.fb rest.length (by omega)
  have hrow := h.stk rest.length (by omega)
  have hloc := h.loc rest.length (by omega)
  rw [e0] at g1 hrow hloc
  have hc : Ch B (fun d => d = 10 + 4 * rest.length) A.tag A.tag w (w.setCell ⟨A.FB rest.length, 1, none⟩ (.int .i64 pc)) := Ch.set w _ _ _ g2 g3
  have hc2 : Ch B (Tk rest.length) A.tag A.tag w (w.setCell ⟨A.FB rest.length, 1, none⟩ (.int .i64 pc)) := hc.mono (fun d hd => Or.inl hd)
  have := h.top (f' := { f with pc := pc }) (lv := A.LV rest.length) (sv := A.SV rest.length) hs hc2 (heap_set g1 _) (hloc.keep hc (by omega)) (hrow.keep hc (by omega))
  have e1 : upd A.LV rest.length (A.LV rest.length) = A.LV := by funext i; unfold upd; split <;> simp_all
  have e2 : upd A.SV rest.length (A.SV rest.length) = A.SV := by funext i; unfold upd; split <;> simp_all
  rw [e1, e2] at this
  exact ⟨this, hc2⟩

/-- n values of the call's own in block b, the last j of them laid: xs, the first one last. -/
def Laid (w : World) (b n j : Nat) (xs : List V) : Prop :=
  ∃ cur : Array Value, w.heap[b]? = some (.cells cur 45 (0, 0)) ∧ cur.size = n * 2 ∧ ∀ i, i < j → cur[(n - 1 - i) * 2]? = some (.int .i64 (xs.getD i vnil).k) ∧ cur[(n - 1 - i) * 2 + 1]? = some (.int .i64 (xs.getD i vnil).n)

theorem Laid.keep {w w' : World} {B b n j : Nat} {xs : List V} {tag tag' : Nat → Nat} {p : Nat → Prop} (h : Laid w b n j xs) (k : Ch B p tag tag' w w') (hp : ¬ p (tag b)) : Laid w' b n j xs := by
  obtain ⟨cur, h1, h2⟩ := h
  exact ⟨cur, (blk_keep h1 k hp).1, h2⟩

theorem Laid.set {w : World} {b n j : Nat} {xs : List V} (h : Laid w b n j xs) (hj : j < n) : Laid ((w.setCell ⟨b, (n - 1 - j) * 2, none⟩ (.int .i64 (xs.getD j vnil).k)).setCell ⟨b, (n - 1 - j) * 2 + 1, none⟩ (.int .i64 (xs.getD j vnil).n)) b n (j + 1) xs := by
  obtain ⟨cur, h1, h2, h3⟩ := h
  refine ⟨_, heap_set (heap_set h1 _) _, by simpa using h2, fun i hi => ?_⟩
  by_cases e : i = j
  · subst e
    constructor
    · rw [Array.getElem?_setIfInBounds_ne (by omega), Array.getElem?_setIfInBounds_self_of_lt (by omega)]
    · rw [Array.getElem?_setIfInBounds_self_of_lt (by simp; omega)]
  · obtain ⟨g1, g2⟩ := h3 i (by omega)
    constructor
    · rw [Array.getElem?_setIfInBounds_ne (by omega), Array.getElem?_setIfInBounds_ne (by omega)]; exact g1
    · rw [Array.getElem?_setIfInBounds_ne (by omega), Array.getElem?_setIfInBounds_ne (by omega)]; exact g2

theorem Laid.args {w : World} {b n : Nat} {xs : List V} (h : Laid w b n n xs) (hn : xs.length = n) (c : Nat) : ArgsIn w (.slice (some ⟨b, 0, none⟩) n c) xs.reverse := by
  obtain ⟨cur, h1, h2, h3⟩ := h
  refine Or.inr ⟨b, c, by simp [hn], heap_lt h1, fun i hi => ?_⟩
  rw [List.length_reverse, hn] at hi
  rw [cell_heap h1]
  obtain ⟨g1, g2⟩ := h3 (n - 1 - i / 2) (by omega)
  rw [show n - 1 - (n - 1 - i / 2) = i / 2 by omega] at g1 g2
  have hx : xs.reverse.getD (i / 2) vnil = xs.getD (n - 1 - i / 2) vnil := by
    rw [List.getD_eq_getElem?_getD, List.getD_eq_getElem?_getD, List.getElem?_reverse (by omega), hn]
  unfold vcell
  rw [hx]
  have : i % 2 = 0 ∨ i % 2 = 1 := by omega
  rcases this with e | e
  · rw [if_pos e]
    rw [show i / 2 * 2 = i by omega] at g1
    exact g1
  · rw [if_neg (by omega)]
    rw [show i / 2 * 2 + 1 = i by omega] at g2
    exact g2

theorem drop_at {xs r : List V} {g : V} {stk : List V} (h : stk = xs ++ g :: r) {j : Nat} (hj : j < xs.length) : stk.drop j = xs.getD j vnil :: stk.drop (j + 1) := by
  have hl : j < stk.length := by rw [h]; simp; omega
  rw [List.drop_eq_getElem_cons hl]
  congr 1
  rw [List.getD_eq_getElem?_getD]
  have : stk[j]? = xs[j]? := by rw [h, List.getElem?_append_left hj]
  rw [← this, List.getElem?_eq_getElem hl]
  rfl

set_option maxRecDepth 100000 in
set_option maxHeartbeats 1000000 in
theorem callM (w : World) (B mb m : Nat) (A : AdM) (s : Mc) (en : Int) (F : Nat → PF) (f : Fr) (rest : List Fr) (xs r : List V) (gn cnt : Nat) (hL : LayM w B mb A s en) (hPg : Pg w B A.pv m F) (hB : B ≤ w.heap.size) (hs : s.fr = f :: rest) (hst : f.stk = xs ++ ⟨3, gn⟩ :: r) (hxs : xs.length = cnt) (hcnt : cnt ≤ 8) (hr : r.length ≤ 20) (hgn : gn < m) (hga : (F gn).args = cnt) (h0 : 0 ≤ (F gn).locals) (h8 : (F gn).locals ≤ 8) (hal : (cnt : Int) ≤ (F gn).locals) (hfr : rest.length + 1 < 24) (hm : m ≤ 8) (hpc : f.pc ≤ 64) :
    Calls Tryd.prog 93 #[.pointer (some ⟨mb, 0, none⟩), .pointer (some ⟨A.FB rest.length, 0, none⟩), .int .i64 cnt] w fun e w' => e = .returned (.tuple #[]) ∧
      ∃ A' : AdM, LayM w' B mb A' { s with fr := ⟨gn, 0, xs.reverse ++ List.replicate ((F gn).locals.toNat - cnt) vnil, []⟩ :: { f with pc := f.pc + 1, stk := r } :: rest } en ∧ A'.pv = A.pv ∧ Ch B (fun d => d ≠ 5) A.tag A'.tag w w' := by
  have hmk := fun wx => make_vals (cnt : Int) (by omega) (by omega) wx
  simp only [Int.toNat_natCast] at hmk
  have HS := hid (And.intro hst hxs)
  have HG := hid (And.intro hgn (And.intro hga (And.intro h0 (And.intro h8 (And.intro hal hm)))))
  have HL := hid (And.intro hL hPg)
  have hstl : f.stk.length ≤ 64 := by rw [hst]; simp; omega
  generalize hfb : A.FB rest.length = fb at *
  have HF := hid hfb
  clear hst hxs hgn hga h0 h8 hal hm hL hPg hfb
  go_enter Tryd.func93, Tryd.ntmps93
  go_wp2
  go_loopw [13] (fun v wr => ∃ j : Nat, j ≤ cnt ∧ v = .int .i64 j ∧ ∃ A1 : AdM, LayM wr B mb A1 { s with fr := { f with stk := f.stk.drop j } :: rest } en ∧ A1.pv = A.pv ∧ A1.FB = A.FB ∧ A1.tag w.heap.size = 5 ∧ Ch B (Tk rest.length) A.tag A1.tag w wr ∧ Laid wr w.heap.size cnt j xs) (fun v _ => cnt - (intOf v).toNat)
  case atStart =>
    have hb := HL.out.1.box (.cells (vArr cnt) 45)
    refine ⟨0, by omega, rfl, { A with tag := upd A.tag w.heap.size 5 }, ?_, rfl, rfl, upd_same _ _ _, Ch.of_tags ((Below.refl _ _).alloc (Nat.le_refl _) _) (fun b hb => upd_other _ _ _ _ (by omega)), vArr cnt, Go.Deep.blk_alloc_new _ _, by simp [vArr, size_madeCells], fun i hi => by omega⟩
    have e : ({ s with fr := { f with stk := f.stk.drop 0 } :: rest } : Mc) = s := by rw [List.drop_zero]; cases s; simp at hs; simp [hs]
    rw [e]
    exact hb
  case round =>
    obtain ⟨j, hj, rfl, A1, l1, p1, f1, t1, c1, d1⟩ := hrel
    by_cases hlt : j < cnt
    · have hdec : decide ((j : Int) < (cnt : Int)) = true := by simp; omega
      have hdrop := drop_at HS.out.1 (j := j) (by rw [HS.out.2]; exact hlt)
      have hpop := popX (fbk := fb) l1 rfl hdrop (by simp; omega) (by rw [f1]; exact HF.out) wr (Below.refl _ _)
      have HP := hid hpop
      have HX := hid (And.intro p1 (And.intro f1 (And.intro t1 (And.intro c1 d1))))
      clear hpop l1 p1 f1 t1 c1 d1 hdrop hmk
      go_wp2_with fail
      refine HP.out.mono ?_
      rintro e w2 ⟨rfl, A2, l2, p2, f2, c2⟩
      obtain ⟨p1, f1, t1, c1, d1⟩ := HX.out
      have d2 := d1.keep c2 (by rw [t1]; exact tk5 _)
      have hab : w.heap.size < wr.heap.size := heap_lt d1.choose_spec.1
      have t2 : A2.tag w.heap.size = 5 := (c2.tags _ hab).trans t1
      have d3 := d2.set hlt
      obtain ⟨cur, hc1, hc2, _⟩ := d2
      obtain ⟨p, hp⟩ : ∃ p : Nat, p = cnt - 1 - j := ⟨_, rfl⟩
      rw [← hp] at d3
      have hp2 : p < cnt := by omega
      obtain ⟨u0, hu0⟩ : ∃ u, cur[p * 2]? = some u := ⟨_, Array.getElem?_eq_getElem (by omega)⟩
      obtain ⟨u1, hu1⟩ : ∃ u, cur[p * 2 + 1]? = some u := ⟨_, Array.getElem?_eq_getElem (by omega)⟩
      have x0 : w2.cell? ⟨w.heap.size, p * 2, none⟩ = some u0 := (cell_heap hc1).trans hu0
      have x1 : w2.cell? ⟨w.heap.size, p * 2 + 1, none⟩ = some u1 := (cell_heap hc1).trans hu1
      have z0 : w2.frozen? ⟨w.heap.size, p * 2, none⟩ = false := frozen_heap hc1
      have z1 : w2.frozen? ⟨w.heap.size, p * 2 + 1, none⟩ = false := frozen_heap hc1
      have hch5 : Ch B (fun d => d = 5) A2.tag A2.tag w2 ((w2.setCell ⟨w.heap.size, p * 2, none⟩ (.int .i64 (xs.getD j vnil).k)).setCell ⟨w.heap.size, p * 2 + 1, none⟩ (.int .i64 (xs.getD j vnil).n)) := (Ch.set w2 _ _ _ (by omega) t2).trans (Ch.set _ _ _ _ (by omega) t2)
      have hchw : Ch B (Tk rest.length) A.tag A2.tag w ((w2.setCell ⟨w.heap.size, p * 2, none⟩ (.int .i64 (xs.getD j vnil).k)).setCell ⟨w.heap.size, p * 2 + 1, none⟩ (.int .i64 (xs.getD j vnil).n)) := ((c1.trans c2).setNew (Nat.le_refl _) _).setNew (Nat.le_refl _) _
      have HN := hid (And.intro (l2.keep5 hch5) (And.intro (p2.trans p1) (And.intro (f2.trans f1) (And.intro t2 (And.intro hchw d3)))))
      have e1 : wrap64 ((cnt : Int) - 1) = (cnt : Int) - 1 := by unfold wrap64; omega
      have e2 : wrap64 ((cnt : Int) - 1 - (j : Int)) = (p : Int) := by unfold wrap64; omega
      have e3 : (cnt : Int) - 1 - (j : Int) = (p : Int) := by omega
      have i0 : (0 : Int) ≤ (p : Int) := by omega
      have i1 : (p : Int) < (cnt : Int) := by omega
      clear hch5 hchw d3 l2 p2 f2 c2 p1 f1 t1 c1 d1 hc1 hc2 t2 HP HX hu0 hu1 hp
      generalize xs.getD j vnil = x at *
      go_wp2
      exact ⟨⟨j + 1, by omega, by go_num, A2, HN.out⟩, by simp [intOf]; omega⟩
    · have hdec : decide ((j : Int) < (cnt : Int)) = false := by simp; omega
      obtain rfl : j = cnt := by omega
      have hdrop : f.stk.drop j = ⟨3, gn⟩ :: r := by rw [HS.out.1, List.drop_append_of_le_length (by rw [HS.out.2]; exact Nat.le_refl _), List.drop_of_length_le (by rw [HS.out.2]; exact Nat.le_refl _)]; rfl
      have hpop := popX (fbk := fb) l1 rfl hdrop (by omega) (by rw [f1]; exact HF.out) wr (Below.refl _ _)
      have HP := hid hpop
      have HX := hid (And.intro p1 (And.intro f1 (And.intro t1 (And.intro c1 d1))))
      clear hpop l1 p1 f1 t1 c1 d1 hdrop hmk
      go_wp2_with fail
      refine HP.out.mono ?_
      rintro e w2 ⟨rfl, h2⟩
      obtain ⟨A3, l3, p3, f3, t3, c3⟩ := h2.boxed (.cells #[.int .i64 3, .int .i64 gn] 45)
      obtain ⟨p1, f1, t1, c1, d1⟩ := HX.out
      have hab : w.heap.size < wr.heap.size := heap_lt d1.choose_spec.1
      have d3 := d1.keep c3 (by rw [t1]; exact tk5 _)
      have hB3 : Below B w (w2.alloc (.cells #[.int .i64 3, .int .i64 gn] 45)) := (c1.trans c3).below hB
      have hPg3 := HL.out.2.below hB3
      obtain ⟨pb, po, pc, CA, CC, hpv, hPA, hpb, _⟩ := hPg3.at_
      obtain ⟨hgn, hga, h0, h8, hal, hm⟩ := HG.out
      have a0 := (hPA.fn gn hgn).args
      rw [hga] at a0
      have r0 : (w2.alloc (.cells #[.int .i64 3, .int .i64 gn] 45)).cell? ⟨mb, 0, none⟩ = some (.slice (some ⟨pb, po, none⟩) m pc) := by rw [cell_heap l3.run, ← hpv, ← p1, ← p3]; rfl
      have b0 : (w2.alloc (.cells #[.int .i64 3, .int .i64 gn] 45)).cell? ⟨w2.heap.size, 0, none⟩ = some (.int .i64 3) := cell_new w2 _ _ _ _ rfl
      have b1 : (w2.alloc (.cells #[.int .i64 3, .int .i64 gn] 45)).cell? ⟨w2.heap.size, 1, none⟩ = some (.int .i64 gn) := cell_new w2 _ _ _ _ rfl
      have hz3 : (w2.alloc (.cells #[.int .i64 3, .int .i64 gn] 45)).heap.size = w2.heap.size + 1 := by simp
      have HZ := hid hz3
      have HY := hid (And.intro a0 (And.intro r0 (And.intro b0 b1)))
      have HM := hid (And.intro l3 (And.intro (p3.trans p1) (And.intro (f3.trans f1) (And.intro (And.intro t3 ((c3.tags _ hab).trans t1)) (And.intro d3 (And.intro hB3 (And.intro hPg3 (c1.trans c3))))))))
      have i0 : (0 : Int) ≤ (gn : Int) := by omega
      have i1 : (gn : Int) < (m : Int) := by omega
      clear l3 p3 f3 t3 c3 p1 f1 t1 c1 d1 d3 hB3 hPg3 hPA hpv a0 r0 b0 b1 hz3 h2 HP HX
      go_wp2_with fail
      obtain ⟨a0, r0, b0, b1⟩ := HY.out
      clear HY
      generalize w2.alloc (.cells #[.int .i64 3, .int .i64 gn] 45) = W at *
      generalize w2.heap.size = bx at *
      go_quiet (fail)
      obtain ⟨l3, p3, f3, ⟨t3, t1⟩, d3, hB3, hPg3, c3⟩ := HM.out
      have hV : Below W.heap.size W (W.drewN nq) := below_drewN (Below.refl _ _) _
      have l4 := l3.below hV
      have hPg4 := hPg3.below (hV.mono (by have := hB3.size; omega))
      have d4 := d3.keep (Ch.of_below (B := B) (p := fun _ => False) (tag := A3.tag) hV) (fun h => h)
      have hBV : Below B w (W.drewN nq) := hB3.trans (hV.mono (by have := hB3.size; omega))
      have hCV : Ch B (Tk rest.length) A.tag A3.tag w (W.drewN nq) := c3.trans (Ch.of_below hV)
      have b1V : (W.drewN nq).cell? ⟨bx, 1, none⟩ = some (.int .i64 gn) := b1
      clear hV l3 hPg3 d3 hB3 HM b0 b1 a0 r0
      generalize W.drewN nq = V at *
      have hfrl : ({ s with fr := { f with stk := r } :: rest } : Mc).fr.length = rest.length + 1 := rfl
      have hfrow := l4.fr
      rw [hfrl] at hfrow
      obtain ⟨gb, gcap, hgv, _, _, _, _⟩ := hfrow.form (by omega)
      have x1 : V.cell? ⟨mb, 1, none⟩ = some (.slice (some ⟨gb, 0, none⟩) (rest.length + 1) gcap) := by rw [cell_heap l4.run, ← hgv]; rfl
      obtain ⟨g1, g2, g3⟩ := l4.fb rest.length (by rw [hfrl]; omega)
      have hfbe : A3.FB rest.length = fb := by rw [f3]; exact HF.out
      rw [hfbe] at g1 g3
      have y1 : V.cell? ⟨fb, 1, none⟩ = some (.int .i64 f.pc) := by rw [cell_heap g1, frAt_top]; rfl
      have z1 : V.frozen? ⟨fb, 1, none⟩ = false := frozen_heap g1
      have hne : ¬ bx = fb := by intro e; rw [e, g3] at t3; omega
      have hgo := l4.goto rfl (f.pc + 1)
      rw [hfbe] at hgo
      have ec : ((f.pc + 1 : Nat) : Int) = (f.pc : Int) + 1 := by omega
      rw [ec] at hgo
      clear ec
      have d5 := d4.keep hgo.2 (by rw [t1]; exact tk5 _)
      have hB5 : Below B V (V.setCell ⟨fb, 1, none⟩ (.int .i64 ((f.pc : Int) + 1))) := hgo.2.below (by have := hBV.size; omega)
      have hnf := newFrameM _ B mb m A3 _ en F gn xs.reverse (.slice (some ⟨w.heap.size, 0, none⟩) j j) hgo.1 (by rw [p3]; exact hPg4.below hB5) (by have := hBV.size; have := hB5.size; omega) hgn (d5.args HS.out.2 j) h0 h8 (by rw [List.length_reverse, HS.out.2]; exact hal) (by show rest.length + 1 ≤ 60; omega) hm
      have HNF := hid hnf
      have HB5 := hid (hCV.trans hgo.2)
      have HPV := hid p3
      have epc : wrap64 ((f.pc : Int) + 1) = (f.pc : Int) + 1 := by unfold wrap64; omega
      have hd24 : decide (24 ≤ rest.length + 1) = false := by simp; omega
      have hlen2 : Hid (xs.reverse.length = j) := by unfold Hid; rw [List.length_reverse]; exact HS.out.2
      clear hnf hB5 d5 d4 hgo hCV g1 g2 g3 hfrow hgv l4 hPg4 hBV t3 t1 c3 p3 f3 hfbe HG hfrl hlt hj hdec hab
      generalize hpcl : (f.pc : Int) = pcl at *
      have HPC := hid hpcl
      have hpc0 : 0 ≤ pcl ∧ pcl ≤ 64 := by omega
      clear hpcl hpc
      go_wp2_with fail
      refine (lenF V mb 1 (rest.length + 1) gcap (some ⟨gb, 0, none⟩) x1).mono ?_
      rintro e w' ⟨rfl, hw'⟩
      rw [hw']
      clear hw' w'
      go_wp2_with fail
      refine HNF.out.mono ?_
      rintro e w7 ⟨rfl, A7, l7, p7, c7⟩
      rw [hlen2.out] at l7
      have HQ := hid (And.intro l7 (And.intro (p7.trans HPV.out) ((HB5.out.mono (q := fun d => d ≠ 5) (fun d hd => by unfold Tk at hd; omega)).trans (c7.mono (fun d hd => by omega)))))
      clear l7 p7 c7 HNF HB5
      go_wp2
      go_end0
      exact ⟨rfl, A7, HQ.out⟩
end Go.Proofs.YtnhjjjijeeobbaaDoor
