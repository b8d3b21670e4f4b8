import Derived.Test.YtkafkipjedpohaaGreatDoorR7

/-
  upshiftref's arrays: Set.
-/
namespace Go.Proofs.YtkafkipjedpohaaGreatDoor
open Go.RowKit

theorem vcell_set (l : List V) (i : Nat) (v : V) (hi : i < l.length) (c : Nat) : upd (upd (vcell l) (i * 2) (.int .i64 v.k)) (i * 2 + 1) (.int .i64 v.n) c = vcell (l.set i v) c := by
  unfold upd vcell
  by_cases e1 : c = i * 2 + 1
  · rw [if_pos e1, if_neg (by omega), show c / 2 = i by omega]
    simp [List.getD_eq_getElem?_getD, hi]
  · rw [if_neg e1]
    by_cases e0 : c = i * 2
    · rw [if_pos e0, if_pos (by omega), show c / 2 = i by omega]
      simp [List.getD_eq_getElem?_getD, hi]
    · rw [if_neg e0]
      have hne : i ≠ c / 2 := by omega
      simp [List.getD_eq_getElem?_getD, List.getElem?_set_ne hne]

theorem getD_set_same (arr : List (List V)) (j : Nat) (l : List V) (hj : j < arr.length) : (arr.set j l).getD j [] = l := by
  simp [List.getD_eq_getElem?_getD, hj]
theorem getD_set_other (arr : List (List V)) (i j : Nat) (l : List V) (h : j ≠ i) : (arr.set i l).getD j [] = arr.getD j [] := by
  simp [List.getD_eq_getElem?_getD, List.getElem?_set_ne (Ne.symm h)]

theorem LayA.arrset {w : World} {B rb : Nat} {A : Ad} {s : Mc} (h : LayA w B rb A s) {j i xb cap : Nat} (hj : j < s.arr.length) (hv : A.AV j = .slice (some ⟨xb, 0, none⟩) (s.arr.getD j []).length cap) (hi : i < (s.arr.getD j []).length) (v : V) :
    LayA ((w.setCell ⟨xb, i * 2, none⟩ (.int .i64 v.k)).setCell ⟨xb, i * 2 + 1, none⟩ (.int .i64 v.n)) B rb A { s with arr := s.arr.set j ((s.arr.getD j []).set i v) } ∧
      Ch B (fun c => c = 12 + 3 * j) A.tag A.tag w ((w.setCell ⟨xb, i * 2, none⟩ (.int .i64 v.k)).setCell ⟨xb, i * 2 + 1, none⟩ (.int .i64 v.n)) := by
  have hrow := Lay.arr h j hj
  rw [hv] at hrow
  obtain ⟨b', cap', hb', hB, hlt, ht, _⟩ := hrow.form (by omega)
  injection hb' with e1 e2 e3
  injection e1 with e1
  injection e1 with e1 e4
  subst e1
  have hch : Ch B (fun c => c = 12 + 3 * j) A.tag A.tag w ((w.setCell ⟨xb, i * 2, none⟩ (.int .i64 v.k)).setCell ⟨xb, i * 2 + 1, none⟩ (.int .i64 v.n)) :=
    ((Ch.refl B _ A.tag w).setOld (a := ⟨xb, _, none⟩) hB (fun _ => ht) _).setOld (a := ⟨xb, _, none⟩) hB (fun _ => ht) _
  refine ⟨⟨?_, h.own, h.fr.keep hch (by omega), ?_, h.out.keep hch (by omega), h.hi.keep hch (by omega), fun k hk => (h.loc k hk).keep hch (by omega), fun k hk => (h.stk k hk).keep hch (by omega), fun k hk => ?_⟩, hch⟩
  · exact (hch.block rb (Lay.lt h) (Or.inr (by rw [h.own.2]; omega))).trans h.run
  · show Row _ B A.tag 2 _ 1 A.av (s.arr.set j _).length A.AV
    rw [List.length_set]
    exact h.ar.keep hch (by omega)
  · have hk' : k < s.arr.length := by simpa using hk
    show Row _ B A.tag (12 + 3 * k) _ 2 (A.AV k) ((s.arr.set j ((s.arr.getD j []).set i v)).getD k []).length (vcell ((s.arr.set j ((s.arr.getD j []).set i v)).getD k []))
    by_cases e : k = j
    · subst e
      rw [getD_set_same _ _ _ hk', List.length_set, hv]
      exact ((hrow.set (i * 2) _).set (i * 2 + 1) _).congr (fun c _ => vcell_set _ _ _ hi c)
    · rw [getD_set_other _ _ _ _ e]
      exact (h.arr k hk').keep hch (by omega)

set_option maxRecDepth 100000 in
set_option maxHeartbeats 2000000 in
theorem arrays_set (w : World) (B rb : Nat) (A : Ad) (s : Mc) (f : Fr) (rest : List Fr) (v i a : V) (st : List V) (hL : LayA w B rb A s) (hs : s.fr = f :: rest) (hst : f.stk = v :: i :: a :: st) (ha : a.k = 2 → 0 ≤ a.n ∧ a.n < s.arr.length) (hB : B ≤ w.heap.size) (hn : st.length ≤ 60) (hr : rest.length ≤ 60) (hm : s.arr.length ≤ 200000) :
    Calls Tryz.prog 113 #[.pointer (some ⟨rb, 0, none⟩), .int .i64 17] w fun e w' =>
      (whereP s.arr a i ≠ 0 → e = .returned (.int .i64 (whereP s.arr a i)) ∧ After w w' B rb A { s with fr := { f with stk := st } :: rest }) ∧
      (whereP s.arr a i = 0 → e = .returned (.int .i64 0) ∧ After w w' B rb A { s with fr := { f with stk := st } :: rest, arr := s.arr.set a.n.toNat ((s.arr.getD a.n.toNat []).set i.n.toNat v) }) := by
  have hcon := pop_A w B rb A s f rest v (i :: a :: st) hL hs hst hB (by simp; omega) (by omega)
  have HC := hid hcon
  clear hcon
  go_enter Tryz.func113, Tryz.ntmps113
  go_wp2_with fail
  refine HC.out.mono ?_
  rintro e w0 ⟨rfl, A0, h0, p0, f0, _, _, _, ch0⟩
  have HB0 := hid (boxed v h0 p0 f0 (ch0.mono five_stack))
  clear h0 p0 f0 ch0 HC
  go_wp2_with fail
  generalize w0.alloc (.cells #[.int .i64 v.k, .int .i64 v.n] 43) = W0 at *
  generalize { A0 with tag := upd A0.tag w0.heap.size 5 } = A0' at *
  generalize w0.heap.size = bx0 at *
  have hB0 : B ≤ W0.heap.size := by have := HB0.out.ch.size; omega
  refine (pop_A W0 B rb A0' { s with fr := { f with stk := i :: a :: st } :: rest } { f with stk := i :: a :: st } rest i (a :: st) HB0.out.lay rfl rfl hB0 (by simp; omega) (by omega)).mono ?_
  rintro e w1 ⟨rfl, A1, h1, p1, f1, _, _, _, ch1⟩
  have HB1 := hid (boxed i h1 (p1.trans HB0.out.pv) (f1.trans HB0.out.fv) (HB0.out.ch.trans (ch1.mono five_stack)))
  have j0 := (ch1.box stack5 HB0.out.lt HB0.out.tag 0).trans HB0.out.box0
  have j1 := (ch1.box stack5 HB0.out.lt HB0.out.tag 1).trans HB0.out.box1
  have hx0 : bx0 < w1.heap.size := by have := ch1.size; have := HB0.out.lt; omega
  have hbb1 : Below w1.heap.size w1 (w1.alloc (.cells #[.int .i64 i.k, .int .i64 i.n] 43)) := (Below.refl _ _).alloc (Nat.le_refl _) _
  have HM0 := hid (And.intro ((hbb1.cell (p := ⟨bx0, 0, none⟩) hx0).trans j0) (And.intro ((hbb1.cell (p := ⟨bx0, 1, none⟩) hx0).trans j1) (show upd A1.tag w1.heap.size 5 bx0 = 5 by rw [upd_other _ _ _ _ (by omega)]; exact (ch1.tags bx0 HB0.out.lt).trans HB0.out.tag)))
  have hsz1 : (w1.alloc (.cells #[.int .i64 i.k, .int .i64 i.n] 43)).heap.size = w1.heap.size + 1 := by simp
  have HS1 := hid hsz1
  clear h1 p1 f1 ch1 HB0 j0 j1 hbb1 hsz1
  go_wp2_with fail
  generalize w1.alloc (.cells #[.int .i64 i.k, .int .i64 i.n] 43) = W1 at *
  generalize hA1 : ({ A1 with tag := upd A1.tag w1.heap.size 5 } : Ad) = A1' at HB1
  have HA1 : Hid (upd A1.tag w1.heap.size 5 = A1'.tag) := by unfold Hid; rw [← hA1]
  clear hA1
  generalize w1.heap.size = bx1 at *
  have hB1 : B ≤ W1.heap.size := by have := HB1.out.ch.size; omega
  refine (pop_A W1 B rb A1' { s with fr := { f with stk := a :: st } :: rest } { f with stk := a :: st } rest a st HB1.out.lay rfl rfl hB1 (by omega) (by omega)).mono ?_
  rintro e w2 ⟨rfl, A2, h2, p2, f2, _, _, _, ch2⟩
  have HB2 := hid (boxed a h2 (p2.trans HB1.out.pv) (f2.trans HB1.out.fv) (HB1.out.ch.trans (ch2.mono five_stack)))
  have tb0 : A1'.tag bx0 = 5 := HA1.out ▸ HM0.out.2.2
  have lt0 : bx0 < W1.heap.size := by rw [HS1.out]; omega
  have hx0' : bx0 < w2.heap.size := by have := ch2.size; omega
  have hx1' : bx1 < w2.heap.size := by have := ch2.size; have := HB1.out.lt; omega
  have hbb2 : Below w2.heap.size w2 (w2.alloc (.cells #[.int .i64 a.k, .int .i64 a.n] 43)) := (Below.refl _ _).alloc (Nat.le_refl _) _
  have m0 := (hbb2.cell (p := ⟨bx0, 0, none⟩) hx0').trans ((ch2.box stack5 lt0 tb0 0).trans HM0.out.1)
  have m1 := (hbb2.cell (p := ⟨bx0, 1, none⟩) hx0').trans ((ch2.box stack5 lt0 tb0 1).trans HM0.out.2.1)
  have k2 := (ch2.box stack5 HB1.out.lt HB1.out.tag 0).trans HB1.out.box0
  have k3 := (ch2.box stack5 HB1.out.lt HB1.out.tag 1).trans HB1.out.box1
  have m2 := (hbb2.cell (p := ⟨bx1, 0, none⟩) hx1').trans ((ch2.box stack5 HB1.out.lt HB1.out.tag 0).trans HB1.out.box0)
  have m3 := (hbb2.cell (p := ⟨bx1, 1, none⟩) hx1').trans ((ch2.box stack5 HB1.out.lt HB1.out.tag 1).trans HB1.out.box1)
  have tt0 : upd A2.tag w2.heap.size 5 bx0 = 5 := by rw [upd_other _ _ _ _ (by omega)]; exact (ch2.tags bx0 lt0).trans tb0
  have tt1 : upd A2.tag w2.heap.size 5 bx1 = 5 := by rw [upd_other _ _ _ _ (by omega)]; exact (ch2.tags bx1 HB1.out.lt).trans HB1.out.tag
  have HM := hid (And.intro m0 (And.intro m1 (And.intro m2 (And.intro m3 (And.intro tt0 tt1)))))
  have hsz2 : (w2.alloc (.cells #[.int .i64 a.k, .int .i64 a.n] 43)).heap.size = w2.heap.size + 1 := by simp
  have HS2 := hid hsz2
  clear h2 p2 f2 ch2 HB1 HM0 HA1 HS1 tb0 lt0 hbb2 m0 m1 m2 m3 tt0 tt1 hsz2
  go_wp2_with fail
  generalize w2.alloc (.cells #[.int .i64 a.k, .int .i64 a.n] 43) = W at *
  generalize hA2 : ({ A2 with tag := upd A2.tag w2.heap.size 5 } : Ad) = A2' at HB2
  have HA2 : Hid (upd A2.tag w2.heap.size 5 = A2'.tag) := by unfold Hid; rw [← hA2]
  clear hA2
  generalize hbx : w2.heap.size = bx2 at *
  clear hbx
  refine (where_any W B rb A2'.tag A2'.pv A2'.fv A2'.av A2'.ov A2'.hv A2'.LV A2'.SV A2'.AV { s with fr := { f with stk := st } :: rest } a i HB2.out.lay ha hm).mono ?_
  rintro e w3 ⟨rfl, hB3⟩
  have HL3 := hid (LayA.below HB2.out.lay hB3)
  have hch3 : Ch B Five A.tag A2'.tag w w3 := HB2.out.ch.trans' hB3
  have HC3 := hid hch3
  by_cases hw : whereP s.arr a i = 0
  · rw [hw]
    obtain ⟨wk, wi, i0, i1⟩ := where_ok hw
    obtain ⟨a0, a1⟩ := ha wk
    obtain ⟨ab, acap, p, cp, r2, c0, hAV, habz, habt, hab⟩ := arr_slice HL3.out (j := a.n.toNat) (by show a.n.toNat < s.arr.length; omega)
    have hrow := Lay.arr HL3.out a.n.toNat (by show a.n.toNat < s.arr.length; omega)
    rw [hAV] at hrow
    obtain ⟨xb, xcap, hxv, hxB, hxz, hxt, hxc⟩ := hrow.form (by show 1 ≤ (s.arr.getD a.n.toNat []).length; omega)
    injection hxv with hx1 hx2 hx3
    subst hx1
    subst hx3
    have y0 := hrow.cell (i := i.n.toNat * 2) (by show i.n.toNat * 2 < (s.arr.getD a.n.toNat []).length * 2; omega)
    have y1 := hrow.cell (i := i.n.toNat * 2 + 1) (by show i.n.toNat * 2 + 1 < (s.arr.getD a.n.toNat []).length * 2; omega)
    have z0 := hrow.frozen (i.n.toNat * 2)
    have z1 := hrow.frozen (i.n.toNat * 2 + 1)
    have hfin := LayA.arrset HL3.out (j := a.n.toNat) (i := i.n.toNat) (xb := xb) (cap := cp) (by show a.n.toNat < s.arr.length; omega) hAV (by show i.n.toNat < (s.arr.getD a.n.toNat []).length; omega) v
    have hbW0 : bx0 < W.heap.size := by rw [HS2.out]; omega
    have hbW1 : bx1 < W.heap.size := by rw [HS2.out]; omega
    have n0 := (hB3.cell (p := ⟨bx0, 0, none⟩) hbW0).trans HM.out.1
    have n1 := (hB3.cell (p := ⟨bx0, 1, none⟩) hbW0).trans HM.out.2.1
    have n2 := (hB3.cell (p := ⟨bx1, 1, none⟩) hbW1).trans HM.out.2.2.2.1
    have n3 := (hB3.cell (p := ⟨bx2, 1, none⟩) HB2.out.lt).trans HB2.out.box1
    have tx : ∀ b, A2'.tag b ≠ 12 + 3 * a.n.toNat → ¬ b = xb := by intro b hb e; rw [e] at hb; exact hb hxt
    have e1 := tx rb (by rw [(Lay.own HL3.out).2]; omega)
    have e2 := tx ab (by rw [habt]; omega)
    have e3 := tx bx0 (by rw [← HA2.out, HM.out.2.2.2.2.1]; omega)
    have e4 := tx bx1 (by rw [← HA2.out, HM.out.2.2.2.2.2]; omega)
    have e5 := tx bx2 (by rw [HB2.out.tag]; omega)
    have e1' : ¬ xb = rb := fun h => e1 h.symm
    have e2' : ¬ xb = ab := fun h => e2 h.symm
    have e3' : ¬ xb = bx0 := fun h => e3 h.symm
    have e4' : ¬ xb = bx1 := fun h => e4 h.symm
    have e5' : ¬ xb = bx2 := fun h => e5 h.symm
    have HQ : Hid (After w (((w3.setCell ⟨xb, i.n.toNat * 2, none⟩ (.int .i64 v.k)).setCell ⟨xb, i.n.toNat * 2 + 1, none⟩ (.int .i64 v.n)).drew) B rb A { s with fr := { f with stk := st } :: rest, arr := s.arr.set a.n.toNat ((s.arr.getD a.n.toNat []).set i.n.toNat v) }) :=
      ⟨A2', LayA.below hfin.1 ((Below.refl _ _).drew), HB2.out.pv, HB2.out.fv, (HC3.out.trans (hfin.2.mono (fun c hc => by intro h; omega))).drew⟩
    have HW := hid hw
    have u0 : a.n < (s.arr.length : Int) := a1
    have hll : i.n < ((s.arr.getD a.n.toNat []).length : Int) := i1
    clear hfin hrow hw HL3 HC3 hch3 hB3 hAV hL hst hs ha HM HB2 HS2 HA2 wk wi habt hxt tx
    generalize vcell (s.arr.getD a.n.toNat []) (i.n.toNat * 2) = o0 at *
    generalize vcell (s.arr.getD a.n.toNat []) (i.n.toNat * 2 + 1) = o1 at *
    generalize (s.arr.getD a.n.toNat []).length = ln at *
    generalize s.arr.length = na at *
    go_wp2
    go_region_held3 (fun w' => w'.cell? ⟨rb, 2, none⟩ = some (.slice (some ⟨ab, 0, none⟩) na acap) ∧ w'.cell? ⟨ab, a.n.toNat, none⟩ = some (.slice (some ⟨xb, 0, none⟩) ln cp) ∧ w'.cell? ⟨bx2, 1, none⟩ = some (.int .i64 a.n) ∧ w'.cell? ⟨bx1, 1, none⟩ = some (.int .i64 i.n) ∧ w'.cell? ⟨bx0, 0, none⟩ = some (.int .i64 v.k) ∧ w'.cell? ⟨bx0, 1, none⟩ = some (.int .i64 v.n)) (go_keep) (fail)
    rename_i hheld
    clear hheld
    go_wp2
    go_ret
    exact ⟨fun h => absurd HW.out h, fun _ => ⟨rfl, HQ.out⟩⟩
  · have hne : (whereP s.arr a i != 0) = true := by simpa using hw
    have HW := hid hw
    have HQ : Hid (After w w3 B rb A { s with fr := { f with stk := st } :: rest }) := ⟨A2', HL3.out, HB2.out.pv, HB2.out.fv, HC3.out⟩
    clear hw hch3 hB3
    go_wp2
    go_ret
    exact ⟨fun _ => ⟨rfl, HQ.out⟩, fun h => absurd h HW.out⟩
end Go.Proofs.YtkafkipjedpohaaGreatDoor
