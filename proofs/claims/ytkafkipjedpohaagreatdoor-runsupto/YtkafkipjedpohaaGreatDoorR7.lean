import Derived.Test.YtkafkipjedpohaaGreatDoorR4
import Derived.Test.YtkafkipjedpohaaGreatDoorA5

/-
  upshiftref's arrays: Get.
-/
namespace Go.Proofs.YtkafkipjedpohaaGreatDoor
open Go.RowKit

/-- A box of a value, behind a pop: what stands then. -/
structure Boxed (w W : World) (B rb bx : Nat) (A A' : Ad) (s : Mc) (x : V) : Prop where
  lay : LayA W B rb A' s
  pv : A'.pv = A.pv
  fv : A'.fv = A.fv
  ch : Ch B Five A.tag A'.tag w W
  box0 : W.cell? ⟨bx, 0, none⟩ = some (.int .i64 x.k)
  box1 : W.cell? ⟨bx, 1, none⟩ = some (.int .i64 x.n)
  tag : A'.tag bx = 5
  lt : bx < W.heap.size
  old : w.heap.size ≤ bx

theorem boxed {w w1 : World} {B rb : Nat} {A A1 : Ad} {s : Mc} (x : V) (h : LayA w1 B rb A1 s) (hp : A1.pv = A.pv) (hf : A1.fv = A.fv) (hc : Ch B Five A.tag A1.tag w w1) :
    Boxed w (w1.alloc (.cells #[.int .i64 x.k, .int .i64 x.n] 43)) B rb w1.heap.size A { A1 with tag := upd A1.tag w1.heap.size 5 } s x :=
  ⟨LayA.box h _, hp, hf, hc.trans (Ch.of_tags ((Below.refl _ _).alloc (Nat.le_refl _) _) (fun b hb => upd_other _ _ _ _ (by omega))), cell_new w1 _ _ _ _ rfl, cell_new w1 _ _ _ _ rfl, upd_same _ _ _, by simp, hc.size⟩

theorem Ch.box {B : Nat} {p : Nat → Prop} {t1 t2 : Nat → Nat} {u w : World} (h : Ch B p t1 t2 u w) (hp : ¬ p 5) {bx : Nat} (hb : bx < u.heap.size) (ht : t1 bx = 5) (i : Nat) : w.cell? ⟨bx, i, none⟩ = u.cell? ⟨bx, i, none⟩ :=
  h.cell (a := ⟨bx, i, none⟩) hb (by show ¬ p (t1 bx); rw [ht]; exact hp)
theorem five5 : ¬ Five 5 := fun h => h rfl
theorem stack5 {k : Nat} : ¬ (fun c : Nat => c = 1 ∨ c = 11 + 3 * k) 5 := by intro h; rcases h with h | h <;> omega

theorem arr_slice {w : World} {B rb : Nat} {A : Ad} {s : Mc} (h : LayA w B rb A s) {j : Nat} (hj : j < s.arr.length) :
    ∃ ab acap p cp, w.cell? ⟨rb, 2, none⟩ = some (.slice (some ⟨ab, 0, none⟩) s.arr.length acap) ∧ w.cell? ⟨ab, j, none⟩ = some (.slice p (s.arr.getD j []).length cp) ∧ A.AV j = .slice p (s.arr.getD j []).length cp ∧ ab < w.heap.size ∧ A.tag ab = 2 ∧ B ≤ ab := by
  have har := h.ar
  obtain ⟨ab, acap, hav, hab, habz, hatag, hac⟩ := har.form (by omega)
  rw [hav] at har
  have c0 := har.cell (i := j) (by omega)
  obtain ⟨p, cp, hvv, hcp⟩ := (h.arr j hj).any
  rw [hvv] at c0
  have r2 : w.cell? ⟨rb, 2, none⟩ = some (.slice (some ⟨ab, 0, none⟩) s.arr.length acap) := by rw [Lay.cell h 2]; show some A.av = _; rw [hav]
  exact ⟨ab, acap, p, cp, r2, c0, hvv, habz, hatag, hab⟩

set_option maxRecDepth 100000 in
set_option maxHeartbeats 2000000 in
theorem arrays_get (w : World) (B rb : Nat) (A : Ad) (s : Mc) (f : Fr) (rest : List Fr) (i a : V) (st : List V) (hL : LayA w B rb A s) (hs : s.fr = f :: rest) (hst : f.stk = i :: a :: st) (ha : a.k = 2 → 0 ≤ a.n ∧ a.n < s.arr.length) (hB : B ≤ w.heap.size) (hn : st.length ≤ 60) (hr : rest.length ≤ 60) (hm : s.arr.length ≤ 200000) (_hl : ∀ j, (s.arr.getD j []).length ≤ 200) :
    Calls Tryz.prog 113 #[.pointer (some ⟨rb, 0, none⟩), .int .i64 16] w fun e w' =>
      (whereP s.arr a i ≠ 0 → e = .returned (.int .i64 (whereP s.arr a i)) ∧ After w w' B rb A { s with fr := { f with stk := st } :: rest }) ∧
      (whereP s.arr a i = 0 → e = .returned (.int .i64 0) ∧ After w w' B rb A { s with fr := { f with stk := (s.arr.getD a.n.toNat []).getD i.n.toNat vnil :: st } :: rest }) := by
  have hcon := pop_A w B rb A s f rest i (a :: st) hL hs hst hB (by simp; omega) (by omega)
  have HC := hid hcon
  clear hcon
  go_enter Tryz.func113, Tryz.ntmps113
  go_wp2_with fail
  refine HC.out.mono ?_
  rintro e w1 ⟨rfl, A1, h1, p1, f1, _, _, _, ch1⟩
  have hb1 := boxed i h1 p1 f1 (ch1.mono five_stack)
  have HB1 := hid hb1
  have hsz1 : (w1.alloc (.cells #[.int .i64 i.k, .int .i64 i.n] 43)).heap.size = w1.heap.size + 1 := by simp
  have HS1 := hid hsz1
  clear h1 p1 f1 ch1 hb1 hsz1 HC
  go_wp2_with fail
  generalize w1.alloc (.cells #[.int .i64 i.k, .int .i64 i.n] 43) = W1 at *
  generalize { A1 with tag := upd A1.tag w1.heap.size 5 } = A1' at *
  generalize w1.heap.size = bx1 at *
  have hB1 : B ≤ W1.heap.size := by have := HB1.out.ch.size; omega
  refine (pop_A W1 B rb A1' { s with fr := { f with stk := a :: st } :: rest } { f with stk := a :: st } rest a st HB1.out.lay rfl rfl hB1 (by omega) (by omega)).mono ?_
  rintro e w2 ⟨rfl, A2, h2, p2, f2, _, _, _, ch2⟩
  have hb2 := boxed a h2 (p2.trans HB1.out.pv) (f2.trans HB1.out.fv) (HB1.out.ch.trans (ch2.mono five_stack))
  have k0 := (ch2.box stack5 HB1.out.lt HB1.out.tag 0).trans HB1.out.box0
  have k1 := (ch2.box stack5 HB1.out.lt HB1.out.tag 1).trans HB1.out.box1
  have hbx1 : bx1 < w2.heap.size := by have := ch2.size; have := HB1.out.lt; omega
  have hbb : Below w2.heap.size w2 (w2.alloc (.cells #[.int .i64 a.k, .int .i64 a.n] 43)) := (Below.refl _ _).alloc (Nat.le_refl _) _
  have m0 := (hbb.cell (p := ⟨bx1, 0, none⟩) hbx1).trans k0
  have m1 := (hbb.cell (p := ⟨bx1, 1, none⟩) hbx1).trans k1
  have t1 : upd A2.tag w2.heap.size 5 bx1 = 5 := by rw [upd_other _ _ _ _ (by omega)]; exact (ch2.tags bx1 HB1.out.lt).trans HB1.out.tag
  have HB2 := hid hb2
  have HM := hid (And.intro m0 (And.intro m1 t1))
  have hsz2 : (w2.alloc (.cells #[.int .i64 a.k, .int .i64 a.n] 43)).heap.size = w2.heap.size + 1 := by simp
  have HS2 := hid hsz2
  have hB2 : B ≤ w2.heap.size := by have := ch2.size; omega
  clear h2 p2 f2 ch2 hb2 hbb m0 m1 t1 HB1 HS1 hsz2
  go_wp2_with fail
  generalize w2.alloc (.cells #[.int .i64 a.k, .int .i64 a.n] 43) = W at *
  generalize hA2 : ({ A2 with tag := upd A2.tag w2.heap.size 5 } : Ad) = A2' at HB2
  have HA2 : Hid (upd A2.tag w2.heap.size 5 = A2'.tag) := by unfold Hid; rw [← hA2]
  clear hA2
  generalize hbx : w2.heap.size = bx2 at *
  clear hbx
  refine (where_any W B rb A2'.tag A2'.pv A2'.fv A2'.av A2'.ov A2'.hv A2'.LV A2'.SV A2'.AV { s with fr := { f with stk := st } :: rest } a i HB2.out.lay ha hm).mono ?_
  rintro e w3 ⟨rfl, hB3⟩
  have HL3 := hid (LayA.below HB2.out.lay hB3)
  have hch3 : Ch B Five A.tag A2'.tag w w3 := HB2.out.ch.trans' hB3
  have HC3 := hid hch3
  by_cases hw : whereP s.arr a i = 0
  · rw [hw]
    obtain ⟨wk, wi, i0, i1⟩ := where_ok hw
    obtain ⟨a0, a1⟩ := ha wk
    obtain ⟨ab, acap, p, cp, r2, c0, hAV, habz, habt, hab⟩ := arr_slice HL3.out (j := a.n.toNat) (by show a.n.toNat < s.arr.length; omega)
    have hrow := Lay.arr HL3.out a.n.toNat (by show a.n.toNat < s.arr.length; omega)
    rw [hAV] at hrow
    obtain ⟨xb, xcap, hxv, hxB, hxz, hxt, hxc⟩ := hrow.form (by show 1 ≤ (s.arr.getD a.n.toNat []).length; omega)
    injection hxv with hx1 hx2 hx3
    subst hx1
    subst hx3
    have y0 := hrow.cell (i := i.n.toNat * 2) (by show i.n.toNat * 2 < (s.arr.getD a.n.toNat []).length * 2; omega)
    have y1 := hrow.cell (i := i.n.toNat * 2 + 1) (by show i.n.toNat * 2 + 1 < (s.arr.getD a.n.toNat []).length * 2; omega)
    have g0 : vcell (s.arr.getD a.n.toNat []) (i.n.toNat * 2) = .int .i64 ((s.arr.getD a.n.toNat []).getD i.n.toNat vnil).k := by
      unfold vcell; rw [if_pos (by omega), show i.n.toNat * 2 / 2 = i.n.toNat by omega]
    have g1 : vcell (s.arr.getD a.n.toNat []) (i.n.toNat * 2 + 1) = .int .i64 ((s.arr.getD a.n.toNat []).getD i.n.toNat vnil).n := by
      unfold vcell; rw [if_neg (by omega), show (i.n.toNat * 2 + 1) / 2 = i.n.toNat by omega]
    have y0' : w3.cell? ⟨xb, i.n.toNat * 2, none⟩ = some (.int .i64 ((s.arr.getD a.n.toNat []).getD i.n.toNat vnil).k) := y0.trans (congrArg some g0)
    have y1' : w3.cell? ⟨xb, i.n.toNat * 2 + 1, none⟩ = some (.int .i64 ((s.arr.getD a.n.toNat []).getD i.n.toNat vnil).n) := y1.trans (congrArg some g1)
    have hbW : bx1 < W.heap.size := by rw [HS2.out]; omega
    have n0 := (hB3.cell (p := ⟨bx1, 0, none⟩) hbW).trans HM.out.1
    have n1 := (hB3.cell (p := ⟨bx1, 1, none⟩) hbW).trans HM.out.2.1
    have n2 := (hB3.cell (p := ⟨bx2, 0, none⟩) HB2.out.lt).trans HB2.out.box0
    have n3 := (hB3.cell (p := ⟨bx2, 1, none⟩) HB2.out.lt).trans HB2.out.box1
    have hs3 := hB3.size
    have hz1 : bx1 < w3.heap.size := by omega
    have hz2 : bx2 < w3.heap.size := by have := HB2.out.lt; omega
    have hrbz : rb < w3.heap.size := Lay.lt HL3.out
    have hB3' : B ≤ w3.heap.size := by have := hch3.size; omega
    have hpush : ∀ X, Below w3.heap.size w3 X →
        Calls Tryz.prog 111 #[.pointer (some ⟨rb, 0, none⟩), .agg #[.int .i64 ((s.arr.getD a.n.toNat []).getD i.n.toNat vnil).k, .int .i64 ((s.arr.getD a.n.toNat []).getD i.n.toNat vnil).n]] X fun e w' => e = .returned (.tuple #[]) ∧
          After w w' B rb A { s with fr := { f with stk := (s.arr.getD a.n.toNat []).getD i.n.toNat vnil :: st } :: rest } ∧ ∃ t', Ch B (fun c => c = 1 ∨ c = 11 + 3 * rest.length) A2'.tag t' w3 w' :=
      fun X hX => by
        refine (push_A X B rb A2' { s with fr := { f with stk := st } :: rest } { f with stk := st } rest ((s.arr.getD a.n.toNat []).getD i.n.toNat vnil) (LayA.below HL3.out hX) rfl (by have := hX.size; omega) (by show st.length ≤ 64; omega) (by omega)).mono ?_
        rintro e w' ⟨rfl, A', q1, q2, q3, _, _, _, q7⟩
        have q8 := (Ch.of_below (B := B) (p := fun c => c = 1 ∨ c = 11 + 3 * rest.length) (tag := A2'.tag) hX).trans q7
        exact ⟨rfl, ⟨A', q1, q2.trans HB2.out.pv, q3.trans HB2.out.fv, HC3.out.trans (q8.mono five_stack)⟩, A'.tag, q8⟩
    have HP := hid hpush
    have HT : Hid (A2'.tag ab = 2 ∧ A2'.tag rb = 0 ∧ A2'.tag bx1 = 5 ∧ A2'.tag bx2 = 5 ∧ A2'.tag xb = 12 + 3 * a.n.toNat) := ⟨habt, (Lay.own HL3.out).2, HA2.out ▸ HM.out.2.2, HB2.out.tag, hxt⟩
    have HW := hid hw
    have u0 : a.n < (s.arr.length : Int) := a1
    clear hpush hrow y0 y1 g0 g1 hw HL3 HC3 hch3 hB3 hAV hL hst hs ha HM HB2 HS2 wk wi habt hxt
    have hll : i.n < ((s.arr.getD a.n.toNat []).length : Int) := i1
    generalize hvv : (s.arr.getD a.n.toNat []).getD i.n.toNat vnil = vv at *
    have Hvv := hid hvv
    clear hvv
    generalize (s.arr.getD a.n.toNat []).length = ln at *
    generalize s.arr.length = na at *
    go_wp2
    go_region_held3 (fun w' => w'.cell? ⟨rb, 2, none⟩ = some (.slice (some ⟨ab, 0, none⟩) na acap) ∧ w'.cell? ⟨ab, a.n.toNat, none⟩ = some (.slice (some ⟨xb, 0, none⟩) ln cp) ∧ w'.cell? ⟨bx2, 1, none⟩ = some (.int .i64 a.n) ∧ w'.cell? ⟨bx1, 1, none⟩ = some (.int .i64 i.n) ∧ w'.cell? ⟨xb, i.n.toNat * 2, none⟩ = some (.int .i64 vv.k) ∧ w'.cell? ⟨xb, i.n.toNat * 2 + 1, none⟩ = some (.int .i64 vv.n)) (go_keep)
      (first | (go_at_call 111; refine (HP.out _ ?_).mono ?_; exact (by repeat (first | exact Below.refl _ _ | refine Below.drew ?_ | refine Below.alloc ?_ (by first | omega | (simp; done) | (simp; omega)) _)); rintro e w5 ⟨rfl, hA5, t5, ch5⟩; have q0 := (ch5.cell (a := ⟨rb, 2, none⟩) hrbz (by show ¬ (_ ∨ _); rw [HT.out.2.1]; omega)).trans r2; have q1 := (ch5.cell (a := ⟨ab, a.n.toNat, none⟩) habz (by show ¬ (_ ∨ _); rw [HT.out.1]; omega)).trans c0; have q2 := (ch5.cell (a := ⟨bx2, 1, none⟩) hz2 (by show ¬ (_ ∨ _); rw [HT.out.2.2.2.1]; omega)).trans n3; have q3 := (ch5.cell (a := ⟨bx1, 1, none⟩) hz1 (by show ¬ (_ ∨ _); rw [HT.out.2.2.1]; omega)).trans n1; have q4 := (ch5.cell (a := ⟨xb, i.n.toNat * 2, none⟩) hxz (by show ¬ (_ ∨ _); rw [HT.out.2.2.2.2]; omega)).trans y0'; have q5 := (ch5.cell (a := ⟨xb, i.n.toNat * 2 + 1, none⟩) hxz (by show ¬ (_ ∨ _); rw [HT.out.2.2.2.2]; omega)).trans y1'))
    rename_i hheld
    have HQ := hid hA5
    clear hheld hA5 q0 q1 q2 q3 q4 q5 ch5
    go_wp2
    go_ret
    exact ⟨fun h => absurd HW.out h, fun _ => ⟨rfl, by rw [Hvv.out]; exact HQ.out⟩⟩
  · have hne : (whereP s.arr a i != 0) = true := by simpa using hw
    have HW := hid hw
    have HQ : Hid (After w w3 B rb A { s with fr := { f with stk := st } :: rest }) := ⟨A2', HL3.out, HB2.out.pv, HB2.out.fv, HC3.out⟩
    clear hw hch3 hB3
    go_wp2
    go_ret
    exact ⟨fun _ => ⟨rfl, HQ.out⟩, fun h => absurd h HW.out⟩
end Go.Proofs.YtkafkipjedpohaaGreatDoor

/-
  upshiftref's arrays: Set.
-/
namespace Go.Proofs.YtkafkipjedpohaaGreatDoor
open Go.RowKit

theorem vcell_set (l : List V) (i : Nat) (v : V) (hi : i < l.length) (c : Nat) : upd (upd (vcell l) (i * 2) (.int .i64 v.k)) (i * 2 + 1) (.int .i64 v.n) c = vcell (l.set i v) c := by
  unfold upd vcell
  by_cases e1 : c = i * 2 + 1
  · rw [if_pos e1, if_neg (by omega), show c / 2 = i by omega]
    simp [List.getD_eq_getElem?_getD, hi]
  · rw [if_neg e1]
    by_cases e0 : c = i * 2
    · rw [if_pos e0, if_pos (by omega), show c / 2 = i by omega]
      simp [List.getD_eq_getElem?_getD, hi]
    · rw [if_neg e0]
      have hne : i ≠ c / 2 := by omega
      simp [List.getD_eq_getElem?_getD, List.getElem?_set_ne hne]

theorem getD_set_same (arr : List (List V)) (j : Nat) (l : List V) (hj : j < arr.length) : (arr.set j l).getD j [] = l := by
  simp [List.getD_eq_getElem?_getD, hj]
theorem getD_set_other (arr : List (List V)) (i j : Nat) (l : List V) (h : j ≠ i) : (arr.set i l).getD j [] = arr.getD j [] := by
  simp [List.getD_eq_getElem?_getD, List.getElem?_set_ne (Ne.symm h)]

theorem LayA.arrset {w : World} {B rb : Nat} {A : Ad} {s : Mc} (h : LayA w B rb A s) {j i xb cap : Nat} (hj : j < s.arr.length) (hv : A.AV j = .slice (some ⟨xb, 0, none⟩) (s.arr.getD j []).length cap) (hi : i < (s.arr.getD j []).length) (v : V) :
    LayA ((w.setCell ⟨xb, i * 2, none⟩ (.int .i64 v.k)).setCell ⟨xb, i * 2 + 1, none⟩ (.int .i64 v.n)) B rb A { s with arr := s.arr.set j ((s.arr.getD j []).set i v) } ∧
      Ch B (fun c => c = 12 + 3 * j) A.tag A.tag w ((w.setCell ⟨xb, i * 2, none⟩ (.int .i64 v.k)).setCell ⟨xb, i * 2 + 1, none⟩ (.int .i64 v.n)) := by
  have hrow := Lay.arr h j hj
  rw [hv] at hrow
  obtain ⟨b', cap', hb', hB, hlt, ht, _⟩ := hrow.form (by omega)
  injection hb' with e1 e2 e3
  injection e1 with e1
  injection e1 with e1 e4
  subst e1
  have hch : Ch B (fun c => c = 12 + 3 * j) A.tag A.tag w ((w.setCell ⟨xb, i * 2, none⟩ (.int .i64 v.k)).setCell ⟨xb, i * 2 + 1, none⟩ (.int .i64 v.n)) :=
    ((Ch.refl B _ A.tag w).setOld (a := ⟨xb, _, none⟩) hB (fun _ => ht) _).setOld (a := ⟨xb, _, none⟩) hB (fun _ => ht) _
  refine ⟨⟨?_, h.own, h.fr.keep hch (by omega), ?_, h.out.keep hch (by omega), h.hi.keep hch (by omega), fun k hk => (h.loc k hk).keep hch (by omega), fun k hk => (h.stk k hk).keep hch (by omega), fun k hk => ?_⟩, hch⟩
  · exact (hch.block rb (Lay.lt h) (Or.inr (by rw [h.own.2]; omega))).trans h.run
  · show Row _ B A.tag 2 _ 1 A.av (s.arr.set j _).length A.AV
    rw [List.length_set]
    exact h.ar.keep hch (by omega)
  · have hk' : k < s.arr.length := by simpa using hk
    show Row _ B A.tag (12 + 3 * k) _ 2 (A.AV k) ((s.arr.set j ((s.arr.getD j []).set i v)).getD k []).length (vcell ((s.arr.set j ((s.arr.getD j []).set i v)).getD k []))
    by_cases e : k = j
    · subst e
      rw [getD_set_same _ _ _ hk', List.length_set, hv]
      exact ((hrow.set (i * 2) _).set (i * 2 + 1) _).congr (fun c _ => vcell_set _ _ _ hi c)
    · rw [getD_set_other _ _ _ _ e]
      exact (h.arr k hk').keep hch (by omega)

set_option maxRecDepth 100000 in
set_option maxHeartbeats 2000000 in
theorem arrays_set (w : World) (B rb : Nat) (A : Ad) (s : Mc) (f : Fr) (rest : List Fr) (v i a : V) (st : List V) (hL : LayA w B rb A s) (hs : s.fr = f :: rest) (hst : f.stk = v :: i :: a :: st) (ha : a.k = 2 → 0 ≤ a.n ∧ a.n < s.arr.length) (hB : B ≤ w.heap.size) (hn : st.length ≤ 60) (hr : rest.length ≤ 60) (hm : s.arr.length ≤ 200000) :
    Calls Tryz.prog 113 #[.pointer (some ⟨rb, 0, none⟩), .int .i64 17] w fun e w' =>
      (whereP s.arr a i ≠ 0 → e = .returned (.int .i64 (whereP s.arr a i)) ∧ After w w' B rb A { s with fr := { f with stk := st } :: rest }) ∧
      (whereP s.arr a i = 0 → e = .returned (.int .i64 0) ∧ After w w' B rb A { s with fr := { f with stk := st } :: rest, arr := s.arr.set a.n.toNat ((s.arr.getD a.n.toNat []).set i.n.toNat v) }) := by
  have hcon := pop_A w B rb A s f rest v (i :: a :: st) hL hs hst hB (by simp; omega) (by omega)
  have HC := hid hcon
  clear hcon
  go_enter Tryz.func113, Tryz.ntmps113
  go_wp2_with fail
  refine HC.out.mono ?_
  rintro e w0 ⟨rfl, A0, h0, p0, f0, _, _, _, ch0⟩
  have HB0 := hid (boxed v h0 p0 f0 (ch0.mono five_stack))
  clear h0 p0 f0 ch0 HC
  go_wp2_with fail
  generalize w0.alloc (.cells #[.int .i64 v.k, .int .i64 v.n] 43) = W0 at *
  generalize { A0 with tag := upd A0.tag w0.heap.size 5 } = A0' at *
  generalize w0.heap.size = bx0 at *
  have hB0 : B ≤ W0.heap.size := by have := HB0.out.ch.size; omega
  refine (pop_A W0 B rb A0' { s with fr := { f with stk := i :: a :: st } :: rest } { f with stk := i :: a :: st } rest i (a :: st) HB0.out.lay rfl rfl hB0 (by simp; omega) (by omega)).mono ?_
  rintro e w1 ⟨rfl, A1, h1, p1, f1, _, _, _, ch1⟩
  have HB1 := hid (boxed i h1 (p1.trans HB0.out.pv) (f1.trans HB0.out.fv) (HB0.out.ch.trans (ch1.mono five_stack)))
  have j0 := (ch1.box stack5 HB0.out.lt HB0.out.tag 0).trans HB0.out.box0
  have j1 := (ch1.box stack5 HB0.out.lt HB0.out.tag 1).trans HB0.out.box1
  have hx0 : bx0 < w1.heap.size := by have := ch1.size; have := HB0.out.lt; omega
  have hbb1 : Below w1.heap.size w1 (w1.alloc (.cells #[.int .i64 i.k, .int .i64 i.n] 43)) := (Below.refl _ _).alloc (Nat.le_refl _) _
  have HM0 := hid (And.intro ((hbb1.cell (p := ⟨bx0, 0, none⟩) hx0).trans j0) (And.intro ((hbb1.cell (p := ⟨bx0, 1, none⟩) hx0).trans j1) (show upd A1.tag w1.heap.size 5 bx0 = 5 by rw [upd_other _ _ _ _ (by omega)]; exact (ch1.tags bx0 HB0.out.lt).trans HB0.out.tag)))
  have hsz1 : (w1.alloc (.cells #[.int .i64 i.k, .int .i64 i.n] 43)).heap.size = w1.heap.size + 1 := by simp
  have HS1 := hid hsz1
  clear h1 p1 f1 ch1 HB0 j0 j1 hbb1 hsz1
  go_wp2_with fail
  generalize w1.alloc (.cells #[.int .i64 i.k, .int .i64 i.n] 43) = W1 at *
  generalize hA1 : ({ A1 with tag := upd A1.tag w1.heap.size 5 } : Ad) = A1' at HB1
  have HA1 : Hid (upd A1.tag w1.heap.size 5 = A1'.tag) := by unfold Hid; rw [← hA1]
  clear hA1
  generalize w1.heap.size = bx1 at *
  have hB1 : B ≤ W1.heap.size := by have := HB1.out.ch.size; omega
  refine (pop_A W1 B rb A1' { s with fr := { f with stk := a :: st } :: rest } { f with stk := a :: st } rest a st HB1.out.lay rfl rfl hB1 (by omega) (by omega)).mono ?_
  rintro e w2 ⟨rfl, A2, h2, p2, f2, _, _, _, ch2⟩
  have HB2 := hid (boxed a h2 (p2.trans HB1.out.pv) (f2.trans HB1.out.fv) (HB1.out.ch.trans (ch2.mono five_stack)))
  have tb0 : A1'.tag bx0 = 5 := HA1.out ▸ HM0.out.2.2
  have lt0 : bx0 < W1.heap.size := by rw [HS1.out]; omega
  have hx0' : bx0 < w2.heap.size := by have := ch2.size; omega
  have hx1' : bx1 < w2.heap.size := by have := ch2.size; have := HB1.out.lt; omega
  have hbb2 : Below w2.heap.size w2 (w2.alloc (.cells #[.int .i64 a.k, .int .i64 a.n] 43)) := (Below.refl _ _).alloc (Nat.le_refl _) _
  have m0 := (hbb2.cell (p := ⟨bx0, 0, none⟩) hx0').trans ((ch2.box stack5 lt0 tb0 0).trans HM0.out.1)
  have m1 := (hbb2.cell (p := ⟨bx0, 1, none⟩) hx0').trans ((ch2.box stack5 lt0 tb0 1).trans HM0.out.2.1)
  have k2 := (ch2.box stack5 HB1.out.lt HB1.out.tag 0).trans HB1.out.box0
  have k3 := (ch2.box stack5 HB1.out.lt HB1.out.tag 1).trans HB1.out.box1
  have m2 := (hbb2.cell (p := ⟨bx1, 0, none⟩) hx1').trans ((ch2.box stack5 HB1.out.lt HB1.out.tag 0).trans HB1.out.box0)
  have m3 := (hbb2.cell (p := ⟨bx1, 1, none⟩) hx1').trans ((ch2.box stack5 HB1.out.lt HB1.out.tag 1).trans HB1.out.box1)
  have tt0 : upd A2.tag w2.heap.size 5 bx0 = 5 := by rw [upd_other _ _ _ _ (by omega)]; exact (ch2.tags bx0 lt0).trans tb0
  have tt1 : upd A2.tag w2.heap.size 5 bx1 = 5 := by rw [upd_other _ _ _ _ (by omega)]; exact (ch2.tags bx1 HB1.out.lt).trans HB1.out.tag
  have HM := hid (And.intro m0 (And.intro m1 (And.intro m2 (And.intro m3 (And.intro tt0 tt1)))))
  have hsz2 : (w2.alloc (.cells #[.int .i64 a.k, .int .i64 a.n] 43)).heap.size = w2.heap.size + 1 := by simp
  have HS2 := hid hsz2
  clear h2 p2 f2 ch2 HB1 HM0 HA1 HS1 tb0 lt0 hbb2 m0 m1 m2 m3 tt0 tt1 hsz2
  go_wp2_with fail
  generalize w2.alloc (.cells #[.int .i64 a.k, .int .i64 a.n] 43) = W at *
  generalize hA2 : ({ A2 with tag := upd A2.tag w2.heap.size 5 } : Ad) = A2' at HB2
  have HA2 : Hid (upd A2.tag w2.heap.size 5 = A2'.tag) := by unfold Hid; rw [← hA2]
  clear hA2
  generalize hbx : w2.heap.size = bx2 at *
  clear hbx
  refine (where_any W B rb A2'.tag A2'.pv A2'.fv A2'.av A2'.ov A2'.hv A2'.LV A2'.SV A2'.AV { s with fr := { f with stk := st } :: rest } a i HB2.out.lay ha hm).mono ?_
  rintro e w3 ⟨rfl, hB3⟩
  have HL3 := hid (LayA.below HB2.out.lay hB3)
  have hch3 : Ch B Five A.tag A2'.tag w w3 := HB2.out.ch.trans' hB3
  have HC3 := hid hch3
  by_cases hw : whereP s.arr a i = 0
  · rw [hw]
    obtain ⟨wk, wi, i0, i1⟩ := where_ok hw
    obtain ⟨a0, a1⟩ := ha wk
    obtain ⟨ab, acap, p, cp, r2, c0, hAV, habz, habt, hab⟩ := arr_slice HL3.out (j := a.n.toNat) (by show a.n.toNat < s.arr.length; omega)
    have hrow := Lay.arr HL3.out a.n.toNat (by show a.n.toNat < s.arr.length; omega)
    rw [hAV] at hrow
    obtain ⟨xb, xcap, hxv, hxB, hxz, hxt, hxc⟩ := hrow.form (by show 1 ≤ (s.arr.getD a.n.toNat []).length; omega)
    injection hxv with hx1 hx2 hx3
    subst hx1
    subst hx3
    have y0 := hrow.cell (i := i.n.toNat * 2) (by show i.n.toNat * 2 < (s.arr.getD a.n.toNat []).length * 2; omega)
    have y1 := hrow.cell (i := i.n.toNat * 2 + 1) (by show i.n.toNat * 2 + 1 < (s.arr.getD a.n.toNat []).length * 2; omega)
    have z0 := hrow.frozen (i.n.toNat * 2)
    have z1 := hrow.frozen (i.n.toNat * 2 + 1)
    have hfin := LayA.arrset HL3.out (j := a.n.toNat) (i := i.n.toNat) (xb := xb) (cap := cp) (by show a.n.toNat < s.arr.length; omega) hAV (by show i.n.toNat < (s.arr.getD a.n.toNat []).length; omega) v
    have hbW0 : bx0 < W.heap.size := by rw [HS2.out]; omega
    have hbW1 : bx1 < W.heap.size := by rw [HS2.out]; omega
    have n0 := (hB3.cell (p := ⟨bx0, 0, none⟩) hbW0).trans HM.out.1
    have n1 := (hB3.cell (p := ⟨bx0, 1, none⟩) hbW0).trans HM.out.2.1
    have n2 := (hB3.cell (p := ⟨bx1, 1, none⟩) hbW1).trans HM.out.2.2.2.1
    have n3 := (hB3.cell (p := ⟨bx2, 1, none⟩) HB2.out.lt).trans HB2.out.box1
    have tx : ∀ b, A2'.tag b ≠ 12 + 3 * a.n.toNat → ¬ b = xb := by intro b hb e; rw [e] at hb; exact hb hxt
    have e1 := tx rb (by rw [(Lay.own HL3.out).2]; omega)
    have e2 := tx ab (by rw [habt]; omega)
    have e3 := tx bx0 (by rw [← HA2.out, HM.out.2.2.2.2.1]; omega)
    have e4 := tx bx1 (by rw [← HA2.out, HM.out.2.2.2.2.2]; omega)
    have e5 := tx bx2 (by rw [HB2.out.tag]; omega)
    have e1' : ¬ xb = rb := fun h => e1 h.symm
    have e2' : ¬ xb = ab := fun h => e2 h.symm
    have e3' : ¬ xb = bx0 := fun h => e3 h.symm
    have e4' : ¬ xb = bx1 := fun h => e4 h.symm
    have e5' : ¬ xb = bx2 := fun h => e5 h.symm
    have HQ : Hid (After w (((w3.setCell ⟨xb, i.n.toNat * 2, none⟩ (.int .i64 v.k)).setCell ⟨xb, i.n.toNat * 2 + 1, none⟩ (.int .i64 v.n)).drew) B rb A { s with fr := { f with stk := st } :: rest, arr := s.arr.set a.n.toNat ((s.arr.getD a.n.toNat []).set i.n.toNat v) }) :=
      ⟨A2', LayA.below hfin.1 ((Below.refl _ _).drew), HB2.out.pv, HB2.out.fv, (HC3.out.trans (hfin.2.mono (fun c hc => by intro h; omega))).drew⟩
    have HW := hid hw
    have u0 : a.n < (s.arr.length : Int) := a1
    have hll : i.n < ((s.arr.getD a.n.toNat []).length : Int) := i1
    clear hfin hrow hw HL3 HC3 hch3 hB3 hAV hL hst hs ha HM HB2 HS2 HA2 wk wi habt hxt tx
    generalize vcell (s.arr.getD a.n.toNat []) (i.n.toNat * 2) = o0 at *
    generalize vcell (s.arr.getD a.n.toNat []) (i.n.toNat * 2 + 1) = o1 at *
    generalize (s.arr.getD a.n.toNat []).length = ln at *
    generalize s.arr.length = na at *
    go_wp2
    go_region_held3 (fun w' => w'.cell? ⟨rb, 2, none⟩ = some (.slice (some ⟨ab, 0, none⟩) na acap) ∧ w'.cell? ⟨ab, a.n.toNat, none⟩ = some (.slice (some ⟨xb, 0, none⟩) ln cp) ∧ w'.cell? ⟨bx2, 1, none⟩ = some (.int .i64 a.n) ∧ w'.cell? ⟨bx1, 1, none⟩ = some (.int .i64 i.n) ∧ w'.cell? ⟨bx0, 0, none⟩ = some (.int .i64 v.k) ∧ w'.cell? ⟨bx0, 1, none⟩ = some (.int .i64 v.n)) (go_keep) (fail)
    rename_i hheld
    clear hheld
    go_wp2
    go_ret
    exact ⟨fun h => absurd HW.out h, fun _ => ⟨rfl, HQ.out⟩⟩
  · have hne : (whereP s.arr a i != 0) = true := by simpa using hw
    have HW := hid hw
    have HQ : Hid (After w w3 B rb A { s with fr := { f with stk := st } :: rest }) := ⟨A2', HL3.out, HB2.out.pv, HB2.out.fv, HC3.out⟩
    clear hw hch3 hB3
    go_wp2
    go_ret
    exact ⟨fun _ => ⟨rfl, HQ.out⟩, fun h => absurd h HW.out⟩
end Go.Proofs.YtkafkipjedpohaaGreatDoor

/-
  upshiftref's arrays: New.
-/
namespace Go.Proofs.YtkafkipjedpohaaGreatDoor
open Go.RowKit

theorem Tryz.info44 : (Tryz.prog.info? 44).map (fun i => (i.zero, i.size, i.bytes)) = some (some (.slice none 0 0), 1, 24) := by kernel_rfl

theorem grew_cell2 {W w1 : World} {o o' : Obj} {row : Option Nat} (hg : ((W.drew.alloc o).alloc o').grownBy w1 row) {a : Addr} (ha : a.block < W.heap.size) (hne : some a.block ≠ row) : w1.cell? a = W.cell? a := by
  have h1 : w1.heap[a.block]? = ((W.drew.alloc o).alloc o').heap[a.block]? := hg.block a.block (by show a.block < ((W.heap.push o).push o').size; simp; omega) hne
  have h2 : ((W.drew.alloc o).alloc o').heap[a.block]? = W.heap[a.block]? := (((Below.refl W.heap.size W).drew.alloc (Nat.le_refl _) o).alloc (by simp) o').block a.block ha
  exact World.cell?_of_block (h1.trans h2)
theorem grew_frozen2 {W w1 : World} {o o' : Obj} {row : Option Nat} (hg : ((W.drew.alloc o).alloc o').grownBy w1 row) {a : Addr} (ha : a.block < W.heap.size) (hne : some a.block ≠ row) : w1.frozen? a = W.frozen? a := by
  have h1 : w1.heap[a.block]? = ((W.drew.alloc o).alloc o').heap[a.block]? := hg.block a.block (by show a.block < ((W.heap.push o).push o').size; simp; omega) hne
  have h2 : ((W.drew.alloc o).alloc o').heap[a.block]? = W.heap[a.block]? := (((Below.refl W.heap.size W).drew.alloc (Nat.le_refl _) o).alloc (by simp) o').block a.block ha
  exact World.frozen?_of_block (h1.trans h2)

def vArr (n : Nat) : Array Value := madeCells #[.int .i64 0, .int .i64 0] (n * 2)
theorem make_vals (n : Int) (h0 : 0 ≤ n) (hn : n ≤ 1000) (wx : World) : (Instr.makeSlice 44 (.int .i64 n) (.int .i64 n)).run Tryz.prog wx = .ok (.slice (some ⟨wx.heap.size, 0, none⟩) n.toNat n.toNat) (wx.alloc (.cells (vArr n.toNat) 43)) := by
  have h := run_make_rows (P := Tryz.prog) 44 43 _ _ 2 16 Tryz.underlying44 Tryz.info43 rfl .i64 .i64 n.toNat (by omega) (by omega) wx
  rw [show ((n.toNat : Nat) : Int) = n by omega] at h
  exact h
theorem vArr_row {B : Nat} {tag : Nat → Nat} {c : Nat} (w : World) (n : Nat) (hB : B ≤ w.heap.size) (hn : n ≤ maxLen) (ht : tag w.heap.size = c) : Row (w.alloc (.cells (vArr n) 43)) B tag c 43 2 (.slice (some ⟨w.heap.size, 0, none⟩) n n) n (vcell (List.replicate n vnil)) := by
  refine Or.inr ⟨w.heap.size, n, vArr n, rfl, hB, ht, Go.Deep.blk_alloc_new _ _, Nat.le_refl _, hn, by simp [vArr, size_madeCells], fun i hi => ?_⟩
  have h2 : i / 2 < n := by omega
  have : i % 2 = 0 ∨ i % 2 = 1 := by omega
  rcases this with e | e <;> simp [vArr, madeCells, hi, e, vcell, List.getD_eq_getElem?_getD, h2, vnil]

theorem news1 (w : World) (o : Obj) (v : Value) (t : TypeId) : ∀ j u, [v][j]? = some u → ((w.alloc o).alloc (.cells #[v] t)).drew.cell? ((⟨w.heap.size + 1, 0, none⟩ : Addr).add j) = some u := by
  have hb : ((w.alloc o).alloc (.cells #[v] t)).drew.heap[w.heap.size + 1]? = some (.cells #[v] t (0, 0)) := by
    have h := Go.Deep.blk_alloc_new (w.alloc o) (.cells #[v] t)
    have e : (w.alloc o).heap.size = w.heap.size + 1 := by simp
    rw [e] at h
    exact h
  exact World.news_of_block hb

/-- A new array stands behind the others. -/
theorem LayA.arrnew {w w' : World} {B rb : Nat} {A : Ad} {s : Mc} (h : LayA w B rb A s) {tag' : Nat → Nat} (hc : Ch B (fun c => c = 0 ∨ c = 2) A.tag tag' w w') {av' nv : Value} {l : List V}
    (hrun : w'.heap[rb]? = some (.cells (rcells A.pv A.fv av' A.ov A.hv s) 155 (0, 0))) (har : Row w' B tag' 2 44 1 av' (s.arr.length + 1) (upd A.AV s.arr.length nv))
    (hnew : Row w' B tag' (12 + 3 * s.arr.length) 43 2 nv l.length (vcell l)) :
    LayA w' B rb { A with tag := tag', av := av', AV := upd A.AV s.arr.length nv } { s with arr := s.arr ++ [l] } := by
  refine ⟨hrun, ⟨h.own.1, (hc.tags rb (Lay.lt h)).trans h.own.2⟩, h.fr.keep hc (by omega), ?_, h.out.keep hc (by omega), h.hi.keep hc (by omega), fun i hi => (h.loc i hi).keep hc (by omega), fun i hi => (h.stk i hi).keep hc (by omega), fun j hj => ?_⟩
  · show Row w' B tag' 2 _ 1 av' (s.arr ++ [l]).length _
    rw [List.length_append]
    exact har
  · have hj' : j < s.arr.length + 1 := by simpa using hj
    show Row w' B tag' (12 + 3 * j) _ 2 (upd A.AV s.arr.length nv j) ((s.arr ++ [l]).getD j []).length (vcell ((s.arr ++ [l]).getD j []))
    by_cases e : j = s.arr.length
    · subst e
      have e2 : (s.arr ++ [l]).getD s.arr.length [] = l := by simp [List.getD_eq_getElem?_getD]
      rw [e2, upd_same]
      exact hnew
    · have e2 : (s.arr ++ [l]).getD j [] = s.arr.getD j [] := by rw [List.getD_eq_getElem?_getD, List.getD_eq_getElem?_getD, List.getElem?_append_left (by omega)]
      rw [e2, upd_other _ _ _ _ e]
      exact (h.arr j (by omega)).keep hc (by omega)

theorem block_set {w : World} {b i : Nat} {cs : Array Value} {e : TypeId} {z : Nat × Nat} (h : w.heap[b]? = some (.cells cs e z)) (v : Value) : (w.setCell ⟨b, i, none⟩ v).heap[b]? = some (.cells (cs.setIfInBounds i v) e z) := by
  simp [World.setCell, Array.getElem?_modify, h]

theorem LayA.arrgrew {w5 w6 : World} {B rb : Nat} {A5 : Ad} {s : Mc} (h : LayA w5 B rb A5 s) (hB5 : B ≤ w5.heap.size) {n na : Nat} (hn : n ≤ 1000) (hna : s.arr.length = na) {pa : Option Addr} {acap : Nat} (hav : A5.av = .slice pa na acap) {g cap : Nat}
    (hown : w6.ownsRow B 44 1 (.slice (some ⟨g, 0, none⟩) (na + 1) cap) (na + 1) (List.map A5.AV (List.range (na * 1)) ++ [.slice (some ⟨w5.heap.size, 0, none⟩) n n]))
    (hgrow : ((w5.alloc (.cells (vArr n) 43)).alloc (.cells #[.slice (some ⟨w5.heap.size, 0, none⟩) n n] 44)).drew.grownBy w6 (Value.slice pa na acap).ownBlock) (hat : (Value.slice pa na acap).ownBlock = some g ∨ g = w5.heap.size + 2) :
    ∃ A7, LayA (w6.setCell ⟨rb, 2, none⟩ (.slice (some ⟨g, 0, none⟩) (na + 1) cap)) B rb A7 { s with arr := s.arr ++ [List.replicate n vnil] } ∧ A7.pv = A5.pv ∧ A7.fv = A5.fv ∧ Ch B Five A5.tag A7.tag w5 (w6.setCell ⟨rb, 2, none⟩ (.slice (some ⟨g, 0, none⟩) (na + 1) cap)) := by
  subst hna
  have hrb := Lay.lt h
  generalize hT : upd (upd A5.tag w5.heap.size (12 + 3 * s.arr.length)) (w5.heap.size + 1) 5 = T
  have hT0 : ∀ b, b < w5.heap.size → T b = A5.tag b := fun b hb => by rw [← hT, upd_other _ _ _ _ (by omega), upd_other _ _ _ _ (by omega)]
  have hT1 : T w5.heap.size = 12 + 3 * s.arr.length := by rw [← hT, upd_other _ _ _ _ (by omega), upd_same]
  have hnewrow := vArr_row (B := B) (tag := T) w5 n hB5 (by unfold maxLen; omega) hT1
  have hbX : Below w5.heap.size w5 ((w5.alloc (.cells (vArr n) 43)).alloc (.cells #[.slice (some ⟨w5.heap.size, 0, none⟩) n n] 44)).drew := (((Below.refl _ _).alloc (Nat.le_refl _) _).alloc (by simp) _).drew
  have hbX1 : Below (w5.alloc (.cells (vArr n) 43)).heap.size (w5.alloc (.cells (vArr n) 43)) ((w5.alloc (.cells (vArr n) 43)).alloc (.cells #[.slice (some ⟨w5.heap.size, 0, none⟩) n n] 44)).drew := ((Below.refl _ _).alloc (Nat.le_refl _) _).drew
  have hcX : Ch B (fun _ => False) A5.tag T w5 ((w5.alloc (.cells (vArr n) 43)).alloc (.cells #[.slice (some ⟨w5.heap.size, 0, none⟩) n n] 44)).drew := Ch.of_tags hbX hT0
  have hnewX := hnewrow.below hbX1
  have hszX : ((w5.alloc (.cells (vArr n) 43)).alloc (.cells #[.slice (some ⟨w5.heap.size, 0, none⟩) n n] 44)).drew.heap.size = w5.heap.size + 2 := by simp
  generalize ((w5.alloc (.cells (vArr n) 43)).alloc (.cells #[.slice (some ⟨w5.heap.size, 0, none⟩) n n] 44)).drew = X at *
  have hrow := h.ar
  rw [hav] at hrow
  have hrowX := hrow.keep hcX (fun h => h)
  obtain ⟨tag', har, hgc⟩ := hrowX.grew hown hgrow (by rcases hat with h | h; exact Or.inl h; right; rw [h, hszX]) rfl
  have hc6 : Ch B (fun c => c = 0 ∨ c = 2) A5.tag tag' w5 w6 := (hcX.mono (fun _ h => h.elim)).trans (hgc.mono (fun _ h => Or.inr h))
  have htr : tag' rb = 0 := (hc6.tags rb hrb).trans h.own.2
  have hcs : Ch B (fun c => c = 0) tag' tag' w6 (w6.setCell ⟨rb, 2, none⟩ (.slice (some ⟨g, 0, none⟩) (s.arr.length + 1) cap)) := Ch.set w6 rb _ _ h.own.1 htr
  have hc7 := hc6.trans (hcs.mono (fun _ h => Or.inl h))
  have hrun6 : w6.heap[rb]? = some (.cells (rcells A5.pv A5.fv A5.av A5.ov A5.hv s) 155 (0, 0)) :=
    (hgc.block rb (by rw [hszX]; omega) (Or.inr (by rw [hT0 rb hrb, h.own.2]; omega))).trans ((hcX.block rb hrb (Or.inr (fun h => h))).trans h.run)
  refine ⟨_, LayA.arrnew h hc7 (av' := .slice (some ⟨g, 0, none⟩) (s.arr.length + 1) cap) (nv := .slice (some ⟨w5.heap.size, 0, none⟩) n n) (l := List.replicate n vnil) (block_set hrun6 _) ?_ ?_, rfl, rfl, hc7.mono (fun c hc => by intro h; omega)⟩
  · refine (har.keep hcs (by omega)).congr (fun i hi => ?_)
    by_cases e : i = s.arr.length
    · subst e
      rw [if_neg (by omega), upd_same]
      simp
    · rw [if_pos (by omega), upd_other _ _ _ _ e]
  · rw [List.length_replicate]
    exact (hnewX.keep hgc (by omega)).keep hcs (by omega)

set_option maxRecDepth 100000 in
set_option maxHeartbeats 2000000 in
theorem arrays_new (w : World) (B rb : Nat) (A : Ad) (s : Mc) (f : Fr) (rest : List Fr) (x : V) (st : List V) (hL : LayA w B rb A s) (hs : s.fr = f :: rest) (hst : f.stk = x :: st) (hB : B ≤ w.heap.size) (hn : st.length ≤ 60) (hr : rest.length ≤ 60) (hm : s.arr.length ≤ 150000) (hc : cellsP s.arr ≤ 200) :
    Calls Tryz.prog 113 #[.pointer (some ⟨rb, 0, none⟩), .int .i64 15] w fun e w' =>
      (x.k ≠ 1 → e = .returned (.int .i64 3) ∧ After w w' B rb A { s with fr := { f with stk := st } :: rest }) ∧
      (x.k = 1 → x.n < 0 → e = .returned (.int .i64 5) ∧ After w w' B rb A { s with fr := { f with stk := st } :: rest }) ∧
      (x.k = 1 → 0 ≤ x.n → 200 - cellsP s.arr < x.n → e = .returned (.int .i64 8) ∧ After w w' B rb A { s with fr := { f with stk := st } :: rest }) ∧
      (x.k = 1 → 0 ≤ x.n → x.n ≤ 200 - cellsP s.arr → e = .returned (.int .i64 0) ∧ After w w' B rb A { s with fr := { f with stk := ⟨2, (s.arr.length : Int)⟩ :: st } :: rest, arr := s.arr ++ [List.replicate x.n.toNat vnil] }) := by
  have hcon := pop_A w B rb A s f rest x st hL hs hst hB (by omega) (by omega)
  have HC := hid hcon
  clear hcon
  go_enter Tryz.func113, Tryz.ntmps113
  go_wp2_with fail
  refine HC.out.mono ?_
  rintro e w1 ⟨rfl, A1, h1, p1, f1, _, _, _, ch1⟩
  have HB := hid (boxed x h1 p1 f1 (ch1.mono five_stack))
  clear h1 p1 f1 ch1 HC
  have HQ0 : Hid (After w (w1.alloc (.cells #[.int .i64 x.k, .int .i64 x.n] 43)) B rb A { s with fr := { f with stk := st } :: rest }) := ⟨_, HB.out.lay, HB.out.pv, HB.out.fv, HB.out.ch⟩
  clear hL hst hs
  by_cases hk : x.k = 1
  · have e1 : (x.k != 1) = false := by simpa using hk
    have HK := hid hk
    clear hk
    by_cases hneg : x.n < 0
    · go_wp2
      go_ret
      exact ⟨fun h => absurd HK.out h, fun _ _ => ⟨rfl, HQ0.out⟩, fun _ h => absurd hneg (by omega), fun _ h => absurd hneg (by omega)⟩
    · go_wp2_with fail
      generalize w1.alloc (.cells #[.int .i64 x.k, .int .i64 x.n] 43) = W at *
      generalize { A1 with tag := upd A1.tag w1.heap.size 5 } = A' at *
      generalize w1.heap.size = bx at *
      have hcl := cells_nonneg s.arr
      have HCL := hid (cells_any W B rb A'.tag A'.pv A'.fv A'.av A'.ov A'.hv A'.LV A'.SV A'.AV { s with fr := { f with stk := st } :: rest } HB.out.lay hc (by show s.arr.length ≤ 200000; omega))
      have b1 := HB.out.box1
      refine HCL.out.mono ?_
      rintro e w2 ⟨rfl, rfl⟩
      have hcc : cellsP ({ s with fr := { f with stk := st } :: rest } : Mc).arr = cellsP s.arr := rfl
      rw [hcc]
      clear hcc HCL
      by_cases hfree : 200 - cellsP s.arr < x.n
      · go_wp2
        go_ret
        exact ⟨fun h => absurd HK.out h, fun _ h => absurd h (by omega), fun _ _ _ => ⟨rfl, HQ0.out⟩, fun _ _ h => absurd hfree (by omega)⟩
      · have HF := hid hfree
        obtain ⟨pa, acap, hav, hacap⟩ := (Lay.ar HB.out.lay).any
        have r2 : w2.cell? ⟨rb, 2, none⟩ = some (.slice pa s.arr.length acap) := by rw [Lay.cell HB.out.lay 2]; show some A'.av = _; rw [hav]
        have hpush : ∀ X, Below w2.heap.size w2 X →
            Calls Tryz.prog 111 #[.pointer (some ⟨rb, 0, none⟩), .agg #[.int .i64 2, .int .i64 (s.arr.length : Int)]] X fun e w' => e = .returned (.tuple #[]) ∧
              ∃ A5, LayA w' B rb A5 { s with fr := { f with stk := ⟨2, (s.arr.length : Int)⟩ :: st } :: rest } ∧ A5.pv = A'.pv ∧ A5.fv = A'.fv ∧ A5.av = A'.av ∧ Ch B (fun c => c = 1 ∨ c = 11 + 3 * rest.length) A'.tag A5.tag w2 w' :=
          fun X hX => by
            refine (push_A X B rb A' { s with fr := { f with stk := st } :: rest } { f with stk := st } rest ⟨2, (s.arr.length : Int)⟩ (LayA.below HB.out.lay hX) rfl (by have := hX.size; have := HB.out.ch.size; omega) (by show st.length ≤ 64; omega) (by omega)).mono ?_
            rintro e w' ⟨rfl, A5, g1, g2, g3, g4, g5, g6, g7⟩
            exact ⟨rfl, A5, g1, g2, g3, g4, (Ch.of_below hX).trans g7⟩
        have HP := hid hpush
        have hrb := Lay.lt HB.out.lay
        have hbx := HB.out.lt
        have HT := hid (And.intro (Lay.own HB.out.lay).2 HB.out.tag)
        have hna : s.arr.length ≤ 150000 := hm
        have HV := hid hav
        clear hpush hav
        generalize hnn : s.arr.length = na at *
        have Hna := hid hnn
        clear hnn
        go_wp2_with fail
        refine (HP.out _ ?_).mono ?_
        exact (by repeat (first | exact Below.refl _ _ | refine Below.drew ?_ | refine Below.alloc ?_ (by first | omega | (simp; done) | (simp; omega)) _))
        rintro e w5 ⟨rfl, A5, h5, p5, f5, a5, ch5⟩
        have q0 := (ch5.cell (a := ⟨rb, 2, none⟩) hrb (by show ¬ (_ ∨ _); rw [HT.out.1]; omega)).trans r2
        have q1 := (ch5.cell (a := ⟨bx, 1, none⟩) hbx (by show ¬ (_ ∨ _); rw [HT.out.2]; omega)).trans b1
        have HH := hid h5
        have HC5 := hid ch5
        clear h5 ch5 r2 b1
        go_wp2
        obtain ⟨inf, hi, hz0, hz1, hz2⟩ : ∃ i, Tryz.prog.info? 44 = some i ∧ i.zero = some (.slice none 0 0) ∧ i.size = 1 ∧ i.bytes = 24 := by
          obtain ⟨i, hi, hzz⟩ := Option.map_eq_some_iff.1 Tryz.info44
          simp only [Prod.mk.injEq] at hzz
          exact ⟨i, hi, hzz.1, hzz.2.1, hzz.2.2⟩
        have hx0 : 0 ≤ x.n := by omega
        have hx1 : x.n ≤ 200 := by omega
        have hmk := make_vals x.n hx0 (by omega)
        have HR : Hid (Row w5 B A5.tag 2 44 1 (.slice pa na acap) na A5.AV) := by
          have h := Lay.ar HH.out
          rw [a5, HV.out] at h
          have hl : ({ s with fr := { f with stk := ⟨2, (na : Int)⟩ :: st } :: rest } : Mc).arr.length = na := Hna.out
          rw [hl] at h
          exact h
        have hB5 : B ≤ w5.heap.size := by have := HC5.out.size; have := HB.out.ch.size; omega
        have hrb5 : rb < w5.heap.size := Lay.lt HH.out
        have hne1 : some rb ≠ (Value.slice pa na acap).ownBlock := HR.out.other (by rw [(Lay.own HH.out).2]; omega)
        have z2 := Lay.frozen HH.out 2
        have HZ := hid z2
        clear z2
        go_region_law ((refine step_append_lies _ (by rfl) _ _ _ (by rfl) B 44 inf _ 1 24 Tryz.underlying51 hi hz0 hz1 hz2 rfl (by decide) (.slice pa na acap) na _ (by rfl) (by exact ((HR.out.owns.drew).alloc _).alloc _) ⟨w5.heap.size + 1, 0, none⟩ 1 1 [.slice (some ⟨w5.heap.size, 0, none⟩) x.n.toNat x.n.toNat] (by rfl) (by rfl) (by exact news1 _ _ _ _) (by intro u hu; simp at hu; subst hu; rfl) (by omega) (by unfold maxLen; omega) (by omega) (by simp; omega) (w5.heap.size + 2) (by simp) ?_; intro g cap w6 hown1 hgrow hat hlt; have y0 := (grew_cell2 hgrow (a := ⟨rb, 2, none⟩) hrb5 hne1).trans q0; have y1 := (grew_frozen2 hgrow (a := ⟨rb, 2, none⟩) hrb5 hne1).trans HZ.out))
        all_goals
          have hfin := LayA.arrgrew (s := { s with fr := { f with stk := ⟨2, (na : Int)⟩ :: st } :: rest }) (n := x.n.toNat) HH.out hB5 (by omega) (na := na) Hna.out (a5.trans HV.out) hown1 hgrow hat
          have HQ := hid hfin
          clear hfin hown1 hgrow y0 y1
          go_wp2
          go_ret
          obtain ⟨A7, g1, g2, g3, g4⟩ := HQ.out
          have hF2 := HF.out
          refine ⟨fun h => absurd HK.out h, by intros; omega, by intros; omega, ?_⟩
          intros
          refine ⟨rfl, A7, ?_, ?_, ?_, ?_⟩
          · have e := Hna.out
            rw [e]
            exact g1
          · exact g2.trans (p5.trans HB.out.pv)
          · exact g3.trans (f5.trans HB.out.fv)
          · exact (HB.out.ch.trans (HC5.out.mono five_stack)).trans g4
  · have e1 : (x.k != 1) = true := by simpa using hk
    have HK := hid hk
    clear hk
    go_wp2
    go_ret
    exact ⟨fun _ => ⟨rfl, HQ0.out⟩, fun h => absurd h HK.out, fun h => absurd h HK.out, fun h => absurd h HK.out⟩
end Go.Proofs.YtkafkipjedpohaaGreatDoor
