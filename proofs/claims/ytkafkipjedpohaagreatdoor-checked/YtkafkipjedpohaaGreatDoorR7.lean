import Derived.Test.YtkafkipjedpohaaGreatDoorR4

/-
  upshiftref's arrays: Get.
-/
namespace Go.Proofs.YtkafkipjedpohaaGreatDoor
open Go.RowKit

/-- A box of a value, behind a pop: what stands then. -/
structure Boxed (w W : World) (B rb bx : Nat) (A A' : Ad) (s : Mc) (x : V) : Prop where
  lay : LayA W B rb A' s
  pv : A'.pv = A.pv
  fv : A'.fv = A.fv
  ch : Ch B Five A.tag A'.tag w W
  box0 : W.cell? ⟨bx, 0, none⟩ = some (.int .i64 x.k)
  box1 : W.cell? ⟨bx, 1, none⟩ = some (.int .i64 x.n)
  tag : A'.tag bx = 5
  lt : bx < W.heap.size
  old : w.heap.size ≤ bx

theorem boxed {w w1 : World} {B rb : Nat} {A A1 : Ad} {s : Mc} (x : V) (h : LayA w1 B rb A1 s) (hp : A1.pv = A.pv) (hf : A1.fv = A.fv) (hc : Ch B Five A.tag A1.tag w w1) :
    Boxed w (w1.alloc (.cells #[.int .i64 x.k, .int .i64 x.n] 43)) B rb w1.heap.size A { A1 with tag := upd A1.tag w1.heap.size 5 } s x :=
  ⟨LayA.box h _, hp, hf, hc.trans (Ch.of_tags ((Below.refl _ _).alloc (Nat.le_refl _) _) (fun b hb => upd_other _ _ _ _ (by omega))), cell_new w1 _ _ _ _ rfl, cell_new w1 _ _ _ _ rfl, upd_same _ _ _, by simp, hc.size⟩

theorem Ch.box {B : Nat} {p : Nat → Prop} {t1 t2 : Nat → Nat} {u w : World} (h : Ch B p t1 t2 u w) (hp : ¬ p 5) {bx : Nat} (hb : bx < u.heap.size) (ht : t1 bx = 5) (i : Nat) : w.cell? ⟨bx, i, none⟩ = u.cell? ⟨bx, i, none⟩ :=
  h.cell (a := ⟨bx, i, none⟩) hb (by show ¬ p (t1 bx); rw [ht]; exact hp)
theorem five5 : ¬ Five 5 := fun h => h rfl
theorem stack5 {k : Nat} : ¬ (fun c : Nat => c = 1 ∨ c = 11 + 3 * k) 5 := by intro h; rcases h with h | h <;> omega

theorem arr_slice {w : World} {B rb : Nat} {A : Ad} {s : Mc} (h : LayA w B rb A s) {j : Nat} (hj : j < s.arr.length) :
    ∃ ab acap p cp, w.cell? ⟨rb, 2, none⟩ = some (.slice (some ⟨ab, 0, none⟩) s.arr.length acap) ∧ w.cell? ⟨ab, j, none⟩ = some (.slice p (s.arr.getD j []).length cp) ∧ A.AV j = .slice p (s.arr.getD j []).length cp ∧ ab < w.heap.size ∧ A.tag ab = 2 ∧ B ≤ ab := by
  have har := h.ar
  obtain ⟨ab, acap, hav, hab, habz, hatag, hac⟩ := har.form (by omega)
  rw [hav] at har
  have c0 := har.cell (i := j) (by omega)
  obtain ⟨p, cp, hvv, hcp⟩ := (h.arr j hj).any
  rw [hvv] at c0
  have r2 : w.cell? ⟨rb, 2, none⟩ = some (.slice (some ⟨ab, 0, none⟩) s.arr.length acap) := by rw [Lay.cell h 2]; show some A.av = _; rw [hav]
  exact ⟨ab, acap, p, cp, r2, c0, hvv, habz, hatag, hab⟩

set_option maxRecDepth 100000 in
set_option maxHeartbeats 2000000 in
theorem arrays_get (w : World) (B rb : Nat) (A : Ad) (s : Mc) (f : Fr) (rest : List Fr) (i a : V) (st : List V) (hL : LayA w B rb A s) (hs : s.fr = f :: rest) (hst : f.stk = i :: a :: st) (ha : a.k = 2 → 0 ≤ a.n ∧ a.n < s.arr.length) (hB : B ≤ w.heap.size) (hn : st.length ≤ 60) (hr : rest.length ≤ 60) (hm : s.arr.length ≤ 200000) (_hl : ∀ j, (s.arr.getD j []).length ≤ 200) :
    Calls Tryz.prog 113 #[.pointer (some ⟨rb, 0, none⟩), .int .i64 16] w fun e w' =>
      (whereP s.arr a i ≠ 0 → e = .returned (.int .i64 (whereP s.arr a i)) ∧ After w w' B rb A { s with fr := { f with stk := st } :: rest }) ∧
      (whereP s.arr a i = 0 → e = .returned (.int .i64 0) ∧ After w w' B rb A { s with fr := { f with stk := (s.arr.getD a.n.toNat []).getD i.n.toNat vnil :: st } :: rest }) := by
  have hcon := pop_A w B rb A s f rest i (a :: st) hL hs hst hB (by simp; omega) (by omega)
  have HC := hid hcon
  clear hcon
  go_enter Tryz.func113, Tryz.ntmps113
  go_wp2_with fail
  refine HC.out.mono ?_
  rintro e w1 ⟨rfl, A1, h1, p1, f1, _, _, _, ch1⟩
  have hb1 := boxed i h1 p1 f1 (ch1.mono five_stack)
  have HB1 := hid hb1
  have hsz1 : (w1.alloc (.cells #[.int .i64 i.k, .int .i64 i.n] 43)).heap.size = w1.heap.size + 1 := by simp
  have HS1 := hid hsz1
  clear h1 p1 f1 ch1 hb1 hsz1 HC
  go_wp2_with fail
  generalize w1.alloc (.cells #[.int .i64 i.k, .int .i64 i.n] 43) = W1 at *
  generalize { A1 with tag := upd A1.tag w1.heap.size 5 } = A1' at *
  generalize w1.heap.size = bx1 at *
  have hB1 : B ≤ W1.heap.size := by have := HB1.out.ch.size; omega
  refine (pop_A W1 B rb A1' { s with fr := { f with stk := a :: st } :: rest } { f with stk := a :: st } rest a st HB1.out.lay rfl rfl hB1 (by omega) (by omega)).mono ?_
  rintro e w2 ⟨rfl, A2, h2, p2, f2, _, _, _, ch2⟩
  have hb2 := boxed a h2 (p2.trans HB1.out.pv) (f2.trans HB1.out.fv) (HB1.out.ch.trans (ch2.mono five_stack))
  have k0 := (ch2.box stack5 HB1.out.lt HB1.out.tag 0).trans HB1.out.box0
  have k1 := (ch2.box stack5 HB1.out.lt HB1.out.tag 1).trans HB1.out.box1
  have hbx1 : bx1 < w2.heap.size := by have := ch2.size; have := HB1.out.lt; omega
  have hbb : Below w2.heap.size w2 (w2.alloc (.cells #[.int .i64 a.k, .int .i64 a.n] 43)) := (Below.refl _ _).alloc (Nat.le_refl _) _
  have m0 := (hbb.cell (p := ⟨bx1, 0, none⟩) hbx1).trans k0
  have m1 := (hbb.cell (p := ⟨bx1, 1, none⟩) hbx1).trans k1
  have t1 : upd A2.tag w2.heap.size 5 bx1 = 5 := by rw [upd_other _ _ _ _ (by omega)]; exact (ch2.tags bx1 HB1.out.lt).trans HB1.out.tag
  have HB2 := hid hb2
  have HM := hid (And.intro m0 (And.intro m1 t1))
  have hsz2 : (w2.alloc (.cells #[.int .i64 a.k, .int .i64 a.n] 43)).heap.size = w2.heap.size + 1 := by simp
  have HS2 := hid hsz2
  have hB2 : B ≤ w2.heap.size := by have := ch2.size; omega
  clear h2 p2 f2 ch2 hb2 hbb m0 m1 t1 HB1 HS1 hsz2
  go_wp2_with fail
  generalize w2.alloc (.cells #[.int .i64 a.k, .int .i64 a.n] 43) = W at *
  generalize hA2 : ({ A2 with tag := upd A2.tag w2.heap.size 5 } : Ad) = A2' at HB2
  have HA2 : Hid (upd A2.tag w2.heap.size 5 = A2'.tag) := by unfold Hid; rw [← hA2]
  clear hA2
  generalize hbx : w2.heap.size = bx2 at *
  clear hbx
  refine (where_any W B rb A2'.tag A2'.pv A2'.fv A2'.av A2'.ov A2'.hv A2'.LV A2'.SV A2'.AV { s with fr := { f with stk := st } :: rest } a i HB2.out.lay ha hm).mono ?_
  rintro e w3 ⟨rfl, hB3⟩
  have HL3 := hid (LayA.below HB2.out.lay hB3)
  have hch3 : Ch B Five A.tag A2'.tag w w3 := HB2.out.ch.trans' hB3
  have HC3 := hid hch3
  by_cases hw : whereP s.arr a i = 0
  · rw [hw]
    obtain ⟨wk, wi, i0, i1⟩ := where_ok hw
    obtain ⟨a0, a1⟩ := ha wk
    obtain ⟨ab, acap, p, cp, r2, c0, hAV, habz, habt, hab⟩ := arr_slice HL3.out (j := a.n.toNat) (by show a.n.toNat < s.arr.length; omega)
    have hrow := Lay.arr HL3.out a.n.toNat (by show a.n.toNat < s.arr.length; omega)
    rw [hAV] at hrow
    obtain ⟨xb, xcap, hxv, hxB, hxz, hxt, hxc⟩ := hrow.form (by show 1 ≤ (s.arr.getD a.n.toNat []).length; omega)
    injection hxv with hx1 hx2 hx3
    subst hx1
    subst hx3
    have y0 := hrow.cell (i := i.n.toNat * 2) (by show i.n.toNat * 2 < (s.arr.getD a.n.toNat []).length * 2; omega)
    have y1 := hrow.cell (i := i.n.toNat * 2 + 1) (by show i.n.toNat * 2 + 1 < (s.arr.getD a.n.toNat []).length * 2; omega)
    have g0 : vcell (s.arr.getD a.n.toNat []) (i.n.toNat * 2) = .int .i64 ((s.arr.getD a.n.toNat []).getD i.n.toNat vnil).k := by
      unfold vcell; rw [if_pos (by omega), show i.n.toNat * 2 / 2 = i.n.toNat by omega]
    have g1 : vcell (s.arr.getD a.n.toNat []) (i.n.toNat * 2 + 1) = .int .i64 ((s.arr.getD a.n.toNat []).getD i.n.toNat vnil).n := by
      unfold vcell; rw [if_neg (by omega), show (i.n.toNat * 2 + 1) / 2 = i.n.toNat by omega]
    have y0' : w3.cell? ⟨xb, i.n.toNat * 2, none⟩ = some (.int .i64 ((s.arr.getD a.n.toNat []).getD i.n.toNat vnil).k) := y0.trans (congrArg some g0)
    have y1' : w3.cell? ⟨xb, i.n.toNat * 2 + 1, none⟩ = some (.int .i64 ((s.arr.getD a.n.toNat []).getD i.n.toNat vnil).n) := y1.trans (congrArg some g1)
    have hbW : bx1 < W.heap.size := by rw [HS2.out]; omega
    have n0 := (hB3.cell (p := ⟨bx1, 0, none⟩) hbW).trans HM.out.1
    have n1 := (hB3.cell (p := ⟨bx1, 1, none⟩) hbW).trans HM.out.2.1
    have n2 := (hB3.cell (p := ⟨bx2, 0, none⟩) HB2.out.lt).trans HB2.out.box0
    have n3 := (hB3.cell (p := ⟨bx2, 1, none⟩) HB2.out.lt).trans HB2.out.box1
    have hs3 := hB3.size
    have hz1 : bx1 < w3.heap.size := by omega
    have hz2 : bx2 < w3.heap.size := by have := HB2.out.lt; omega
    have hrbz : rb < w3.heap.size := Lay.lt HL3.out
    have hB3' : B ≤ w3.heap.size := by have := hch3.size; omega
    have hpush : ∀ X, Below w3.heap.size w3 X →
        Calls Tryz.prog 111 #[.pointer (some ⟨rb, 0, none⟩), .agg #[.int .i64 ((s.arr.getD a.n.toNat []).getD i.n.toNat vnil).k, .int .i64 ((s.arr.getD a.n.toNat []).getD i.n.toNat vnil).n]] X fun e w' => e = .returned (.tuple #[]) ∧
          After w w' B rb A { s with fr := { f with stk := (s.arr.getD a.n.toNat []).getD i.n.toNat vnil :: st } :: rest } ∧ ∃ t', Ch B (fun c => c = 1 ∨ c = 11 + 3 * rest.length) A2'.tag t' w3 w' :=
      fun X hX => by
        refine (push_A X B rb A2' { s with fr := { f with stk := st } :: rest } { f with stk := st } rest ((s.arr.getD a.n.toNat []).getD i.n.toNat vnil) (LayA.below HL3.out hX) rfl (by have := hX.size; omega) (by show st.length ≤ 64; omega) (by omega)).mono ?_
        rintro e w' ⟨rfl, A', q1, q2, q3, _, _, _, q7⟩
        have q8 := (Ch.of_below (B := B) (p := fun c => c = 1 ∨ c = 11 + 3 * rest.length) (tag := A2'.tag) hX).trans q7
        exact ⟨rfl, ⟨A', q1, q2.trans HB2.out.pv, q3.trans HB2.out.fv, HC3.out.trans (q8.mono five_stack)⟩, A'.tag, q8⟩
    have HP := hid hpush
    have HT : Hid (A2'.tag ab = 2 ∧ A2'.tag rb = 0 ∧ A2'.tag bx1 = 5 ∧ A2'.tag bx2 = 5 ∧ A2'.tag xb = 12 + 3 * a.n.toNat) := ⟨habt, (Lay.own HL3.out).2, HA2.out ▸ HM.out.2.2, HB2.out.tag, hxt⟩
    have HW := hid hw
    have u0 : a.n < (s.arr.length : Int) := a1
    clear hpush hrow y0 y1 g0 g1 hw HL3 HC3 hch3 hB3 hAV hL hst hs ha HM HB2 HS2 wk wi habt hxt
    have hll : i.n < ((s.arr.getD a.n.toNat []).length : Int) := i1
    generalize hvv : (s.arr.getD a.n.toNat []).getD i.n.toNat vnil = vv at *
    have Hvv := hid hvv
    clear hvv
    generalize (s.arr.getD a.n.toNat []).length = ln at *
    generalize s.arr.length = na at *
    go_wp2
    go_region_held3 (fun w' => w'.cell? ⟨rb, 2, none⟩ = some (.slice (some ⟨ab, 0, none⟩) na acap) ∧ w'.cell? ⟨ab, a.n.toNat, none⟩ = some (.slice (some ⟨xb, 0, none⟩) ln cp) ∧ w'.cell? ⟨bx2, 1, none⟩ = some (.int .i64 a.n) ∧ w'.cell? ⟨bx1, 1, none⟩ = some (.int .i64 i.n) ∧ w'.cell? ⟨xb, i.n.toNat * 2, none⟩ = some (.int .i64 vv.k) ∧ w'.cell? ⟨xb, i.n.toNat * 2 + 1, none⟩ = some (.int .i64 vv.n)) (go_keep)
      (first | (go_at_call 111; refine (HP.out _ ?_).mono ?_; exact (by repeat (first | exact Below.refl _ _ | refine Below.drew ?_ | refine Below.alloc ?_ (by first | omega | (simp; done) | (simp; omega)) _)); rintro e w5 ⟨rfl, hA5, t5, ch5⟩; have q0 := (ch5.cell (a := ⟨rb, 2, none⟩) hrbz (by show ¬ (_ ∨ _); rw [HT.out.2.1]; omega)).trans r2; have q1 := (ch5.cell (a := ⟨ab, a.n.toNat, none⟩) habz (by show ¬ (_ ∨ _); rw [HT.out.1]; omega)).trans c0; have q2 := (ch5.cell (a := ⟨bx2, 1, none⟩) hz2 (by show ¬ (_ ∨ _); rw [HT.out.2.2.2.1]; omega)).trans n3; have q3 := (ch5.cell (a := ⟨bx1, 1, none⟩) hz1 (by show ¬ (_ ∨ _); rw [HT.out.2.2.1]; omega)).trans n1; have q4 := (ch5.cell (a := ⟨xb, i.n.toNat * 2, none⟩) hxz (by show ¬ (_ ∨ _); rw [HT.out.2.2.2.2]; omega)).trans y0'; have q5 := (ch5.cell (a := ⟨xb, i.n.toNat * 2 + 1, none⟩) hxz (by show ¬ (_ ∨ _); rw [HT.out.2.2.2.2]; omega)).trans y1'))
    rename_i hheld
    have HQ := hid hA5
    clear hheld hA5 q0 q1 q2 q3 q4 q5 ch5
    go_wp2
    go_ret
    exact ⟨fun h => absurd HW.out h, fun _ => ⟨rfl, by rw [Hvv.out]; exact HQ.out⟩⟩
  · have hne : (whereP s.arr a i != 0) = true := by simpa using hw
    have HW := hid hw
    have HQ : Hid (After w w3 B rb A { s with fr := { f with stk := st } :: rest }) := ⟨A2', HL3.out, HB2.out.pv, HB2.out.fv, HC3.out⟩
    clear hw hch3 hB3
    go_wp2
    go_ret
    exact ⟨fun _ => ⟨rfl, HQ.out⟩, fun h => absurd h HW.out⟩
end Go.Proofs.YtkafkipjedpohaaGreatDoor
