/-
  A run of upshiftref in memory: its addresses in one bundle; upshiftref's arrays: Len, Get.
-/
import Derived.Test.YtnhjjjijeeobbaaDoorR5
namespace Go.Proofs.YtnhjjjijeeobbaaDoor
open Go.RowKit

/-- Where a run lies. -/
structure Ad where
  tag : Nat → Nat
  pv : Value
  fv : Value
  av : Value
  ov : Value
  hv : Value
  LV : Nat → Value
  SV : Nat → Value
  AV : Nat → Value

def LayA (w : World) (B rb : Nat) (A : Ad) (s : Mc) : Prop := Lay w B rb A.tag A.pv A.fv A.av A.ov A.hv A.LV A.SV A.AV s

theorem Row.below {w w' : World} {B : Nat} {tag : Nat → Nat} {c : Nat} {e : TypeId} {sz : Nat} {v : Value} {n : Nat} {f : Nat → Value} (h : Row w B tag c e sz v n f) (k : Below w.heap.size w w') : Row w' B tag c e sz v n f :=
  h.keep (Ch.of_below (p := fun _ => False) k) (fun h => h)
theorem Row.retag {w : World} {B : Nat} {tag tag' : Nat → Nat} {c : Nat} {e : TypeId} {sz : Nat} {v : Value} {n : Nat} {f : Nat → Value} (h : Row w B tag c e sz v n f) (k : ∀ b, b < w.heap.size → tag' b = tag b) : Row w B tag' c e sz v n f := by
  rcases h with h | ⟨b, cap, cur, hv, hb, ht, hh, hc⟩
  · exact Or.inl h
  · exact Or.inr ⟨b, cap, cur, hv, hb, (k b (Array.getElem?_eq_some_iff.1 hh).1).trans ht, hh, hc⟩

theorem LayA.below {w w' : World} {B rb : Nat} {A : Ad} {s : Mc} (h : LayA w B rb A s) (k : Below w.heap.size w w') : LayA w' B rb A s :=
  ⟨(k.block rb (Lay.lt h)).trans h.run, h.own, h.fr.below k, h.ar.below k, h.out.below k, h.hi.below k, fun i hi => (h.loc i hi).below k, fun i hi => (h.stk i hi).below k, fun j hj => (h.arr j hj).below k⟩
theorem LayA.retag {w : World} {B rb : Nat} {A : Ad} {s : Mc} (h : LayA w B rb A s) {tag' : Nat → Nat} (k : ∀ b, b < w.heap.size → tag' b = A.tag b) : LayA w B rb { A with tag := tag' } s :=
  ⟨h.run, ⟨h.own.1, (k rb (Lay.lt h)).trans h.own.2⟩, h.fr.retag k, h.ar.retag k, h.out.retag k, h.hi.retag k, fun i hi => (h.loc i hi).retag k, fun i hi => (h.stk i hi).retag k, fun j hj => (h.arr j hj).retag k⟩
/-- A box of one's own: its block bears the tag 5. -/
theorem LayA.box {w : World} {B rb : Nat} {A : Ad} {s : Mc} (h : LayA w B rb A s) (o : Obj) : LayA (w.alloc o) B rb { A with tag := upd A.tag w.heap.size 5 } s :=
  (h.retag (tag' := upd A.tag w.heap.size 5) (fun b hb => upd_other _ _ _ _ (by omega))).below ((Below.refl _ _).alloc (Nat.le_refl _) o)

/-- All but boxes may turn. -/
def Five : Nat → Prop := fun c => c ≠ 5

theorem Ch.cell {B : Nat} {p : Nat → Prop} {t1 t2 : Nat → Nat} {u w : World} (h : Ch B p t1 t2 u w) {a : Addr} (ha : a.block < u.heap.size) (hp : ¬ p (t1 a.block)) : w.cell? a = u.cell? a := World.cell?_of_block (h.block a.block ha (Or.inr hp))
theorem Ch.of_tags {B : Nat} {p : Nat → Prop} {t1 t2 : Nat → Nat} {u w : World} (h : Below u.heap.size u w) (ht : ∀ b, b < u.heap.size → t2 b = t1 b) : Ch B p t1 t2 u w :=
  ⟨h.os, h.tape, h.output, h.size, fun b hb _ => h.block b hb, ht⟩

theorem push_A (w : World) (B rb : Nat) (A : Ad) (s : Mc) (f : Fr) (rest : List Fr) (v : V) (hL : LayA w B rb A s) (hs : s.fr = f :: rest) (hB : B ≤ w.heap.size) (hn : f.stk.length ≤ 64) (hr : rest.length ≤ 64) :
    Calls Tryd.prog 99 #[.pointer (some ⟨rb, 0, none⟩), .agg #[.int .i64 v.k, .int .i64 v.n]] w fun e w' => e = .returned (.tuple #[]) ∧
      ∃ A', LayA w' B rb A' { s with fr := { f with stk := v :: f.stk } :: rest } ∧ A'.pv = A.pv ∧ A'.fv = A.fv ∧ A'.av = A.av ∧ A'.AV = A.AV ∧ A'.LV = A.LV ∧ Ch B (fun c => c = 1 ∨ c = 11 + 3 * rest.length) A.tag A'.tag w w' := by
  refine (push_any w B rb A.tag A.pv A.fv A.av A.ov A.hv A.LV A.SV A.AV s f rest v hL hs hB hn hr).mono ?_
  rintro e w' ⟨rfl, tag', sv, h1, h2⟩
  exact ⟨rfl, { A with tag := tag', SV := upd A.SV rest.length sv }, h1, rfl, rfl, rfl, rfl, rfl, h2⟩

theorem pop_A (w : World) (B rb : Nat) (A : Ad) (s : Mc) (f : Fr) (rest : List Fr) (v : V) (st : List V) (hL : LayA w B rb A s) (hs : s.fr = f :: rest) (hst : f.stk = v :: st) (hB : B ≤ w.heap.size) (hn : st.length ≤ 64) (hr : rest.length ≤ 64) :
    Calls Tryd.prog 87 #[.pointer (some ⟨rb, 0, none⟩)] w fun e w' => e = .returned (.agg #[.int .i64 v.k, .int .i64 v.n]) ∧
      ∃ A', LayA w' B rb A' { s with fr := { f with stk := st } :: rest } ∧ A'.pv = A.pv ∧ A'.fv = A.fv ∧ A'.av = A.av ∧ A'.AV = A.AV ∧ A'.LV = A.LV ∧ Ch B (fun c => c = 1 ∨ c = 11 + 3 * rest.length) A.tag A'.tag w w' := by
  refine (pop_any w B rb A.tag A.pv A.fv A.av A.ov A.hv A.LV A.SV A.AV s f rest v st hL hs hst hB hn hr).mono ?_
  rintro e w' ⟨rfl, tag', sv, h1, h2⟩
  exact ⟨rfl, { A with tag := tag', SV := upd A.SV rest.length sv }, h1, rfl, rfl, rfl, rfl, rfl, h2⟩

theorem five_stack {k : Nat} : ∀ c, (c = 1 ∨ c = 11 + 3 * k) → Five c := by
  intro c h e
  omega

/-- What upshiftref's calls leave of a run. -/
def After (w w' : World) (B rb : Nat) (A : Ad) (s' : Mc) : Prop := ∃ A', LayA w' B rb A' s' ∧ A'.pv = A.pv ∧ A'.fv = A.fv ∧ Ch B Five A.tag A'.tag w w'

set_option maxRecDepth 100000 in
set_option maxHeartbeats 2000000 in
theorem arrays_len (w : World) (B rb : Nat) (A : Ad) (s : Mc) (f : Fr) (rest : List Fr) (x : V) (st : List V) (hL : LayA w B rb A s) (hs : s.fr = f :: rest) (hst : f.stk = x :: st) (hx : x.k = 2 → 0 ≤ x.n ∧ x.n < s.arr.length) (hB : B ≤ w.heap.size) (hn : st.length ≤ 60) (hr : rest.length ≤ 60) (hm : s.arr.length ≤ 200000) :
    Calls Tryd.prog 101 #[.pointer (some ⟨rb, 0, none⟩), .int .i64 18] w fun e w' =>
      (x.k ≠ 2 → e = .returned (.int .i64 3) ∧ After w w' B rb A { s with fr := { f with stk := st } :: rest }) ∧
      (x.k = 2 → e = .returned (.int .i64 0) ∧ After w w' B rb A { s with fr := { f with stk := vnum ((s.arr.getD x.n.toNat []).length : Int) :: st } :: rest }) := by
  have hcon := pop_A w B rb A s f rest x st hL hs hst hB (by omega) (by omega)
  have HC := hid hcon
  clear hcon
  go_enter Tryd.func101, Tryd.ntmps101
  go_wp2_with fail
  refine HC.out.mono ?_
  rintro e w1 ⟨rfl, A1, h1, p1, f1, a1, v1, l1, ch1⟩
  have hB1 : B ≤ w1.heap.size := by have := ch1.size; omega
  by_cases hk : x.k = 2
  · have e1 : (x.k != 2) = false := by simpa using hk
    have HK := hid hk
    obtain ⟨x0, x1⟩ := hx hk
    have hjl : x.n.toNat < s.arr.length := by omega
    have h2 := LayA.box h1 (.cells #[.int .i64 x.k, .int .i64 x.n] 45)
    have har := h1.ar
    obtain ⟨ab, acap, hav, hab, habz, hatag, hac⟩ := har.form (by show 1 ≤ s.arr.length; omega)
    rw [hav] at har
    have c0 := har.cell (i := x.n.toNat) (by show x.n.toNat < s.arr.length * 1; omega)
    obtain ⟨p, cp, hvv, hcp⟩ := (h1.arr x.n.toNat hjl).any
    rw [hvv] at c0
    have r2 : w1.cell? ⟨rb, 2, none⟩ = some (.slice (some ⟨ab, 0, none⟩) s.arr.length acap) := by rw [Lay.cell h1 2]; show some A1.av = _; rw [hav]
    have hrb := Lay.lt h1
    have hown := h1.own.2
    have hbb : Below w1.heap.size w1 (w1.alloc (.cells #[.int .i64 x.k, .int .i64 x.n] 45)) := (Below.refl _ _).alloc (Nat.le_refl _) _
    have d0 := (hbb.cell (p := ⟨ab, x.n.toNat, none⟩) habz).trans c0
    have d2 := (hbb.cell (p := ⟨rb, 2, none⟩) hrb).trans r2
    have b0 : (w1.alloc (.cells #[.int .i64 x.k, .int .i64 x.n] 45)).cell? ⟨w1.heap.size, 0, none⟩ = some (.int .i64 x.k) := cell_new w1 _ _ _ _ rfl
    have b1 : (w1.alloc (.cells #[.int .i64 x.k, .int .i64 x.n] 45)).cell? ⟨w1.heap.size, 1, none⟩ = some (.int .i64 x.n) := cell_new w1 _ _ _ _ rfl
    have hsz2 : (w1.alloc (.cells #[.int .i64 x.k, .int .i64 x.n] 45)).heap.size = w1.heap.size + 1 := by simp
    have hpush : ∀ X, Below (w1.alloc (.cells #[.int .i64 x.k, .int .i64 x.n] 45)).heap.size (w1.alloc (.cells #[.int .i64 x.k, .int .i64 x.n] 45)) X →
        Calls Tryd.prog 99 #[.pointer (some ⟨rb, 0, none⟩), .agg #[.int .i64 1, .int .i64 ((s.arr.getD x.n.toNat []).length : Int)]] X fun e w' => e = .returned (.tuple #[]) ∧
          ∃ A', LayA w' B rb A' { s with fr := { f with stk := vnum ((s.arr.getD x.n.toNat []).length : Int) :: st } :: rest } ∧ A'.pv = A1.pv ∧ A'.fv = A1.fv ∧ A'.av = A1.av ∧ A'.AV = A1.AV ∧ A'.LV = A1.LV ∧ Ch B (fun c => c = 1 ∨ c = 11 + 3 * rest.length) (upd A1.tag w1.heap.size 5) A'.tag (w1.alloc (.cells #[.int .i64 x.k, .int .i64 x.n] 45)) w' :=
      fun X hX => by
        refine (push_A X B rb { A1 with tag := upd A1.tag w1.heap.size 5 } { s with fr := { f with stk := st } :: rest } { f with stk := st } rest (vnum ((s.arr.getD x.n.toNat []).length : Int)) (LayA.below h2 hX) rfl (by have := hX.size; omega) (by show st.length ≤ 64; omega) (by omega)).mono ?_
        rintro e w' ⟨rfl, A', g1, g2, g3, g4, g5, g6, g7⟩
        exact ⟨rfl, A', g1, g2, g3, g4, g5, g6, (Ch.of_below hX).trans g7⟩
    have HP := hid hpush
    have HS := hid hsz2
    have hchA : Ch B Five A.tag (upd A1.tag w1.heap.size 5) w (w1.alloc (.cells #[.int .i64 x.k, .int .i64 x.n] 45)) :=
      (ch1.mono five_stack).trans (Ch.of_tags hbb (fun b hb => upd_other _ _ _ _ (by omega)))
    have HA := hid (And.intro hchA (And.intro p1 f1))
    have t1 : upd A1.tag w1.heap.size 5 ab = 2 := by rw [upd_other _ _ _ _ (by omega)]; exact hatag
    have t2 : upd A1.tag w1.heap.size 5 rb = 0 := by rw [upd_other _ _ _ _ (by omega)]; exact hown
    have t3 : upd A1.tag w1.heap.size 5 w1.heap.size = 5 := upd_same _ _ _
    have HT := hid (And.intro t1 (And.intro t2 t3))
    have hj1 : x.n < (s.arr.length : Int) := by omega
    clear h1 h2 har hpush hsz2 hchA hav hvv c0 r2 ch1 HC hL hst hs hx hbb x1 hk t1 t2 t3 hown hatag
    have hab2 : ab < (w1.alloc (.cells #[.int .i64 x.k, .int .i64 x.n] 45)).heap.size := by rw [HS.out]; omega
    have hrb2 : rb < (w1.alloc (.cells #[.int .i64 x.k, .int .i64 x.n] 45)).heap.size := by rw [HS.out]; omega
    have hbx2 : w1.heap.size < (w1.alloc (.cells #[.int .i64 x.k, .int .i64 x.n] 45)).heap.size := by rw [HS.out]; omega
    generalize hln : (s.arr.getD x.n.toNat []).length = ln at *
    have Hln := hid hln
    clear hln
    generalize s.arr.length = na at *
    go_wp2
    generalize w1.alloc (.cells #[.int .i64 x.k, .int .i64 x.n] 45) = W at *
    generalize hbx : w1.heap.size = bx at *
    clear hbx
    go_region_held3 (fun w' => w'.cell? ⟨rb, 2, none⟩ = some (.slice (some ⟨ab, 0, none⟩) na acap) ∧ w'.cell? ⟨ab, x.n.toNat, none⟩ = some (.slice p ln cp) ∧ w'.cell? ⟨bx, 0, none⟩ = some (.int .i64 x.k) ∧ w'.cell? ⟨bx, 1, none⟩ = some (.int .i64 x.n)) (go_keep)
      (first | (go_at_call 100; refine (number_any _ _).mono ?_; rintro e w' ⟨rfl, rfl⟩) | (go_at_call 99; refine (HP.out _ ?_).mono ?_; exact (by repeat (first | exact Below.refl _ _ | refine Below.drew ?_ | refine Below.alloc ?_ (by first | omega | (simp; done) | (simp; omega)) _)); rintro e w5 ⟨rfl, A5, h5, p5, f5, a5, v5, l5, ch5⟩; have q0 := (ch5.cell (a := ⟨rb, 2, none⟩) hrb2 (by show ¬ (_ ∨ _); rw [HT.out.2.1]; omega)).trans d2; have q1 := (ch5.cell (a := ⟨ab, x.n.toNat, none⟩) hab2 (by show ¬ (_ ∨ _); rw [HT.out.1]; omega)).trans d0; have q2 := (ch5.cell (a := ⟨bx, 0, none⟩) hbx2 (by show ¬ (_ ∨ _); rw [HT.out.2.2]; omega)).trans b0; have q3 := (ch5.cell (a := ⟨bx, 1, none⟩) hbx2 (by show ¬ (_ ∨ _); rw [HT.out.2.2]; omega)).trans b1))
    rename_i hheld
    have hfin : After w w5 B rb A { s with fr := { f with stk := vnum (ln : Int) :: st } :: rest } :=
      ⟨A5, h5, p5.trans HA.out.2.1, f5.trans HA.out.2.2, HA.out.1.trans (ch5.mono five_stack)⟩
    have HQ := hid hfin
    clear hheld hfin q0 q1 q2 q3 ch5 h5
    go_wp2
    go_ret
    refine ⟨fun h => absurd HK.out h, fun _ => ⟨rfl, ?_⟩⟩
    rw [Hln.out]
    exact HQ.out
  · have e1 : (x.k != 2) = true := by simpa using hk
    have HQ : Hid (After w (w1.alloc (.cells #[.int .i64 x.k, .int .i64 x.n] 45)) B rb A { s with fr := { f with stk := st } :: rest }) :=
      ⟨A1, LayA.below h1 ((Below.refl _ _).alloc (Nat.le_refl _) _), p1, f1, (ch1.mono five_stack).alloc _⟩
    have HK := hid hk
    clear hk h1 ch1 HC hL hst hs hx
    go_wp2
    go_ret
    exact ⟨fun _ => ⟨rfl, HQ.out⟩, fun h => absurd h HK.out⟩
end Go.Proofs.YtnhjjjijeeobbaaDoor
