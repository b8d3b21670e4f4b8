/-
  The project's machine: straight: Const, Fun, Load, and what reckon does.
-/
import Derived.Test.YtnhjjjijeeobbaaDoorM5
namespace Go.Proofs.YtnhjjjijeeobbaaDoor
open Go.RowKit

/-- What straight, without a trap, leaves: the frame f' at hand. -/
def WentM (w : World) (B mb : Nat) (A : AdM) (s : Mc) (en : Int) (rest : List Fr) (f' : Fr) (e : Ending) (w' : World) : Prop :=
  e = .returned (.tuple #[]) ∧ Aft (Tk rest.length) w w' B mb A { s with fr := f' :: rest } en

/-- With the instruction in its box. -/
theorem in_box {w : World} {B mb : Nat} {A : AdM} {s : Mc} {en : Int} (hL : LayM w B mb A s en) (p : Nat → Prop) (o : Obj) :
    LayM (w.alloc o) B mb { A with tag := upd A.tag w.heap.size 5 } s en ∧ Ch B p A.tag (upd A.tag w.heap.size 5) w (w.alloc o) ∧ (w.alloc o).heap.size = w.heap.size + 1 :=
  ⟨hL.box o, Ch.of_tags ((Below.refl _ _).alloc (Nat.le_refl _) o) (fun b hb => upd_other _ _ _ _ (by omega)), by simp⟩

set_option maxRecDepth 100000 in
set_option maxHeartbeats 1000000 in
theorem straight_const (w : World) (B mb : Nat) (A : AdM) (s : Mc) (en : Int) (f : Fr) (rest : List Fr) (n : Int) (hL : LayM w B mb A s en) (hs : s.fr = f :: rest) (hB : B ≤ w.heap.size) (hn : f.stk.length ≤ 60) :
    Calls Tryd.prog 95 #[.pointer (some ⟨mb, 0, none⟩), .pointer (some ⟨A.FB rest.length, 0, none⟩), .agg #[.int .i64 0, .int .i64 n]] w (WentM w B mb A s en rest { f with stk := vnum n :: f.stk }) := by
  obtain ⟨l1, c1, z1⟩ := in_box hL (Tk rest.length) (.cells #[.int .i64 0, .int .i64 n] 35)
  have b1 : (w.alloc (.cells #[.int .i64 0, .int .i64 n] 35)).cell? ⟨w.heap.size, 1, none⟩ = some (.int .i64 n) := cell_new w _ _ _ _ rfl
  generalize hfb : A.FB rest.length = fb at *
  have HF := hid hfb
  have HC := hid (And.intro c1 z1)
  have HP := hid (fun (X : World) (hX : Below (w.alloc (.cells #[.int .i64 0, .int .i64 n] 35)).heap.size (w.alloc (.cells #[.int .i64 0, .int .i64 n] 35)) X) => pushX (fbk := fb) l1 hs (by omega) (by omega) hfb (vnum n) X hX)
  have HY := hid b1
  clear hL c1 z1 l1 hfb b1
  go_enter Tryd.func95, Tryd.ntmps95
  go_wp2_with fail
  have b1 := HY.out
  clear HY
  generalize w.alloc (.cells #[.int .i64 0, .int .i64 n] 35) = W at *
  generalize hbx : w.heap.size = bx at *
  have hx : bx < W.heap.size := by have := HC.out.2; omega
  have ht : Hid (¬ Tk rest.length ((upd A.tag bx 5) bx)) := by unfold Hid; rw [upd_same]; exact tk5 _
  go_region_held3 (fun w' => w'.cell? ⟨bx, 1, none⟩ = some (.int .i64 n))
    ((repeat (first | exact b1 | assumption | refine alloc_cell ?_ (by first | exact hx | (simp; omega)))))
    (first
      | (go_at_call 104; refine (numberM _ _).mono ?_; rintro e w6 ⟨rfl, hw6⟩; rw [hw6]; clear hw6 w6)
      | (go_at_call 106; refine (HP.out _ ?_).mono ?_; exact (by repeat (first | exact Below.refl _ _ | refine Below.drew ?_ | refine Below.alloc ?_ (by first | omega | (simp; done) | (simp; omega)) _)); rintro e w7 ⟨rfl, A7, l7, p7, f7, c7⟩; have q0 := (c7.cell (a := ⟨bx, 1, none⟩) hx ht.out).trans b1))
  rename_i hheld
  have HQ := hid (Aft.on (A := A) (A1 := { A with tag := upd A.tag bx 5 }) rfl rfl HC.out.1 ⟨A7, l7, p7, f7, c7⟩)
  clear hheld q0 l7 p7 f7 c7 b1
  go_end0
  exact ⟨rfl, HQ.out⟩

set_option maxRecDepth 100000 in
set_option maxHeartbeats 1000000 in
theorem straight_fun (w : World) (B mb : Nat) (A : AdM) (s : Mc) (en : Int) (f : Fr) (rest : List Fr) (n : Int) (hL : LayM w B mb A s en) (hs : s.fr = f :: rest) (hB : B ≤ w.heap.size) (hn : f.stk.length ≤ 60) :
    Calls Tryd.prog 95 #[.pointer (some ⟨mb, 0, none⟩), .pointer (some ⟨A.FB rest.length, 0, none⟩), .agg #[.int .i64 12, .int .i64 n]] w (WentM w B mb A s en rest { f with stk := ⟨3, n⟩ :: f.stk }) := by
  obtain ⟨l1, c1, z1⟩ := in_box hL (Tk rest.length) (.cells #[.int .i64 12, .int .i64 n] 35)
  have b1 : (w.alloc (.cells #[.int .i64 12, .int .i64 n] 35)).cell? ⟨w.heap.size, 1, none⟩ = some (.int .i64 n) := cell_new w _ _ _ _ rfl
  generalize hfb : A.FB rest.length = fb at *
  have HF := hid hfb
  have HC := hid (And.intro c1 z1)
  have HP := hid (fun (X : World) (hX : Below (w.alloc (.cells #[.int .i64 12, .int .i64 n] 35)).heap.size (w.alloc (.cells #[.int .i64 12, .int .i64 n] 35)) X) => pushX (fbk := fb) l1 hs (by omega) (by omega) hfb ⟨3, n⟩ X hX)
  have HY := hid b1
  clear hL c1 z1 l1 hfb b1
  go_enter Tryd.func95, Tryd.ntmps95
  go_wp2_with fail
  have b1 := HY.out
  clear HY
  generalize w.alloc (.cells #[.int .i64 12, .int .i64 n] 35) = W at *
  generalize hbx : w.heap.size = bx at *
  have hx : bx < W.heap.size := by have := HC.out.2; omega
  have ht : Hid (¬ Tk rest.length ((upd A.tag bx 5) bx)) := by unfold Hid; rw [upd_same]; exact tk5 _
  go_region_held3 (fun w' => w'.cell? ⟨bx, 1, none⟩ = some (.int .i64 n))
    ((repeat (first | exact b1 | assumption | refine alloc_cell ?_ (by first | exact hx | (simp; omega)))))
    (first
      | (go_at_call 106; refine (HP.out _ ?_).mono ?_; exact (by repeat (first | exact Below.refl _ _ | refine Below.drew ?_ | refine Below.alloc ?_ (by first | omega | (simp; done) | (simp; omega)) _)); rintro e w7 ⟨rfl, A7, l7, p7, f7, c7⟩; have q0 := (c7.cell (a := ⟨bx, 1, none⟩) hx ht.out).trans b1))
  rename_i hheld
  have HQ := hid (Aft.on (A := A) (A1 := { A with tag := upd A.tag bx 5 }) rfl rfl HC.out.1 ⟨A7, l7, p7, f7, c7⟩)
  clear hheld q0 l7 p7 f7 c7 b1
  go_end0
  exact ⟨rfl, HQ.out⟩

/-- The tags of the stack of frame k, and of the frame itself. -/
def Ts (k d : Nat) : Prop := d = 10 + 4 * k ∨ d = 12 + 4 * k
theorem ts_tk {k d : Nat} (h : Ts k d) : Tk k d := by unfold Ts at h; unfold Tk; omega

/-- Push: the locals stay where they are. -/
theorem pushL {W : World} {B mb : Nat} {A : AdM} {s : Mc} {en : Int} {f : Fr} {rest : List Fr} (hL : LayM W B mb A s en) (hs : s.fr = f :: rest) (hB : B ≤ W.heap.size) (hn : f.stk.length ≤ 64) {fbk : Nat} (hfb : A.FB rest.length = fbk) (v : V) (X : World) (hX : Below W.heap.size W X) :
    Calls Tryd.prog 106 #[.pointer (some ⟨fbk, 3, none⟩), .agg #[.int .i64 v.k, .int .i64 v.n]] X fun e w' => e = .returned (.tuple #[]) ∧ ∃ A' : AdM, LayM w' B mb A' { s with fr := { f with stk := v :: f.stk } :: rest } en ∧ A'.pv = A.pv ∧ A'.FB = A.FB ∧ Ch B (Ts rest.length) A.tag A'.tag W w' ∧ w'.cell? ⟨fbk, 2, none⟩ = some (A.LV rest.length) := by
  subst hfb
  have hL' := hL.below hX
  have hlen : s.fr.length = rest.length + 1 := by rw [hs]; rfl
  have e0 : frAt s.fr rest.length = f := by rw [hs]; exact frAt_top _ _
  obtain ⟨g1, g2, g3⟩ := hL'.fb rest.length (by omega)
  have hrow := hL'.stk rest.length (by omega)
  have hloc := hL'.loc rest.length (by omega)
  rw [e0] at g1 hrow hloc
  refine (pushV X B _ 3 _ _ A.tag _ _ f.stk v g1 rfl g2 (by have := hX.size; omega) (by rw [g3]; omega) hrow (by omega)).mono ?_
  rintro e w' ⟨rfl, tag', sv', h1, h2, h3⟩
  have h4 : Ch B (Ts rest.length) A.tag tag' X w' := h3.mono (fun d hd => by rw [g3] at hd; unfold Ts; omega)
  exact ⟨rfl, _, hL'.top hs (h4.mono fun _ => ts_tk) h2 (hloc.keep h3 (by rw [g3]; omega)) h1, rfl, rfl, (Ch.of_below hX).trans h4, (cell_heap h2).trans rfl⟩

theorem vcell_at (l : List V) (i : Nat) : vcell l (i * 2) = .int .i64 (l.getD i vnil).k ∧ vcell l (i * 2 + 1) = .int .i64 (l.getD i vnil).n := by
  unfold vcell
  rw [if_pos (by omega), if_neg (by omega), show i * 2 / 2 = i by omega, show (i * 2 + 1) / 2 = i by omega]
  exact ⟨rfl, rfl⟩

set_option maxRecDepth 100000 in
set_option maxHeartbeats 1000000 in
theorem straight_load (w : World) (B mb : Nat) (A : AdM) (s : Mc) (en : Int) (f : Fr) (rest : List Fr) (i : Nat) (hi : i < f.loc.length) (hL : LayM w B mb A s en) (hs : s.fr = f :: rest) (hB : B ≤ w.heap.size) (hn : f.stk.length ≤ 60) :
    Calls Tryd.prog 95 #[.pointer (some ⟨mb, 0, none⟩), .pointer (some ⟨A.FB rest.length, 0, none⟩), .agg #[.int .i64 2, .int .i64 i]] w (WentM w B mb A s en rest { f with stk := f.loc.getD i vnil :: f.stk }) := by
  obtain ⟨l1, c1, z1⟩ := in_box hL (Tk rest.length) (.cells #[.int .i64 2, .int .i64 i] 35)
  have hlen : s.fr.length = rest.length + 1 := by rw [hs]; rfl
  have e0 : frAt s.fr rest.length = f := by rw [hs]; exact frAt_top _ _
  obtain ⟨g1, g2, g3⟩ := hL.fb rest.length (by omega)
  have hloc := hL.loc rest.length (by omega)
  rw [e0] at g1 hloc
  obtain ⟨lb, lcap, hlv, hlb, hlz, hlt, hlc⟩ := hloc.form (by omega)
  rw [hlv] at g1 hloc
  have x0 := hloc.cell (i := i * 2) (by omega)
  have x1 := hloc.cell (i := i * 2 + 1) (by omega)
  rw [(vcell_at _ _).1] at x0
  rw [(vcell_at _ _).2] at x1
  have hbl : Below w.heap.size w (w.alloc (.cells #[.int .i64 2, .int .i64 i] 35)) := (Below.refl _ _).alloc (Nat.le_refl _) _
  have y0 := (hbl.cell (p := ⟨lb, i * 2, none⟩) hlz).trans x0
  have y1 := (hbl.cell (p := ⟨lb, i * 2 + 1, none⟩) hlz).trans x1
  have hfz := heap_lt g1
  have y2 : (w.alloc (.cells #[.int .i64 2, .int .i64 i] 35)).cell? ⟨A.FB rest.length, 2, none⟩ = some (.slice (some ⟨lb, 0, none⟩) f.loc.length lcap) := (hbl.cell (p := ⟨A.FB rest.length, 2, none⟩) hfz).trans (cell_heap g1)
  have b1 : (w.alloc (.cells #[.int .i64 2, .int .i64 i] 35)).cell? ⟨w.heap.size, 1, none⟩ = some (.int .i64 i) := cell_new w _ _ _ _ rfl
  have hlv2 : ({ A with tag := upd A.tag w.heap.size 5 } : AdM).LV rest.length = .slice (some ⟨lb, 0, none⟩) f.loc.length lcap := hlv
  have tl : ¬ Ts rest.length (upd A.tag w.heap.size 5 lb) := by rw [upd_other _ _ _ _ (by omega), hlt]; unfold Ts; omega
  have tb : ¬ Ts rest.length (upd A.tag w.heap.size 5 w.heap.size) := by rw [upd_same]; unfold Ts; omega
  have HT := hid (And.intro tl (And.intro tb hlv2))
  clear tl tb hlv2
  generalize hfb : A.FB rest.length = fb at *
  have HF := hid hfb
  have HC := hid (And.intro c1 z1)
  have HP := hid (fun (X : World) (hX : Below (w.alloc (.cells #[.int .i64 2, .int .i64 i] 35)).heap.size (w.alloc (.cells #[.int .i64 2, .int .i64 i] 35)) X) => pushL (fbk := fb) l1 hs (by omega) (by omega) hfb (f.loc.getD i vnil) X hX)
  have HY := hid (And.intro b1 (And.intro y0 (And.intro y1 y2)))
  clear hL c1 z1 l1 hfb b1 y0 y1 y2 x0 x1 hloc g1 g2 hbl hlv
  generalize f.loc.getD i vnil = v at *
  generalize f.loc.length = ll at *
  have i0 : (0 : Int) ≤ (i : Int) := by omega
  have i1 : (i : Int) < (ll : Int) := by omega
  go_enter Tryd.func95, Tryd.ntmps95
  go_wp2_with fail
  obtain ⟨b1, y0, y1, y2⟩ := HY.out
  clear HY
  generalize w.alloc (.cells #[.int .i64 2, .int .i64 i] 35) = W at *
  have hx : w.heap.size < W.heap.size := by have := HC.out.2; omega
  have hx2 : lb < W.heap.size := by omega
  have hx3 : fb < W.heap.size := by omega
  go_region_held3 (fun w' => w'.cell? ⟨w.heap.size, 1, none⟩ = some (.int .i64 i) ∧ w'.cell? ⟨lb, i * 2, none⟩ = some (.int .i64 v.k) ∧ w'.cell? ⟨lb, i * 2 + 1, none⟩ = some (.int .i64 v.n) ∧ w'.cell? ⟨fb, 2, none⟩ = some (.slice (some ⟨lb, 0, none⟩) ll lcap))
    ((refine ⟨?_, ?_, ?_, ?_⟩ <;> (repeat (first | exact b1 | exact y0 | exact y1 | exact y2 | assumption | refine alloc_cell ?_ (by first | exact hx | exact hx2 | exact hx3 | (simp; omega))))))
    (first
      | (go_at_call 106; refine (HP.out _ ?_).mono ?_; exact (by repeat (first | exact Below.refl _ _ | refine Below.drew ?_ | refine Below.alloc ?_ (by first | omega | (simp; done) | (simp; omega)) _)); rintro e w7 ⟨rfl, A7, l7, p7, f7, c7, r7⟩; have q0 := (c7.cell (a := ⟨w.heap.size, 1, none⟩) hx HT.out.2.1).trans b1; have q1 := (c7.cell (a := ⟨lb, i * 2, none⟩) hx2 HT.out.1).trans y0; have q2 := (c7.cell (a := ⟨lb, i * 2 + 1, none⟩) hx2 HT.out.1).trans y1; have q3 := r7.trans (congrArg some HT.out.2.2)))
  rename_i hheld
  have HQ := hid (Aft.on (A := A) (A1 := { A with tag := upd A.tag w.heap.size 5 }) rfl rfl HC.out.1 ⟨A7, l7, p7, f7, c7.mono fun _ => ts_tk⟩)
  clear hheld q0 q1 q2 q3 l7 p7 f7 c7 r7 b1 y0 y1 y2
  go_end0
  exact ⟨rfl, HQ.out⟩
end Go.Proofs.YtnhjjjijeeobbaaDoor
