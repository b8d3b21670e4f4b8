/-
  The project's machine: boxes; reckon.
-/
import Derived.Test.YtnhjjjijeeobbaaDoorM4
namespace Go.Proofs.YtnhjjjijeeobbaaDoor
open Go.RowKit

theorem LayM.box {w : World} {B mb : Nat} {A : AdM} {s : Mc} {en : Int} (h : LayM w B mb A s en) (o : Obj) : LayM (w.alloc o) B mb { A with tag := upd A.tag w.heap.size 5 } s en :=
  h.keep (Ch.of_tags ((Below.refl _ _).alloc (Nat.le_refl _) o) (fun b hb => upd_other _ _ _ _ (by omega)))

theorem Aft.from {p : Nat → Prop} {W X w' : World} {B mb : Nat} {A : AdM} {s' : Mc} {en : Int} (h : Aft p X w' B mb A s' en) (hX : Below W.heap.size W X) : Aft p W w' B mb A s' en := by
  obtain ⟨A', h1, h2, h3, h4⟩ := h
  exact ⟨A', h1, h2, h3, (Ch.of_below hX).trans h4⟩
theorem Aft.on {p : Nat → Prop} {w w1 w2 : World} {B mb : Nat} {A A1 : AdM} {s' : Mc} {en : Int} (hp : A1.pv = A.pv) (hf : A1.FB = A.FB) (hc : Ch B p A.tag A1.tag w w1) (h : Aft p w1 w2 B mb A1 s' en) : Aft p w w2 B mb A s' en := by
  obtain ⟨A', h1, h2, h3, h4⟩ := h
  exact ⟨A', h1, h2.trans hp, h3.trans hf, hc.trans h4⟩
theorem Aft.mono {p q : Nat → Prop} {w w' : World} {B mb : Nat} {A : AdM} {s' : Mc} {en : Int} (h : Aft p w w' B mb A s' en) (hpq : ∀ d, p d → q d) : Aft q w w' B mb A s' en := by
  obtain ⟨A', h1, h2, h3, h4⟩ := h
  exact ⟨A', h1, h2, h3, h4.mono hpq⟩
theorem Aft.below {p : Nat → Prop} {w w' w2 : World} {B mb : Nat} {A : AdM} {s' : Mc} {en : Int} (h : Aft p w w' B mb A s' en) (k : Below w'.heap.size w' w2) : Aft p w w2 B mb A s' en := by
  obtain ⟨A', h1, h2, h3, h4⟩ := h
  exact ⟨A', h1.below k, h2, h3, h4.trans' k⟩
theorem Aft.refl (p : Nat → Prop) {w : World} {B mb : Nat} {A : AdM} {s : Mc} {en : Int} (h : LayM w B mb A s en) : Aft p w w B mb A s en := ⟨A, h, rfl, rfl, Ch.refl _ _ _ _⟩

/-- Behind a call, and one box more. -/
theorem Aft.boxed {p : Nat → Prop} {w w1 : World} {B mb : Nat} {A : AdM} {s' : Mc} {en : Int} (h : Aft p w w1 B mb A s' en) (o : Obj) :
    ∃ A' : AdM, LayM (w1.alloc o) B mb A' s' en ∧ A'.pv = A.pv ∧ A'.FB = A.FB ∧ A'.tag w1.heap.size = 5 ∧ Ch B p A.tag A'.tag w (w1.alloc o) := by
  obtain ⟨A1, h1, h2, h3, h4⟩ := h
  exact ⟨_, h1.box o, h2, h3, upd_same _ _ _, h4.trans (Ch.of_tags ((Below.refl _ _).alloc (Nat.le_refl _) o) (fun b hb => upd_other _ _ _ _ (by omega)))⟩

/-- Push, at a world behind W. -/
theorem pushX {W : World} {B mb : Nat} {A : AdM} {s : Mc} {en : Int} {f : Fr} {rest : List Fr} (hL : LayM W B mb A s en) (hs : s.fr = f :: rest) (hB : B ≤ W.heap.size) (hn : f.stk.length ≤ 64) {fbk : Nat} (hfb : A.FB rest.length = fbk) (v : V) (X : World) (hX : Below W.heap.size W X) :
    Calls Tryd.prog 106 #[.pointer (some ⟨fbk, 3, none⟩), .agg #[.int .i64 v.k, .int .i64 v.n]] X fun e w' => e = .returned (.tuple #[]) ∧ Aft (Tk rest.length) W w' B mb A { s with fr := { f with stk := v :: f.stk } :: rest } en := by
  subst hfb
  refine (pushM X B mb A s en f rest v (hL.below hX) hs (by have := hX.size; omega) hn).mono ?_
  rintro e w' ⟨rfl, h⟩
  exact ⟨rfl, h.from hX⟩

theorem popX {W : World} {B mb : Nat} {A : AdM} {s : Mc} {en : Int} {f : Fr} {rest : List Fr} {v : V} {st : List V} (hL : LayM W B mb A s en) (hs : s.fr = f :: rest) (hst : f.stk = v :: st) (hn : st.length ≤ 64) {fbk : Nat} (hfb : A.FB rest.length = fbk) (X : World) (hX : Below W.heap.size W X) :
    Calls Tryd.prog 103 #[.pointer (some ⟨fbk, 3, none⟩)] X fun e w' => e = .returned (.agg #[.int .i64 v.k, .int .i64 v.n]) ∧ Aft (Tk rest.length) W w' B mb A { s with fr := { f with stk := st } :: rest } en := by
  subst hfb
  refine (popM X B mb A s en f rest v st (hL.below hX) hs hst hn).mono ?_
  rintro e w' ⟨rfl, h⟩
  exact ⟨rfl, h.from hX⟩

theorem alloc_cell {w : World} {o : Obj} {a : Addr} {v : Value} (h : w.cell? a = some v) (ha : a.block < w.heap.size) : (w.alloc o).cell? a = some v :=
  (((Below.refl w.heap.size w).alloc (Nat.le_refl _) o).cell ha).trans h

theorem tk5 (k : Nat) : ¬ Tk k 5 := by unfold Tk; omega

/-- Two values popped, each in a box. -/
theorem pop_two {w : World} {B mb : Nat} {A : AdM} {s : Mc} {en : Int} {f : Fr} {rest : List Fr} {b a : V} {st : List V} (hL : LayM w B mb A s en) (hs : s.fr = f :: rest) (hst : f.stk = b :: a :: st) (hn : st.length ≤ 60) {fbk : Nat} (hfb : A.FB rest.length = fbk) :
    Calls Tryd.prog 103 #[.pointer (some ⟨fbk, 3, none⟩)] w fun e w1 => e = .returned (.agg #[.int .i64 b.k, .int .i64 b.n]) ∧
      Calls Tryd.prog 103 #[.pointer (some ⟨fbk, 3, none⟩)] (w1.alloc (.cells #[.int .i64 b.k, .int .i64 b.n] 45)) fun e w2 => e = .returned (.agg #[.int .i64 a.k, .int .i64 a.n]) ∧
        ∃ A2 : AdM, LayM (w2.alloc (.cells #[.int .i64 a.k, .int .i64 a.n] 45)) B mb A2 { s with fr := { f with stk := st } :: rest } en ∧ A2.pv = A.pv ∧ A2.FB = A.FB ∧ A2.tag w1.heap.size = 5 ∧ A2.tag w2.heap.size = 5 ∧ Ch B (Tk rest.length) A.tag A2.tag w (w2.alloc (.cells #[.int .i64 a.k, .int .i64 a.n] 45)) ∧
          w1.heap.size < w2.heap.size ∧ w2.cell? ⟨w1.heap.size, 0, none⟩ = some (.int .i64 b.k) ∧ w2.cell? ⟨w1.heap.size, 1, none⟩ = some (.int .i64 b.n) := by
  refine (popX hL hs hst (by simp; omega) hfb w (Below.refl _ _)).mono ?_
  rintro e w1 ⟨rfl, h1⟩
  refine ⟨rfl, ?_⟩
  obtain ⟨A1, g1, g2, g3, g4, g5⟩ := h1.boxed (.cells #[.int .i64 b.k, .int .i64 b.n] 45)
  refine (popX g1 rfl rfl (by omega) (by rw [g3]; exact hfb) _ (Below.refl _ _)).mono ?_
  rintro e w2 ⟨rfl, h2⟩
  refine ⟨rfl, ?_⟩
  obtain ⟨A3, j1, j2, j3, j4⟩ := h2
  have hlt : w1.heap.size < (w1.alloc (.cells #[.int .i64 b.k, .int .i64 b.n] 45)).heap.size := by simp
  have hlt2 : w1.heap.size < w2.heap.size := Nat.lt_of_lt_of_le hlt j4.size
  have hnt : ¬ Tk rest.length (A1.tag w1.heap.size) := by rw [g4]; exact tk5 _
  refine ⟨_, j1.box _, j2.trans g2, j3.trans g3, ?_, upd_same _ _ _, ?_, hlt2, ?_, ?_⟩
  · show upd A3.tag w2.heap.size 5 w1.heap.size = 5
    rw [upd_other _ _ _ _ (by omega)]
    exact (j4.tags _ hlt).trans g4
  · exact (g5.trans j4).trans (Ch.of_tags ((Below.refl _ _).alloc (Nat.le_refl _) _) (fun b hb => upd_other _ _ _ _ (by omega)))
  · exact (j4.cell (a := ⟨w1.heap.size, 0, none⟩) hlt hnt).trans (cell_new w1 _ _ _ _ rfl)
  · exact (j4.cell (a := ⟨w1.heap.size, 1, none⟩) hlt hnt).trans (cell_new w1 _ _ _ _ rfl)

set_option maxRecDepth 100000 in
set_option maxHeartbeats 1000000 in
theorem reckonM (w : World) (B mb : Nat) (A : AdM) (s : Mc) (en : Int) (f : Fr) (rest : List Fr) (op : Int) (b a : V) (st : List V) (hL : LayM w B mb A s en) (hs : s.fr = f :: rest) (hst : f.stk = b :: a :: st) (hB : B ≤ w.heap.size) (hn : st.length ≤ 60)
    (hop : op = 4 ∨ op = 5 ∨ op = 6 ∨ op = 7 ∨ op = 8) (hak : a.k = 1) (hbk : b.k = 1) (hb0 : op = 7 → b.n ≠ 0) :
    Calls Tryd.prog 107 #[.pointer (some ⟨A.FB rest.length, 0, none⟩), .int .i64 op] w fun e w' => e = .returned (.tuple #[]) ∧ Aft (Tk rest.length) w w' B mb A { s with fr := { f with stk := vnum (resP op a.n b.n) :: st } :: rest } en := by
  have H2 := hid (pop_two hL hs hst hn rfl)
  have hA : (Tk rest.length 5) = False := by simp [tk5]
  generalize hfb : A.FB rest.length = fb at *
  have HF := hid hfb
  have HO := hid (And.intro hop (And.intro hb0 (And.intro hak hbk)))
  clear hL hop hb0 hst hfb hak hbk
  go_enter Tryd.func107, Tryd.ntmps107
  go_wp2_with fail
  refine H2.out.mono ?_
  rintro e w1 ⟨rfl, h2⟩
  have H3 := hid h2
  clear h2 H2
  go_wp2_with fail
  refine H3.out.mono ?_
  rintro e w2 ⟨rfl, A2, l2, p2, f2, t1, t2, ch2, hlt, x0, x1⟩
  have b0 : (w2.alloc (.cells #[.int .i64 a.k, .int .i64 a.n] 45)).cell? ⟨w2.heap.size, 0, none⟩ = some (.int .i64 a.k) := cell_new w2 _ _ _ _ rfl
  have b1 : (w2.alloc (.cells #[.int .i64 a.k, .int .i64 a.n] 45)).cell? ⟨w2.heap.size, 1, none⟩ = some (.int .i64 a.n) := cell_new w2 _ _ _ _ rfl
  have hW : Below w2.heap.size w2 (w2.alloc (.cells #[.int .i64 a.k, .int .i64 a.n] 45)) := (Below.refl _ _).alloc (Nat.le_refl _) _
  have y0 := (hW.cell (p := ⟨w1.heap.size, 0, none⟩) hlt).trans x0
  have y1 := (hW.cell (p := ⟨w1.heap.size, 1, none⟩) hlt).trans x1
  have hz : (w2.alloc (.cells #[.int .i64 a.k, .int .i64 a.n] 45)).heap.size = w2.heap.size + 1 := by simp
  have HL := hid (And.intro l2 (And.intro p2 (And.intro f2 ch2)))
  have HT := hid (And.intro t1 t2)
  have HZ := hid hz
  have Y := hid (And.intro b0 (And.intro b1 (And.intro y0 y1)))
  clear l2 p2 f2 ch2 t1 t2 hz hW x0 x1 H3 b0 b1 y0 y1
  go_wp2_with fail
  obtain ⟨b0, b1, y0, y1⟩ := Y.out
  clear Y
  generalize w2.alloc (.cells #[.int .i64 a.k, .int .i64 a.n] 45) = W at *
  generalize w2.heap.size = bx2 at *
  generalize w1.heap.size = bx1 at *
  have hx2 : bx2 < W.heap.size := by have := HZ.out; omega
  have hx1 : bx1 < W.heap.size := by have := HZ.out; omega
  have hP := fun (X : World) (hX : Below W.heap.size W X) => pushX (fbk := fb) HL.out.1 rfl (by have := HL.out.2.2.2.size; omega) (by show st.length ≤ 64; omega) (by rw [HL.out.2.2.1]; exact HF.out) (vnum (resP op a.n b.n)) X hX
  have HP := hid hP
  clear hP
  go_region_held3 (fun w' => w'.cell? ⟨bx2, 0, none⟩ = some (.int .i64 a.k) ∧ w'.cell? ⟨bx2, 1, none⟩ = some (.int .i64 a.n) ∧ w'.cell? ⟨bx1, 0, none⟩ = some (.int .i64 b.k) ∧ w'.cell? ⟨bx1, 1, none⟩ = some (.int .i64 b.n))
    ((refine ⟨?_, ?_, ?_, ?_⟩ <;> (repeat (first | exact b0 | exact b1 | exact y0 | exact y1 | assumption | refine alloc_cell ?_ (by first | exact hx1 | exact hx2 | (simp; omega))))))
    (first
      | (go_at_call 116; refine (integerI _ _ (by first | exact HO.out.2.2.1 | exact HO.out.2.2.2) _).mono ?_; rintro e w3 ⟨rfl, hw3⟩; rw [hw3]; clear hw3 w3)
      | (go_at_call 115; refine (resultM op a.n b.n HO.out.1 HO.out.2.1 _).mono ?_; rintro e w5 ⟨rfl, hw5⟩; rw [hw5]; clear hw5 w5)
      | (go_at_call 104; refine (numberM _ _).mono ?_; rintro e w6 ⟨rfl, hw6⟩; rw [hw6]; clear hw6 w6)
      | (go_at_call 106; refine (HP.out _ ?_).mono ?_; exact (by repeat (first | exact Below.refl _ _ | refine Below.drew ?_ | refine Below.alloc ?_ (by first | omega | (simp; done) | (simp; omega)) _)); rintro e w7 ⟨rfl, A7, l7, p7, f7, c7⟩; have q0 := (c7.cell (a := ⟨bx2, 0, none⟩) hx2 (by rw [HT.out.2]; exact tk5 _)).trans b0; have q1 := (c7.cell (a := ⟨bx2, 1, none⟩) hx2 (by rw [HT.out.2]; exact tk5 _)).trans b1; have q2 := (c7.cell (a := ⟨bx1, 0, none⟩) hx1 (by rw [HT.out.1]; exact tk5 _)).trans y0; have q3 := (c7.cell (a := ⟨bx1, 1, none⟩) hx1 (by rw [HT.out.1]; exact tk5 _)).trans y1))
  rename_i hheld
  have HQ := hid (Aft.on HL.out.2.1 HL.out.2.2.1 HL.out.2.2.2 ⟨A7, l7, p7, f7, c7⟩)
  clear hheld q0 q1 q2 q3 l7 p7 f7 c7 b0 b1 y0 y1
  go_end0
  exact ⟨rfl, HQ.out⟩
end Go.Proofs.YtnhjjjijeeobbaaDoor
