import Derived.Test.YtkafkipjedpohaaGreatDoorR10

/-
  upshiftref's simple: what pushes a constant.
-/
namespace Go.Proofs.YtkafkipjedpohaaGreatDoor
open Go.RowKit

theorem top_cell {w : World} {B rb : Nat} {A : Ad} {s : Mc} {f : Fr} {rest : List Fr} (h : LayA w B rb A s) (hs : s.fr = f :: rest) :
    ∃ fb fcap, w.cell? ⟨rb, 1, none⟩ = some (.slice (some ⟨fb, 0, none⟩) (rest.length + 1) fcap) ∧ A.fv = .slice (some ⟨fb, 0, none⟩) (rest.length + 1) fcap ∧ fb < w.heap.size ∧ B ≤ fb ∧ A.tag fb = 1 := by
  have hfr := h.fr
  rw [hs, List.length_cons] at hfr
  obtain ⟨fb, fcap, hfv, hfb, hfz, hft, hfc⟩ := hfr.form (by omega)
  have r1 : w.cell? ⟨rb, 1, none⟩ = some (.slice (some ⟨fb, 0, none⟩) (rest.length + 1) fcap) := by rw [Lay.cell h 1]; show some A.fv = _; rw [hfv]
  exact ⟨fb, fcap, r1, hfv, hfz, hfb, hft⟩

set_option maxRecDepth 100000 in
set_option maxHeartbeats 2000000 in
theorem simple_const (w : World) (B rb : Nat) (A : Ad) (s : Mc) (f : Fr) (rest : List Fr) (a : Int) (hL : LayA w B rb A s) (hs : s.fr = f :: rest) (hB : B ≤ w.heap.size) (hn : f.stk.length ≤ 60) (hr : rest.length ≤ 60) :
    Calls Tryz.prog 101 #[.pointer (some ⟨rb, 0, none⟩), .agg #[.int .i64 0, .int .i64 a]] w fun e w' => e = .returned (.int .i64 0) ∧ After w w' B rb A { s with fr := { f with stk := vnum a :: f.stk } :: rest } := by
  obtain ⟨fb, fcap, r1, hfv, hfz, hfb, hft⟩ := top_cell hL hs
  have hrb := Lay.lt hL
  have HL := hid hL
  clear hL
  generalize hk : rest.length = k at *
  have Hk := hid hk
  clear hk
  go_enter Tryz.func101, Tryz.ntmps101
  go_wp2_with fail
  go_quiet (fail)
  go_wp2_with fail
  have hbX : Below w.heap.size w ((w.alloc (.cells #[.int .i64 0, .int .i64 a] 33)).drewN nq) := below_drewN ((Below.refl _ _).alloc (Nat.le_refl _) _) _
  have HX := hid hbX
  clear hbX
  generalize (w.alloc (.cells #[.int .i64 0, .int .i64 a] 33)).drewN nq = X at *
  refine (number_any _ _).mono ?_
  rintro e w' ⟨rfl, rfl⟩
  have hbY := HX.out.alloc HX.out.size (.cells #[.int .i64 1, .int .i64 a] 43)
  have HY := hid hbY
  have hpush := push_A (X.alloc (.cells #[.int .i64 1, .int .i64 a] 43)) B rb A s f rest (vnum a) (LayA.below HL.out hbY) hs (by have := hbY.size; omega) (by omega) (by rw [Hk.out]; omega)
  clear hbY
  have HP := hid hpush
  clear hpush
  go_wp2_with fail
  refine HP.out.mono ?_
  rintro e w5 ⟨rfl, A5, g1, g2, g3, g4, g5, g6, g7⟩
  have hfin : Hid (After w w5 B rb A { s with fr := { f with stk := vnum a :: f.stk } :: rest }) := ⟨A5, g1, g2, g3, (Ch.of_below HY.out).trans (g7.mono five_stack)⟩
  clear g1 g7
  go_wp2_with fail
  go_ret
  exact ⟨rfl, hfin.out⟩
set_option maxRecDepth 100000 in
set_option maxHeartbeats 2000000 in
theorem simple_nil (w : World) (B rb : Nat) (A : Ad) (s : Mc) (f : Fr) (rest : List Fr) (a : Int) (hL : LayA w B rb A s) (hs : s.fr = f :: rest) (hB : B ≤ w.heap.size) (hn : f.stk.length ≤ 60) (hr : rest.length ≤ 60) :
    Calls Tryz.prog 101 #[.pointer (some ⟨rb, 0, none⟩), .agg #[.int .i64 1, .int .i64 a]] w fun e w' => e = .returned (.int .i64 0) ∧ After w w' B rb A { s with fr := { f with stk := vnil :: f.stk } :: rest } := by
  obtain ⟨fb, fcap, r1, hfv, hfz, hfb, hft⟩ := top_cell hL hs
  have hrb := Lay.lt hL
  have HL := hid hL
  clear hL
  generalize hk : rest.length = k at *
  have Hk := hid hk
  clear hk
  go_enter Tryz.func101, Tryz.ntmps101
  go_wp2_with fail
  go_quiet (fail)
  go_wp2_with fail
  have hbX : Below w.heap.size w ((w.alloc (.cells #[.int .i64 1, .int .i64 a] 33)).drewN nq) := below_drewN ((Below.refl _ _).alloc (Nat.le_refl _) _) _
  have HX := hid hbX
  clear hbX
  generalize (w.alloc (.cells #[.int .i64 1, .int .i64 a] 33)).drewN nq = X at *
  have hpush := push_A X B rb A s f rest vnil (LayA.below HL.out HX.out) hs (by have := HX.out.size; omega) (by omega) (by rw [Hk.out]; omega)
  have HP := hid hpush
  clear hpush
  refine HP.out.mono ?_
  rintro e w5 ⟨rfl, A5, g1, g2, g3, g4, g5, g6, g7⟩
  have hfin : Hid (After w w5 B rb A { s with fr := { f with stk := vnil :: f.stk } :: rest }) := ⟨A5, g1, g2, g3, (Ch.of_below HX.out).trans (g7.mono five_stack)⟩
  clear g1 g7
  go_wp2_with fail
  go_ret
  exact ⟨rfl, hfin.out⟩
set_option maxRecDepth 100000 in
set_option maxHeartbeats 2000000 in
theorem simple_fun (w : World) (B rb : Nat) (A : Ad) (s : Mc) (f : Fr) (rest : List Fr) (a : Int) (hL : LayA w B rb A s) (hs : s.fr = f :: rest) (hB : B ≤ w.heap.size) (hn : f.stk.length ≤ 60) (hr : rest.length ≤ 60) :
    Calls Tryz.prog 101 #[.pointer (some ⟨rb, 0, none⟩), .agg #[.int .i64 12, .int .i64 a]] w fun e w' => e = .returned (.int .i64 0) ∧ After w w' B rb A { s with fr := { f with stk := ⟨3, a⟩ :: f.stk } :: rest } := by
  obtain ⟨fb, fcap, r1, hfv, hfz, hfb, hft⟩ := top_cell hL hs
  have hrb := Lay.lt hL
  have HL := hid hL
  clear hL
  generalize hk : rest.length = k at *
  have Hk := hid hk
  clear hk
  go_enter Tryz.func101, Tryz.ntmps101
  go_wp2_with fail
  go_quiet (fail)
  go_wp2_with fail
  have hbX : Below w.heap.size w ((w.alloc (.cells #[.int .i64 12, .int .i64 a] 33)).drewN nq) := below_drewN ((Below.refl _ _).alloc (Nat.le_refl _) _) _
  have HX := hid hbX
  clear hbX
  generalize (w.alloc (.cells #[.int .i64 12, .int .i64 a] 33)).drewN nq = X at *
  have hpush := push_A X B rb A s f rest (⟨3, a⟩ : V) (LayA.below HL.out HX.out) hs (by have := HX.out.size; omega) (by omega) (by rw [Hk.out]; omega)
  have HP := hid hpush
  clear hpush
  refine HP.out.mono ?_
  rintro e w5 ⟨rfl, A5, g1, g2, g3, g4, g5, g6, g7⟩
  have hfin : Hid (After w w5 B rb A { s with fr := { f with stk := ⟨3, a⟩ :: f.stk } :: rest }) := ⟨A5, g1, g2, g3, (Ch.of_below HX.out).trans (g7.mono five_stack)⟩
  clear g1 g7
  go_wp2_with fail
  go_ret
  exact ⟨rfl, hfin.out⟩
end Go.Proofs.YtkafkipjedpohaaGreatDoor

/-
  upshiftref's simple: Pop; New, Get, Set, Len by its arrays.
-/
namespace Go.Proofs.YtkafkipjedpohaaGreatDoor
open Go.RowKit

set_option maxRecDepth 100000 in
set_option maxHeartbeats 2000000 in
theorem simple_pop (w : World) (B rb : Nat) (A : Ad) (s : Mc) (f : Fr) (rest : List Fr) (a : Int) (v : V) (st : List V) (hL : LayA w B rb A s) (hs : s.fr = f :: rest) (hst : f.stk = v :: st) (hB : B ≤ w.heap.size) (hn : st.length ≤ 60) (hr : rest.length ≤ 60) :
    Calls Tryz.prog 101 #[.pointer (some ⟨rb, 0, none⟩), .agg #[.int .i64 20, .int .i64 a]] w fun e w' => e = .returned (.int .i64 0) ∧ After w w' B rb A { s with fr := { f with stk := st } :: rest } := by
  obtain ⟨fb, fcap, r1, hfv, hfz, hfb, hft⟩ := top_cell hL hs
  have hrb := Lay.lt hL
  have HL := hid hL
  clear hL
  generalize hk : rest.length = k at *
  have Hk := hid hk
  clear hk
  go_enter Tryz.func101, Tryz.ntmps101
  go_wp2_with fail
  go_quiet (fail)
  go_wp2_with fail
  have hbX : Below w.heap.size w ((w.alloc (.cells #[.int .i64 20, .int .i64 a] 33)).drewN nq) := below_drewN ((Below.refl _ _).alloc (Nat.le_refl _) _) _
  have HX := hid hbX
  clear hbX
  generalize (w.alloc (.cells #[.int .i64 20, .int .i64 a] 33)).drewN nq = X at *
  have hpop := pop_A X B rb A s f rest v st (LayA.below HL.out HX.out) hs hst (by have := HX.out.size; omega) (by omega) (by rw [Hk.out]; omega)
  have HP := hid hpop
  clear hpop
  refine HP.out.mono ?_
  rintro e w5 ⟨rfl, A5, g1, g2, g3, g4, g5, g6, g7⟩
  have hfin : Hid (After w w5 B rb A { s with fr := { f with stk := st } :: rest }) := ⟨A5, g1, g2, g3, (Ch.of_below HX.out).trans (g7.mono five_stack)⟩
  clear g1 g7
  go_wp2_with fail
  go_ret
  exact ⟨rfl, hfin.out⟩

set_option maxRecDepth 100000 in
set_option maxHeartbeats 2000000 in
theorem simple_arrays (w : World) (B rb : Nat) (A : Ad) (s : Mc) (f : Fr) (rest : List Fr) (op a : Int) (hop : op = 15 ∨ op = 16 ∨ op = 17 ∨ op = 18) (hL : LayA w B rb A s) (hs : s.fr = f :: rest) (hr : rest.length ≤ 60) (R : Int → World → Prop)
    (hA : ∀ X, Below w.heap.size w X → Calls Tryz.prog 113 #[.pointer (some ⟨rb, 0, none⟩), .int .i64 op] X fun e w' => ∃ t, e = .returned (.int .i64 t) ∧ R t w') :
    Calls Tryz.prog 101 #[.pointer (some ⟨rb, 0, none⟩), .agg #[.int .i64 op, .int .i64 a]] w fun e w' => ∃ t, e = .returned (.int .i64 t) ∧ R t w' := by
  obtain ⟨fb, fcap, r1, hfv, hfz, hfb, hft⟩ := top_cell hL hs
  have hrb := Lay.lt hL
  have HA := hid hA
  clear hL hA
  generalize rest.length = k at *
  go_enter Tryz.func101, Tryz.ntmps101
  rcases hop with rfl | rfl | rfl | rfl
  all_goals
    go_wp2_with fail
    go_quiet (fail)
    go_wp2_with fail
    refine (HA.out _ (below_drewN ((Below.refl _ _).alloc (Nat.le_refl _) _) _)).mono ?_
    rintro e w5 ⟨t, rfl, hR⟩
    have HR := hid hR
    clear hR
    go_wp2_with fail
    go_ret
    exact ⟨t, rfl, HR.out⟩
end Go.Proofs.YtkafkipjedpohaaGreatDoor

/-
  upshiftref's simple: Dup.
-/
namespace Go.Proofs.YtkafkipjedpohaaGreatDoor
open Go.RowKit

set_option maxRecDepth 100000 in
set_option maxHeartbeats 2000000 in
theorem simple_dup (w : World) (B rb : Nat) (A : Ad) (s : Mc) (f : Fr) (rest : List Fr) (a : Int) (v : V) (st : List V) (hL : LayA w B rb A s) (hs : s.fr = f :: rest) (hst : f.stk = v :: st) (hB : B ≤ w.heap.size) (hn : st.length ≤ 60) (hr : rest.length ≤ 60) :
    Calls Tryz.prog 101 #[.pointer (some ⟨rb, 0, none⟩), .agg #[.int .i64 21, .int .i64 a]] w fun e w' => e = .returned (.int .i64 0) ∧ After w w' B rb A { s with fr := { f with stk := v :: v :: st } :: rest } := by
  obtain ⟨fb, fcap, r1, hfv, hfz, hfb, hft⟩ := top_cell hL hs
  have hrb := Lay.lt hL
  have HL := hid hL
  clear hL
  generalize hk : rest.length = k at *
  have Hk := hid hk
  clear hk
  go_enter Tryz.func101, Tryz.ntmps101
  go_wp2_with fail
  go_quiet (fail)
  go_wp2_with fail
  have hbX : Below w.heap.size w ((w.alloc (.cells #[.int .i64 21, .int .i64 a] 33)).drewN nq) := below_drewN ((Below.refl _ _).alloc (Nat.le_refl _) _) _
  have HX := hid hbX
  clear hbX
  generalize (w.alloc (.cells #[.int .i64 21, .int .i64 a] 33)).drewN nq = X at *
  have hpop := pop_A X B rb A s f rest v st (LayA.below HL.out HX.out) hs hst (by have := HX.out.size; omega) (by omega) (by rw [Hk.out]; omega)
  have HP := hid hpop
  clear hpop
  refine HP.out.mono ?_
  rintro e w0 ⟨rfl, A0, h0, p0, f0, _, _, _, ch0⟩
  have HB0 := hid (boxed v h0 p0 f0 (((Ch.of_below HX.out).trans (ch0.mono five_stack) : Ch B Five A.tag A0.tag w w0)))
  clear h0 p0 f0 ch0 HP
  have hbx0 := HB0.out.box0
  have hbx1 := HB0.out.box1
  go_wp2_with fail
  generalize w0.alloc (.cells #[.int .i64 v.k, .int .i64 v.n] 43) = W0 at *
  generalize { A0 with tag := upd A0.tag w0.heap.size 5 } = A0' at *
  generalize w0.heap.size = bx at *
  have hB0 : B ≤ W0.heap.size := by have := HB0.out.ch.size; omega
  refine (push_A W0 B rb A0' { s with fr := { f with stk := st } :: rest } { f with stk := st } rest v HB0.out.lay rfl hB0 (by show st.length ≤ 64; omega) (by rw [Hk.out]; omega)).mono ?_
  rintro e w1 ⟨rfl, A1, h1, p1, f1, _, _, _, ch1⟩
  have j0 := (ch1.box stack5 HB0.out.lt HB0.out.tag 0).trans HB0.out.box0
  have j1 := (ch1.box stack5 HB0.out.lt HB0.out.tag 1).trans HB0.out.box1
  have HL1 := hid h1
  have HC1 := hid ch1
  have hB1 : B ≤ w1.heap.size := by have := ch1.size; omega
  clear h1 ch1
  go_wp2_with fail
  refine (push_A w1 B rb A1 { s with fr := { f with stk := v :: st } :: rest } { f with stk := v :: st } rest v HL1.out rfl hB1 (by simp; omega) (by rw [Hk.out]; omega)).mono ?_
  rintro e w2 ⟨rfl, A2, h2, p2, f2, _, _, _, ch2⟩
  have hfin : Hid (After w w2 B rb A { s with fr := { f with stk := v :: v :: st } :: rest }) := ⟨A2, h2, p2.trans (p1.trans HB0.out.pv), f2.trans (f1.trans HB0.out.fv), (HB0.out.ch.trans (HC1.out.mono five_stack)).trans (ch2.mono five_stack)⟩
  clear h2 ch2
  go_wp2_with fail
  go_ret
  exact ⟨rfl, hfin.out⟩
end Go.Proofs.YtkafkipjedpohaaGreatDoor

/-
  upshiftref's simple: what makes one of two.
-/
namespace Go.Proofs.YtkafkipjedpohaaGreatDoor
open Go.RowKit

set_option maxRecDepth 100000 in
set_option maxHeartbeats 4000000 in
theorem simple_two (w : World) (B rb : Nat) (A : Ad) (s : Mc) (f : Fr) (rest : List Fr) (op a : Int) (y x : V) (st : List V) (hop : op = 4 ∨ op = 5 ∨ op = 6 ∨ op = 7 ∨ op = 8 ∨ op = 9) (hL : LayA w B rb A s) (hs : s.fr = f :: rest) (hst : f.stk = x :: y :: st) (hB : B ≤ w.heap.size) (hn : st.length ≤ 60) (hr : rest.length ≤ 60) :
    Calls Tryz.prog 101 #[.pointer (some ⟨rb, 0, none⟩), .agg #[.int .i64 op, .int .i64 a]] w fun e w' =>
      ((twoP op y x).2 ≠ 0 → e = .returned (.int .i64 (twoP op y x).2) ∧ After w w' B rb A { s with fr := { f with stk := st } :: rest }) ∧
      ((twoP op y x).2 = 0 → e = .returned (.int .i64 0) ∧ After w w' B rb A { s with fr := { f with stk := (twoP op y x).1 :: st } :: rest }) := by
  obtain ⟨fb, fcap, r1, hfv, hfz, hfb, hft⟩ := top_cell hL hs
  have hrb := Lay.lt hL
  have HL := hid hL
  have HO := hid hop
  clear hL
  generalize hk : rest.length = k at *
  have Hk := hid hk
  clear hk
  have o1 : ¬ op = 0 := by omega
  have o2 : ¬ op = 1 := by omega
  have o3 : ¬ op = 12 := by omega
  have o4 : ¬ op = 2 := by omega
  have o5 : ¬ op = 3 := by omega
  have o6 : ¬ op = 19 := by omega
  have o7 : ¬ op = 20 := by omega
  have o8 : ¬ op = 21 := by omega
  have o9 : ¬ op = 15 := by omega
  have oa : ¬ op = 16 := by omega
  have ob : ¬ op = 17 := by omega
  have oc : ¬ op = 18 := by omega
  clear hop
  go_enter Tryz.func101, Tryz.ntmps101
  go_wp2_with fail
  go_quiet (fail)
  go_wp2_with fail
  have HBi : Hid (LayA ((w.alloc (.cells #[.int .i64 op, .int .i64 a] 33)).drewN nq) B rb { A with tag := upd A.tag w.heap.size 5 } s ∧ Ch B Five A.tag (upd A.tag w.heap.size 5) w ((w.alloc (.cells #[.int .i64 op, .int .i64 a] 33)).drewN nq)) :=
    ⟨LayA.below (LayA.box HL.out _) (below_drewN (Below.refl _ _) _), Ch.of_tags (below_drewN ((Below.refl _ _).alloc (Nat.le_refl _) _) _) (fun b hb => upd_other _ _ _ _ (by omega))⟩
  have i0 : ((w.alloc (.cells #[.int .i64 op, .int .i64 a] 33)).drewN nq).cell? ⟨w.heap.size, 0, none⟩ = some (.int .i64 op) := cell_new w _ _ _ _ rfl
  have iz : w.heap.size < ((w.alloc (.cells #[.int .i64 op, .int .i64 a] 33)).drewN nq).heap.size := by simp
  have it : upd A.tag w.heap.size 5 w.heap.size = 5 := upd_same _ _ _
  generalize (w.alloc (.cells #[.int .i64 op, .int .i64 a] 33)).drewN nq = X at *
  generalize hAi : ({ A with tag := upd A.tag w.heap.size 5 } : Ad) = Ai at *
  have hti : upd A.tag w.heap.size 5 = Ai.tag := by rw [← hAi]
  have hpi : Ai.pv = A.pv ∧ Ai.fv = A.fv := by rw [← hAi]; exact ⟨rfl, rfl⟩
  rw [hti] at HBi it
  have HPi := hid hpi
  clear hAi hti hpi
  have hwB : B ≤ w.heap.size := hB
  generalize w.heap.size = ib at *
  have hBX : B ≤ X.heap.size := by omega
  have hpop := pop_A X B rb Ai s f rest x (y :: st) HBi.out.1 hs hst hBX (by simp; omega) (by rw [Hk.out]; omega)
  have HP := hid hpop
  clear hpop
  refine HP.out.mono ?_
  rintro e w0 ⟨rfl, A0, h0, p0, f0, _, _, _, ch0⟩
  have HB0 := hid (boxed x h0 (p0.trans HPi.out.1) (f0.trans HPi.out.2) (HBi.out.2.trans (ch0.mono five_stack)))
  have i1 := (ch0.box stack5 iz it 0).trans i0
  have iz1 : ib < w0.heap.size := by have := ch0.size; omega
  have it1 : upd A0.tag w0.heap.size 5 ib = 5 := by rw [upd_other _ _ _ _ (by omega)]; exact (ch0.tags ib iz).trans it
  have hbb0 : Below w0.heap.size w0 (w0.alloc (.cells #[.int .i64 x.k, .int .i64 x.n] 43)) := (Below.refl _ _).alloc (Nat.le_refl _) _
  have i2 := (hbb0.cell (p := ⟨ib, 0, none⟩) iz1).trans i1
  have HI := hid (And.intro i2 (And.intro iz1 it1))
  have hsz0 : (w0.alloc (.cells #[.int .i64 x.k, .int .i64 x.n] 43)).heap.size = w0.heap.size + 1 := by simp
  have HS0 := hid hsz0
  clear h0 p0 f0 ch0 HP HBi i0 i1 i2 iz it iz1 it1 hbb0 hsz0
  go_wp2_with fail
  generalize w0.alloc (.cells #[.int .i64 x.k, .int .i64 x.n] 43) = W0 at *
  generalize hA0 : ({ A0 with tag := upd A0.tag w0.heap.size 5 } : Ad) = A0' at HB0
  have HA0 : Hid (upd A0.tag w0.heap.size 5 = A0'.tag) := by unfold Hid; rw [← hA0]
  clear hA0
  generalize w0.heap.size = bx0 at *
  have hB0 : B ≤ W0.heap.size := by rw [HS0.out]; have := HI.out.2.1; omega
  refine (pop_A W0 B rb A0' { s with fr := { f with stk := y :: st } :: rest } { f with stk := y :: st } rest y st HB0.out.lay rfl rfl hB0 (by omega) (by rw [Hk.out]; omega)).mono ?_
  rintro e w1 ⟨rfl, A1, h1, p1, f1, _, _, _, ch1⟩
  have HB1 := hid (boxed y h1 (p1.trans HB0.out.pv) (f1.trans HB0.out.fv) (HB0.out.ch.trans (ch1.mono five_stack)))
  have iz2 : ib < W0.heap.size := by rw [HS0.out]; have := HI.out.2.1; omega
  have q0 := (ch1.box stack5 iz2 (HA0.out ▸ HI.out.2.2) 0).trans HI.out.1
  have q1 := (ch1.box stack5 HB0.out.lt HB0.out.tag 0).trans HB0.out.box0
  have q2 := (ch1.box stack5 HB0.out.lt HB0.out.tag 1).trans HB0.out.box1
  have hz1 : ib < w1.heap.size := by have := ch1.size; omega
  have hz2 : bx0 < w1.heap.size := by have := ch1.size; have := HB0.out.lt; omega
  clear h1 p1 f1 ch1
  go_wp2_with fail
  generalize w1.alloc (.cells #[.int .i64 y.k, .int .i64 y.n] 43) = W1 at *
  generalize { A1 with tag := upd A1.tag w1.heap.size 5 } = A1' at *
  generalize w1.heap.size = bx1 at *
  refine (two_any op y x W1 HO.out).mono ?_
  rintro e w2 ⟨rfl, hB2⟩
  unfold twoV
  have HL2 := hid (LayA.below HB1.out.lay hB2)
  have HC2 : Hid (Ch B Five A.tag A1'.tag w w2) := HB1.out.ch.trans' hB2
  have hBw2 : B ≤ w2.heap.size := by have := (Lay.own HL2.out).1; have := Lay.lt HL2.out; omega
  have HPF := hid (And.intro HB1.out.pv HB1.out.fv)
  clear hB2 HB1 HB0 q0 q1 q2
  generalize htt : twoP op y x = tt at *
  have Htt := hid htt
  clear htt
  obtain ⟨tv, tn⟩ := tt
  by_cases ht : tn = 0
  · have hb : (tn != 0) = false := by simpa using ht
    have HT := hid ht
    have hpush : ∀ Y, Below w2.heap.size w2 Y → Calls Tryz.prog 111 #[.pointer (some ⟨rb, 0, none⟩), .agg #[.int .i64 tv.k, .int .i64 tv.n]] Y fun e w' => e = .returned (.tuple #[]) ∧ After w w' B rb A { s with fr := { f with stk := tv :: st } :: rest } := fun Y hY => by
      refine (push_A Y B rb A1' { s with fr := { f with stk := st } :: rest } { f with stk := st } rest tv (LayA.below HL2.out hY) rfl (by have := hY.size; omega) (by show st.length ≤ 64; omega) (by rw [Hk.out]; omega)).mono ?_
      rintro e w' ⟨rfl, A5, g1, g2, g3, g4, g5, g6, g7⟩
      exact ⟨rfl, A5, g1, g2.trans HPF.out.1, g3.trans HPF.out.2, (HC2.out.trans' hY).trans (g7.mono five_stack)⟩
    have HPu := hid hpush
    clear hpush ht
    go_wp2_with fail
    refine (HPu.out _ (by repeat (first | exact Below.refl _ _ | refine Below.drew ?_ | refine Below.alloc ?_ (by first | omega | (simp; done) | (simp; omega)) _))).mono ?_
    rintro e w5 ⟨rfl, hA5⟩
    have HQ := hid hA5
    clear hA5
    go_wp2_with fail
    go_ret
    rw [Htt.out]
    exact ⟨fun h => absurd HT.out h, fun _ => ⟨rfl, HQ.out⟩⟩
  · have hb : (tn != 0) = true := by simpa using ht
    have HT := hid ht
    clear ht
    have hfin : ∀ Y, Below w2.heap.size w2 Y → After w Y B rb A { s with fr := { f with stk := st } :: rest } := fun Y hY => ⟨A1', LayA.below HL2.out hY, HPF.out.1, HPF.out.2, HC2.out.trans' hY⟩
    have HQ := hid hfin
    clear hfin
    go_wp2_with fail
    go_ret
    rw [Htt.out]
    exact ⟨fun _ => ⟨rfl, HQ.out _ (by repeat (first | exact Below.refl _ _ | refine Below.drew ?_ | refine Below.alloc ?_ (by first | omega | (simp; done) | (simp; omega)) _))⟩, fun h => absurd h HT.out⟩
end Go.Proofs.YtkafkipjedpohaaGreatDoor

/-
  upshiftref's simple: Load.
-/
namespace Go.Proofs.YtkafkipjedpohaaGreatDoor
open Go.RowKit

set_option maxRecDepth 100000 in
set_option maxHeartbeats 2000000 in
theorem simple_load (w : World) (B rb : Nat) (A : Ad) (s : Mc) (f : Fr) (rest : List Fr) (a : Int) (ha0 : 0 ≤ a) (ha1 : a < f.loc.length) (hl : f.loc.length ≤ 64) (hL : LayA w B rb A s) (hs : s.fr = f :: rest) (_hB : B ≤ w.heap.size) (hn : f.stk.length ≤ 60) (hr : rest.length ≤ 60) :
    Calls Tryz.prog 101 #[.pointer (some ⟨rb, 0, none⟩), .agg #[.int .i64 2, .int .i64 a]] w fun e w' => e = .returned (.int .i64 0) ∧ After w w' B rb A { s with fr := { f with stk := f.loc.getD a.toNat vnil :: f.stk } :: rest } := by
  obtain ⟨fb, fcap, r1, hfv, hfz, hfb, hft⟩ := top_cell hL hs
  have hrb := Lay.lt hL
  have hloc := Lay.loc hL rest.length (by rw [hs]; simp)
  have e0 : frAt s.fr rest.length = f := by rw [hs]; exact frAt_top _ _
  rw [e0] at hloc
  obtain ⟨lb, lcap, hlv, hlb, hlz, hlt, hlc⟩ := hloc.form (by omega)
  rw [hlv] at hloc
  have hfr := Lay.fr hL
  have hfl : s.fr.length = rest.length + 1 := by rw [hs]; rfl
  rw [hfl, hfv] at hfr
  have c2 := hfr.cell (i := rest.length * 4 + 2) (by omega)
  rw [fcell_loc, hlv] at c2
  have x0 := hloc.cell (i := a.toNat * 2) (by omega)
  have x1 := hloc.cell (i := a.toNat * 2 + 1) (by omega)
  have g0 : vcell f.loc (a.toNat * 2) = .int .i64 (f.loc.getD a.toNat vnil).k := by
    unfold vcell; rw [if_pos (by omega), show a.toNat * 2 / 2 = a.toNat by omega]
  have g1 : vcell f.loc (a.toNat * 2 + 1) = .int .i64 (f.loc.getD a.toNat vnil).n := by
    unfold vcell; rw [if_neg (by omega), show (a.toNat * 2 + 1) / 2 = a.toNat by omega]
  rw [g0] at x0
  rw [g1] at x1
  have HL := hid hL
  clear hL hfr hloc e0 hfl g0 g1
  generalize hvv : f.loc.getD a.toNat vnil = vv at *
  generalize hk : rest.length = k at *
  have Hk := hid hk
  clear hk
  clear hvv
  generalize f.loc.length = ln at *
  go_enter Tryz.func101, Tryz.ntmps101
  go_wp2_with fail
  go_quiet (fail)
  go_wp2_with fail
  have HBi : Hid (LayA ((w.alloc (.cells #[.int .i64 2, .int .i64 a] 33)).drewN nq) B rb { A with tag := upd A.tag w.heap.size 5 } s ∧ Ch B Five A.tag (upd A.tag w.heap.size 5) w ((w.alloc (.cells #[.int .i64 2, .int .i64 a] 33)).drewN nq)) :=
    ⟨LayA.below (LayA.box HL.out _) (below_drewN (Below.refl _ _) _), Ch.of_tags (below_drewN ((Below.refl _ _).alloc (Nat.le_refl _) _) _) (fun b hb => upd_other _ _ _ _ (by omega))⟩
  have hbX : Below w.heap.size w ((w.alloc (.cells #[.int .i64 2, .int .i64 a] 33)).drewN nq) := below_drewN ((Below.refl _ _).alloc (Nat.le_refl _) _) _
  have i1 : ((w.alloc (.cells #[.int .i64 2, .int .i64 a] 33)).drewN nq).cell? ⟨w.heap.size, 1, none⟩ = some (.int .i64 a) := cell_new w _ _ _ _ rfl
  have iz : w.heap.size < ((w.alloc (.cells #[.int .i64 2, .int .i64 a] 33)).drewN nq).heap.size := by simp
  have y2 := (hbX.cell (p := ⟨fb, k * 4 + 2, none⟩) hfz).trans c2
  have y0 := (hbX.cell (p := ⟨lb, a.toNat * 2, none⟩) hlz).trans x0
  have y1 := (hbX.cell (p := ⟨lb, a.toNat * 2 + 1, none⟩) hlz).trans x1
  have it : upd A.tag w.heap.size 5 w.heap.size = 5 := upd_same _ _ _
  have hlz2 : lb < ((w.alloc (.cells #[.int .i64 2, .int .i64 a] 33)).drewN nq).heap.size := by simp; omega
  have hlt2 : upd A.tag w.heap.size 5 lb = 10 + 3 * k := by rw [upd_other _ _ _ _ (by omega)]; exact hlt
  have HLV : Hid (A.LV k = .slice (some ⟨lb, 0, none⟩) ln lcap ∧ A.fv = .slice (some ⟨fb, 0, none⟩) (k + 1) fcap) := ⟨hlv, hfv⟩
  clear hbX c2 x0 x1 r1 hlt
  generalize (w.alloc (.cells #[.int .i64 2, .int .i64 a] 33)).drewN nq = X at *
  have hBX : B ≤ X.heap.size := by omega
  have hpush : ∀ Y, Below X.heap.size X Y → Calls Tryz.prog 111 #[.pointer (some ⟨rb, 0, none⟩), .agg #[.int .i64 vv.k, .int .i64 vv.n]] Y fun e w' => e = .returned (.tuple #[]) ∧ After w w' B rb A { s with fr := { f with stk := vv :: f.stk } :: rest } ∧
      w'.cell? ⟨fb, k * 4 + 2, none⟩ = some (.slice (some ⟨lb, 0, none⟩) ln lcap) ∧ w'.cell? ⟨w.heap.size, 1, none⟩ = some (.int .i64 a) ∧ w'.cell? ⟨lb, a.toNat * 2, none⟩ = some (.int .i64 vv.k) ∧ w'.cell? ⟨lb, a.toNat * 2 + 1, none⟩ = some (.int .i64 vv.n) := fun Y hY => by
    refine (push_A Y B rb { A with tag := upd A.tag w.heap.size 5 } s f rest vv (LayA.below HBi.out.1 hY) hs (by have := hY.size; omega) (by omega) (by rw [Hk.out]; omega)).mono ?_
    rintro e w' ⟨rfl, A5, g1, g2, g3, g4, g5, g6, g7⟩
    have hno : ¬ (upd A.tag w.heap.size 5 lb = 1 ∨ upd A.tag w.heap.size 5 lb = 11 + 3 * rest.length) := by rw [hlt2]; omega
    have hch := (Ch.of_below (B := B) (p := fun c => c = 1 ∨ c = 11 + 3 * rest.length) hY).trans g7
    refine ⟨rfl, ⟨A5, g1, g2, g3, HBi.out.2.trans (hch.mono five_stack)⟩, ?_, (hch.box stack5 iz it 1).trans i1, (hch.cell (a := ⟨lb, _, none⟩) hlz2 hno).trans y0, (hch.cell (a := ⟨lb, _, none⟩) hlz2 hno).trans y1⟩
    have hfr := Lay.fr g1
    rw [g3] at hfr
    have e2 : ({ A with tag := upd A.tag w.heap.size 5 } : Ad).fv = .slice (some ⟨fb, 0, none⟩) (k + 1) fcap := HLV.out.2
    rw [e2, List.length_cons, Hk.out] at hfr
    have c := hfr.cell (i := k * 4 + 2) (by omega)
    rw [fcell_loc, g6] at c
    exact c.trans (congrArg some HLV.out.1)
  have HPu := hid hpush
  clear hpush
  have hia : a.toNat < ln := by omega
  go_region_held3 (fun w' => w'.cell? ⟨fb, k * 4 + 2, none⟩ = some (.slice (some ⟨lb, 0, none⟩) ln lcap) ∧ w'.cell? ⟨w.heap.size, 1, none⟩ = some (.int .i64 a) ∧ w'.cell? ⟨lb, a.toNat * 2, none⟩ = some (.int .i64 vv.k) ∧ w'.cell? ⟨lb, a.toNat * 2 + 1, none⟩ = some (.int .i64 vv.n)) (go_keep)
    ((go_at_call 111; refine (HPu.out _ ?_).mono ?_; exact (by repeat (first | exact Below.refl _ _ | refine Below.drew ?_)); rintro e w5 ⟨rfl, hA5, q0, q1, q2, q3⟩))
  rename_i hheld
  have HQ := hid hA5
  clear hheld hA5 q0 q1 q2 q3
  go_wp2
  go_ret
  exact ⟨rfl, HQ.out⟩
end Go.Proofs.YtkafkipjedpohaaGreatDoor
