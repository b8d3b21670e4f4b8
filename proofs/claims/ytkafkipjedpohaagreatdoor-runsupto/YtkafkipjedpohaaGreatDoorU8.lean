import Derived.Test.YtkafkipjedpohaaGreatDoorLz
import Derived.Test.YtkafkipjedpohaaGreatDoorS14
import Derived.Test.YtkafkipjedpohaaGreatDoorM25

/-
  Package upshiftlaw: values, outcome, state: of what is the same.
-/
namespace Go.Proofs.YtkafkipjedpohaaGreatDoor
open Go.RowKit

set_option maxRecDepth 100000 in
set_option maxHeartbeats 1000000 in
theorem valuesLT (w : World) (v u : Value) (l : List V) (h1 : ArgsIn w v l) (h2 : ArgsIn w u l) (hl : l.length ≤ 200000) :
    Calls Tryz.prog 80 #[v, u] w fun e w' => e = .returned (.bool true) ∧ ∃ k, w' = w.drewN k := by
  obtain ⟨p1, c1, rfl⟩ := h1.any
  obtain ⟨p2, c2, rfl⟩ := h2.any
  have HA := hid (And.intro h1 h2)
  clear h1 h2
  generalize hn : l.length = n at *
  have HN := hid hn
  clear hn
  go_enter Tryz.func80, Tryz.ntmps80
  go_wp2
  go_loopw [5] (fun v wr => ∃ j : Nat, j ≤ n ∧ v = .int .i64 j ∧ ∃ k, wr = w.drewN k) (fun v _ => n - (intOf v).toNat)
  case atStart => exact ⟨0, by omega, rfl, 0, rfl⟩
  case round =>
    obtain ⟨j, hj, rfl, k, hk⟩ := hrel
    subst hk
    by_cases hlt : j < n
    · have hdec : decide ((j : Int) < (n : Int)) = true := by simp; omega
      obtain ⟨b1, e1, x0, x1⟩ := HA.out.1.at_ (i := j) (by rw [HN.out]; exact hlt)
      obtain ⟨b2, e2, y0, y1⟩ := HA.out.2.at_ (i := j) (by rw [HN.out]; exact hlt)
      subst e1 e2
      have i0 : (0 : Int) ≤ (j : Int) := by omega
      have i1 : (j : Int) < (n : Int) := by omega
      generalize l.getD j vnil = x at *
      have hne := neqVal x
      go_wp2_with fail
      go_quiet (fail)
      go_wp2
      exact ⟨⟨j + 1, by omega, by go_num, _, rfl⟩, by simp [intOf]; omega⟩
    · have hdec : decide ((j : Int) < (n : Int)) = false := by simp; omega
      go_wp2
      go_ret
      exact ⟨rfl, k, rfl⟩

theorem valuesL (w : World) (v u : Value) (l : List V) (h1 : ArgsIn w v l) (h2 : ArgsIn w u l) (hl : l.length ≤ 200000) :
    Calls Tryz.prog 80 #[v, u] w fun e w' => e = .returned (.bool true) ∧ Below w.heap.size w w' := by
  refine (valuesLT w v u l h1 h2 hl).mono ?_
  rintro e w' ⟨rfl, k, rfl⟩
  exact ⟨rfl, below_drewN (Below.refl _ _) _⟩


set_option maxRecDepth 100000 in
set_option maxHeartbeats 1000000 in
theorem outcomeL (w : World) (B rb : Nat) (A : Ad) (s : Mc) (v : Value) (hL : LayA w B rb A s) (h1 : ArgsIn w v s.out) (hl : s.out.length ≤ 200000) :
    Calls Tryz.prog 56 #[OutcomeV s.fin s v, .pointer (some ⟨rb, 0, none⟩)] w fun e w' => e = .returned (.bool true) ∧ Below w.heap.size w w' := by
  have h2 : ArgsIn w A.ov s.out := (Lay.out hL).args
  obtain ⟨p1, c1, rfl⟩ := h1.any
  obtain ⟨p2, c2, hov⟩ := h2.any
  have k3 : w.cell? ⟨rb, 3, none⟩ = some (.slice p2 s.out.length c2) := by rw [Lay.cell hL 3, ← hov]; rfl
  have k4 : w.cell? ⟨rb, 4, none⟩ = some (.int .i64 s.gives.k) := Lay.cell hL 4
  have k5 : w.cell? ⟨rb, 5, none⟩ = some (.int .i64 s.gives.n) := Lay.cell hL 5
  have k6 : w.cell? ⟨rb, 6, none⟩ = some (.int .i64 s.steps) := Lay.cell hL 6
  have k7 : w.cell? ⟨rb, 7, none⟩ = some (.int .i64 s.fin) := Lay.cell hL 7
  have hrz := Lay.lt hL
  rw [hov] at h2
  unfold OutcomeV
  generalize s.gives = g at *
  generalize s.fin = en at *
  obtain ⟨st, hst⟩ : ∃ st : Int, st = (s.steps : Int) := ⟨_, rfl⟩
  rw [← hst] at k6 ⊢
  have e1 : (en == en) = true := by simp
  have e2 : (st == st) = true := by simp
  have e3 := eqlVal g g true (by simp)
  have hW : Below w.heap.size w (w.alloc (.cells #[.int .i64 en, .int .i64 st, .int .i64 g.k, .int .i64 g.n, .slice p1 s.out.length c1] 46)) := (Below.refl _ _).alloc (Nat.le_refl _) _
  have r1 : (w.alloc (.cells #[.int .i64 en, .int .i64 st, .int .i64 g.k, .int .i64 g.n, .slice p1 s.out.length c1] 46)).heap[w.heap.size]? = some (.cells #[.int .i64 en, .int .i64 st, .int .i64 g.k, .int .i64 g.n, .slice p1 s.out.length c1] 46 (0, 0)) := Go.Deep.blk_alloc_new _ _
  have HV := hid (And.intro (h1.below hW) (h2.below hW))
  have HW := hid (And.intro hW r1)
  have a4 : (w.alloc (.cells #[.int .i64 en, .int .i64 st, .int .i64 g.k, .int .i64 g.n, .slice p1 s.out.length c1] 46)).cell? ⟨w.heap.size, 4, none⟩ = some (.slice p1 s.out.length c1) := (cell_heap r1).trans rfl
  have kk : ∀ i v, w.cell? ⟨rb, i, none⟩ = some v → (w.alloc (.cells #[.int .i64 en, .int .i64 st, .int .i64 g.k, .int .i64 g.n, .slice p1 s.out.length c1] 46)).cell? ⟨rb, i, none⟩ = some v := fun i v h => (hW.cell (p := ⟨rb, i, none⟩) hrz).trans h
  have a3 := kk 3 _ k3
  have HK := hid (And.intro (kk 4 _ k4) (And.intro (kk 5 _ k5) (And.intro (kk 6 _ k6) (kk 7 _ k7))))
  have hrz2 : rb < (w.alloc (.cells #[.int .i64 en, .int .i64 st, .int .i64 g.k, .int .i64 g.n, .slice p1 s.out.length c1] 46)).heap.size := by simp; omega
  have hoz : w.heap.size < (w.alloc (.cells #[.int .i64 en, .int .i64 st, .int .i64 g.k, .int .i64 g.n, .slice p1 s.out.length c1] 46)).heap.size := by simp
  clear h1 h2 hW r1 k3 k4 k5 k6 k7 kk hL hst hov
  go_enter Tryz.func56, Tryz.ntmps56
  go_wp2_with fail
  generalize w.alloc (.cells #[.int .i64 en, .int .i64 st, .int .i64 g.k, .int .i64 g.n, .slice p1 s.out.length c1] 46) = W at *
  refine region_lex (fun w' => w'.cell? ⟨w.heap.size, 4, none⟩ = some (.slice p1 s.out.length c1) ∧ w'.cell? ⟨rb, 3, none⟩ = some (.slice p2 s.out.length c2)) [(false, 0), (false, 1), (false, 2), (false, 3), (false, 4), (false, 5), (true, 6), (false, 7)] (by kernel_rfl) (by kernel_rfl) (panic_frame _ _ _) ⟨a4, a3⟩ ?_
  simp only [lexL, List.getElem?_cons_zero, List.getElem?_cons_succ]
  iterate 6 (refine lexW_free (by rfl) (by intro w' hS'; obtain ⟨o0, o1⟩ := hS'; go_simp; exact rfl) ?_; simp only [Act.put, List.setIfInBounds_toArray, List.set_cons_zero, List.set_cons_succ])
  refine lexW_sole (fun K hK => ?_)
  go_simp
  refine (valuesL W.drew _ _ s.out (HV.out.1.below (Below.refl _ _).drew) (HV.out.2.below (Below.refl _ _).drew) hl).mono ?_
  rintro e w2 ⟨rfl, hB2⟩
  refine hK.out _ _ ⟨(hB2.cell (p := ⟨w.heap.size, 4, none⟩) hoz).trans a4, (hB2.cell (p := ⟨rb, 3, none⟩) hrz2).trans a3⟩ ?_
  clear hK K
  refine lexW_free (by rfl) (by intro w' hS'; go_simp; exact rfl) ?_
  simp only [Act.put, List.setIfInBounds_toArray, List.set_cons_zero, List.set_cons_succ]
  refine lexW_done ?_
  obtain ⟨hW, r1⟩ := HW.out
  have q1 := (hB2.block _ (heap_lt r1)).trans r1
  have x0 : w2.cell? ⟨w.heap.size, 0, none⟩ = some (.int .i64 en) := (cell_heap q1).trans rfl
  have x1 : w2.cell? ⟨w.heap.size, 1, none⟩ = some (.int .i64 st) := (cell_heap q1).trans rfl
  have x2 : w2.cell? ⟨w.heap.size, 2, none⟩ = some (.int .i64 g.k) := (cell_heap q1).trans rfl
  have x3 : w2.cell? ⟨w.heap.size, 3, none⟩ = some (.int .i64 g.n) := (cell_heap q1).trans rfl
  obtain ⟨k4, k5, k6, k7⟩ := HK.out
  have y4 := (hB2.cell (p := ⟨rb, 4, none⟩) hrz2).trans k4
  have y5 := (hB2.cell (p := ⟨rb, 5, none⟩) hrz2).trans k5
  have y6 := (hB2.cell (p := ⟨rb, 6, none⟩) hrz2).trans k6
  have y7 := (hB2.cell (p := ⟨rb, 7, none⟩) hrz2).trans k7
  have HB := hid (hW.trans ((show Below W.heap.size W w2 from (Below.refl _ _).drew.trans hB2).mono hW.size))
  clear hW r1 q1 hB2 HW HV HK k4 k5 k6 k7 a3 a4
  go_wp2_with fail
  go_quiet (fail)
  go_wp2
  go_ret
  exact ⟨rfl, below_drewN HB.out _⟩

/-- Frames, arrays as they are read. -/
def FrIn (w : World) (p : Option Addr) (fr : Nat → Fr) (n : Nat) : Prop :=
  ∃ LV SV : Nat → Value, ∀ i, i < n → ∃ b, p = some ⟨b, 0, none⟩ ∧ b < w.heap.size ∧ w.cell? ⟨b, i * 4, none⟩ = some (.int .i64 (fr i).fn) ∧ w.cell? ⟨b, i * 4 + 1, none⟩ = some (.int .i64 (fr i).pc) ∧ w.cell? ⟨b, i * 4 + 2, none⟩ = some (LV i) ∧ w.cell? ⟨b, i * 4 + 3, none⟩ = some (SV i) ∧ ArgsIn w (LV i) (fr i).loc ∧ ArgsIn w (SV i) (fr i).stk.reverse
def ArIn (w : World) (p : Option Addr) (arr : List (List V)) (n : Nat) : Prop :=
  ∃ AV : Nat → Value, ∀ i, i < n → ∃ b, p = some ⟨b, 0, none⟩ ∧ b < w.heap.size ∧ w.cell? ⟨b, i, none⟩ = some (AV i) ∧ ArgsIn w (AV i) (arr.getD i [])
theorem FrIn.below {w w' : World} {p : Option Addr} {fr : Nat → Fr} {n : Nat} (h : FrIn w p fr n) (k : Below w.heap.size w w') : FrIn w' p fr n := by
  obtain ⟨LV, SV, h⟩ := h
  refine ⟨LV, SV, fun i hi => ?_⟩
  obtain ⟨b, e, hz, h0, h1, h2, h3, h4, h5⟩ := h i hi
  exact ⟨b, e, Nat.lt_of_lt_of_le hz k.size, (k.cell (p := ⟨b, _, none⟩) hz).trans h0, (k.cell (p := ⟨b, _, none⟩) hz).trans h1, (k.cell (p := ⟨b, _, none⟩) hz).trans h2, (k.cell (p := ⟨b, _, none⟩) hz).trans h3, h4.below k, h5.below k⟩
theorem ArIn.below {w w' : World} {p : Option Addr} {arr : List (List V)} {n : Nat} (h : ArIn w p arr n) (k : Below w.heap.size w w') : ArIn w' p arr n := by
  obtain ⟨AV, h⟩ := h
  refine ⟨AV, fun i hi => ?_⟩
  obtain ⟨b, e, hz, h0, h4⟩ := h i hi
  exact ⟨b, e, Nat.lt_of_lt_of_le hz k.size, (k.cell (p := ⟨b, _, none⟩) hz).trans h0, h4.below k⟩
theorem rev_args {w : World} {B : Nat} {tag : Nat → Nat} {c : Nat} {v : Value} {l : List V} (h : Row w B tag c 43 2 v l.length (vcell l.reverse)) : ArgsIn w v l.reverse := by
  have : Row w B tag c 43 2 v l.reverse.length (vcell l.reverse) := by rw [List.length_reverse]; exact h
  exact this.args
theorem FrsOut.frin {w : World} {B k : Nat} {tag : Nat → Nat} {p : Option Addr} {n c : Nat} {LV SV : Nat → Value} {fr : Nat → Fr} (h : FrsOut w B tag (.slice p n c) LV SV fr k) : FrIn w p fr k := by
  refine ⟨LV, SV, fun i hi => ?_⟩
  obtain ⟨b, e, hz, h0, h1, h2, h3⟩ := h.at_ hi
  exact ⟨b, e, hz, h0, h1, h2, h3, (h.loc i hi).args, rev_args (h.stk i hi)⟩
theorem ArsOut.arin {w : World} {B k : Nat} {tag : Nat → Nat} {p : Option Addr} {n c : Nat} {AV : Nat → Value} {arr : List (List V)} (h : ArsOut w B tag (.slice p n c) AV arr k) : ArIn w p arr k := by
  refine ⟨AV, fun i hi => ?_⟩
  obtain ⟨b, e, hz, h0⟩ := h.at_ hi
  exact ⟨b, e, hz, h0, (h.arr i hi).args⟩
theorem LayA.frin {w : World} {B rb : Nat} {A : Ad} {s : Mc} (h : LayA w B rb A s) : ∃ p c, A.fv = .slice p s.fr.length c ∧ FrIn w p (frAt s.fr) s.fr.length := by
  have hr := Lay.fr h
  obtain ⟨p, c, e⟩ : ∃ p c, A.fv = .slice p s.fr.length c := by
    rcases hr with ⟨h1, h2⟩ | ⟨b, cap, cur, h1, _⟩
    · exact ⟨none, 0, by rw [h1, h2]⟩
    · exact ⟨_, _, h1⟩
  refine ⟨p, c, e, A.LV, A.SV, fun i hi => ?_⟩
  rw [e] at hr
  obtain ⟨b, cap, e2, _, hz, _, _⟩ := hr.form (by omega)
  injection e2 with e1 _ e3
  subst e1
  refine ⟨b, rfl, hz, (hr.cell (i := i * 4) (by omega)).trans (by rw [fcell_fn]), (hr.cell (i := i * 4 + 1) (by omega)).trans (by rw [fcell_pc]), (hr.cell (i := i * 4 + 2) (by omega)).trans (by rw [fcell_loc]), (hr.cell (i := i * 4 + 3) (by omega)).trans (by rw [fcell_stk]), (Lay.loc h i hi).args, rev_args (Lay.stk h i hi)⟩
theorem LayA.arin {w : World} {B rb : Nat} {A : Ad} {s : Mc} (h : LayA w B rb A s) : ∃ p c, A.av = .slice p s.arr.length c ∧ ArIn w p s.arr s.arr.length := by
  have hr := Lay.ar h
  obtain ⟨p, c, e⟩ : ∃ p c, A.av = .slice p s.arr.length c := by
    rcases hr with ⟨h1, h2⟩ | ⟨b, cap, cur, h1, _⟩
    · exact ⟨none, 0, by rw [h1, h2]⟩
    · exact ⟨_, _, h1⟩
  refine ⟨p, c, e, A.AV, fun i hi => ?_⟩
  rw [e] at hr
  obtain ⟨b, cap, e2, _, hz, _, _⟩ := hr.form (by omega)
  injection e2 with e1 _ e3
  subst e1
  exact ⟨b, rfl, hz, hr.cell (i := i) (by omega), (Lay.arr h i hi).args⟩
end Go.Proofs.YtkafkipjedpohaaGreatDoor

/-
  upshiftlaw.state: the walk.
-/
namespace Go.Proofs.YtkafkipjedpohaaGreatDoor
open Go.RowKit

set_option maxRecDepth 100000 in
set_option maxHeartbeats 2000000 in
theorem stateL (w : World) (B rb : Nat) (A : Ad) (s : Mc) (p1 p2 : Option Addr) (c1 c2 : Nat) (hL : LayA w B rb A s) (hf : FrIn w p1 (frAt s.fr) s.fr.length) (ha : ArIn w p2 s.arr s.arr.length) (hn : s.fr.length ≤ 1000) (har : s.arr.length ≤ 200000) (hls : ∀ i, i < s.fr.length → (frAt s.fr i).loc.length ≤ 200000 ∧ (frAt s.fr i).stk.length ≤ 200000) (hal : ∀ j, j < s.arr.length → (s.arr.getD j []).length ≤ 200000) :
    Calls Tryz.prog 59 #[.agg #[.slice p1 s.fr.length c1, .slice p2 s.arr.length c2], .pointer (some ⟨rb, 0, none⟩)] w fun e w' => e = .returned (.bool true) ∧ Below w.heap.size w w' := by
  obtain ⟨q1, d1, hfv, hf2⟩ := hL.frin
  obtain ⟨q2, d2, hav, ha2⟩ := hL.arin
  have k1 : w.cell? ⟨rb, 1, none⟩ = some (.slice q1 s.fr.length d1) := by rw [Lay.cell hL 1, ← hfv]; rfl
  have k2 : w.cell? ⟨rb, 2, none⟩ = some (.slice q2 s.arr.length d2) := by rw [Lay.cell hL 2, ← hav]; rfl
  have hrz := Lay.lt hL
  generalize hfr : frAt s.fr = fr at *
  generalize harr : s.arr = arr at *
  generalize hnf : s.fr.length = nf at *
  generalize hna : arr.length = na at *
  have hW : Below w.heap.size w (w.alloc (.cells #[.slice p1 nf c1, .slice p2 na c2] 53)) := (Below.refl _ _).alloc (Nat.le_refl _) _
  have r1 : (w.alloc (.cells #[.slice p1 nf c1, .slice p2 na c2] 53)).heap[w.heap.size]? = some (.cells #[.slice p1 nf c1, .slice p2 na c2] 53 (0, 0)) := Go.Deep.blk_alloc_new _ _
  have HF := hid (And.intro hf (And.intro hf2 (And.intro ha (And.intro ha2 (And.intro hls hal)))))
  have a0 : (w.alloc (.cells #[.slice p1 nf c1, .slice p2 na c2] 53)).cell? ⟨w.heap.size, 0, none⟩ = some (.slice p1 nf c1) := (cell_heap r1).trans rfl
  have a1 : (w.alloc (.cells #[.slice p1 nf c1, .slice p2 na c2] 53)).cell? ⟨w.heap.size, 1, none⟩ = some (.slice p2 na c2) := (cell_heap r1).trans rfl
  have b1 := (hW.cell (p := ⟨rb, 1, none⟩) hrz).trans k1
  have b2 := (hW.cell (p := ⟨rb, 2, none⟩) hrz).trans k2
  have HW := hid (And.intro hW (And.intro r1 (And.intro b1 b2)))
  have e1 : (nf != nf) = false := by simp
  have e2 : (na != na) = false := by simp
  clear hf hf2 ha ha2 hls hal hL hfv hav k1 k2 hfr harr hnf hna hW r1
  go_enter Tryz.func59, Tryz.ntmps59
  go_wp2_with fail
  have hoz : w.heap.size < (w.alloc (.cells #[.slice p1 nf c1, .slice p2 na c2] 53)).heap.size := by simp
  have hrz2 : rb < (w.alloc (.cells #[.slice p1 nf c1, .slice p2 na c2] 53)).heap.size := by simp; omega
  generalize w.alloc (.cells #[.slice p1 nf c1, .slice p2 na c2] 53) = W at *
  go_quiet (fail)
  go_wp2
  go_loopw [5] (fun v wr => ∃ j : Nat, j ≤ nf ∧ v = .int .i64 j ∧ Below W.heap.size W wr) (fun v _ => nf - (intOf v).toNat)
  case atStart => exact ⟨0, by omega, rfl, below_drewN (Below.refl _ _) _⟩
  case round =>
    clear a0 a1 b1 b2
    obtain ⟨j, hj, rfl, hBr⟩ := hrel
    obtain ⟨hW, r1, b1, b2⟩ := HW.out
    have s0 := (hBr.block _ (heap_lt r1)).trans r1
    have a0 : wr.cell? ⟨w.heap.size, 0, none⟩ = some (.slice p1 nf c1) := (cell_heap s0).trans rfl
    have a1 : wr.cell? ⟨w.heap.size, 1, none⟩ = some (.slice p2 na c2) := (cell_heap s0).trans rfl
    have x1 := (hBr.cell (p := ⟨rb, 1, none⟩) hrz2).trans b1
    have x2 := (hBr.cell (p := ⟨rb, 2, none⟩) hrz2).trans b2
    have hWr : Below w.heap.size w wr := hW.trans (hBr.mono hW.size)
    have hz0 := heap_lt s0
    have hzr : rb < wr.heap.size := by have := hBr.size; omega
    by_cases hlt : j < nf
    · have hdec : decide ((j : Int) < (nf : Int)) = true := by simp; omega
      obtain ⟨LV1, SV1, hf1⟩ := HF.out.1.below hWr
      obtain ⟨LV2, SV2, hf2⟩ := HF.out.2.1.below hWr
      obtain ⟨f1, e1', fz1, m0, m1, m2, m3, g1, g3⟩ := hf1 j hlt
      obtain ⟨f2, e2', fz2, n0, n1, n2, n3, g2, g4⟩ := hf2 j hlt
      subst e1' e2'
      obtain ⟨hl1, hl2⟩ := HF.out.2.2.2.2.1 j hlt
      obtain ⟨lp1, lc1, el1⟩ := g1.any
      obtain ⟨lp2, lc2, el2⟩ := g2.any
      obtain ⟨sp1, sc1, es1⟩ := g3.any
      obtain ⟨sp2, sc2, es2⟩ := g4.any
      rw [el1] at m2 g1
      rw [el2] at n2 g2
      rw [es1] at m3 g3
      rw [es2] at n3 g4
      generalize fr j = f at *
      generalize hfn : (f.fn : Int) = ffn at *
      generalize hpc : (f.pc : Int) = fpc at *
      generalize hsl : f.stk.reverse.length = sl at *
      obtain ⟨X, hXd⟩ : ∃ X, X = (wr.alloc (.cells #[.int .i64 ffn, .int .i64 fpc, .slice lp1 f.loc.length lc1, .slice sp1 sl sc1] 73)).alloc (.cells #[.int .i64 ffn, .int .i64 fpc, .slice lp2 f.loc.length lc2, .slice sp2 sl sc2] 73) := ⟨_, rfl⟩
      have hX : Below wr.heap.size wr X := by rw [hXd]; exact ((Below.refl _ _).alloc (Nat.le_refl _) _).alloc (by simp) _
      have y1 : X.heap[wr.heap.size]? = some (.cells #[.int .i64 ffn, .int .i64 fpc, .slice lp1 f.loc.length lc1, .slice sp1 sl sc1] 73 (0, 0)) := by
        rw [hXd]; exact (Below.heap_alloc _ _ _ (by simp)).trans (Go.Deep.blk_alloc_new _ _)
      have y2 : X.heap[wr.heap.size + 1]? = some (.cells #[.int .i64 ffn, .int .i64 fpc, .slice lp2 f.loc.length lc2, .slice sp2 sl sc2] 73 (0, 0)) := by
        rw [hXd]
        have := Go.Deep.blk_alloc_new (wr.alloc (.cells #[.int .i64 ffn, .int .i64 fpc, .slice lp1 f.loc.length lc1, .slice sp1 sl sc1] 73)) (.cells #[.int .i64 ffn, .int .i64 fpc, .slice lp2 f.loc.length lc2, .slice sp2 sl sc2] 73)
        simpa using this
      have HG := hid (And.intro (g1.below hX) (And.intro (g2.below hX) (And.intro (g3.below hX) (g4.below hX))))
      have HY := hid (And.intro hX (And.intro y1 (And.intro y2 hBr)))
      have HD := hid (And.intro hXd hsl)
      have i0 : (0 : Int) ≤ (j : Int) := by omega
      have i1 : (j : Int) < (nf : Int) := by omega
      have e0 : (ffn != ffn) = false := by simp
      have e0' : (fpc != fpc) = false := by simp
      clear hf1 hf2 g1 g2 g3 g4 el1 el2 es1 es2 hfn hpc hsl hXd hX y1 y2 hBr hWr hW r1 b1 b2 s0 a1 x2
      go_wp2_with fail
      rw [← HD.out.1]
      refine (valuesL X _ _ f.loc HG.out.1 HG.out.2.1 hl1).mono ?_
      rintro e w3 ⟨rfl, hB3⟩
      obtain ⟨hX, y1, y2, hBr⟩ := HY.out
      have z1 := (hB3.block _ (heap_lt y1)).trans y1
      have z2 := (hB3.block _ (heap_lt y2)).trans y2
      have u3 : w3.cell? ⟨wr.heap.size, 3, none⟩ = some (.slice sp1 sl sc1) := (cell_heap z1).trans rfl
      have v3 : w3.cell? ⟨wr.heap.size + 1, 3, none⟩ = some (.slice sp2 sl sc2) := (cell_heap z2).trans rfl
      have hv := valuesL w3 _ _ f.stk.reverse (HG.out.2.2.1.below hB3) (HG.out.2.2.2.below hB3) (by rw [List.length_reverse]; exact hl2)
      have HV := hid hv
      have HZ := hid (And.intro z1 (And.intro z2 (hBr.trans ((hX.trans (hB3.mono hX.size)).mono hBr.size))))
      clear hX y1 y2 hBr z1 z2 hB3 HY HG HD hv m0 m1 m2 m3 n0 n1 n2 n3
      go_wp2_with fail
      refine HV.out.mono ?_
      rintro e w4 ⟨rfl, hB4⟩
      obtain ⟨z1, z2, hBr⟩ := HZ.out
      have z3 := (hB4.block _ (heap_lt z1)).trans z1
      have z4 := (hB4.block _ (heap_lt z2)).trans z2
      have u0 : w4.cell? ⟨wr.heap.size, 0, none⟩ = some (.int .i64 ffn) := (cell_heap z3).trans rfl
      have u1 : w4.cell? ⟨wr.heap.size, 1, none⟩ = some (.int .i64 fpc) := (cell_heap z3).trans rfl
      have v0 : w4.cell? ⟨wr.heap.size + 1, 0, none⟩ = some (.int .i64 ffn) := (cell_heap z4).trans rfl
      have v1 : w4.cell? ⟨wr.heap.size + 1, 1, none⟩ = some (.int .i64 fpc) := (cell_heap z4).trans rfl
      have HB := hid (hBr.trans (hB4.mono hBr.size))
      clear z1 z2 z3 z4 hBr hB4 HZ HV u3 v3
      go_wp2
      exact ⟨⟨j + 1, by omega, by go_num, HB.out⟩, by simp [intOf]; omega⟩
    · have hdec : decide ((j : Int) < (nf : Int)) = false := by simp; omega
      have HB0 := hid hBr
      clear hBr hW r1 b1 b2 s0 hWr x1 x2
      go_wp2
      clear a0 a1
      go_loopw [10] (fun v wr => ∃ i : Nat, i ≤ na ∧ v = .int .i64 i ∧ Below W.heap.size W wr) (fun v _ => na - (intOf v).toNat)
      case atStart => exact ⟨0, by omega, rfl, HB0.out⟩
      case round =>
        clear HB0
        obtain ⟨i, hi, rfl, hBr⟩ := hrel
        obtain ⟨hW, r1, b1, b2⟩ := HW.out
        have s0 := (hBr.block _ (heap_lt r1)).trans r1
        have a1 : wr.cell? ⟨w.heap.size, 1, none⟩ = some (.slice p2 na c2) := (cell_heap s0).trans rfl
        have x2 := (hBr.cell (p := ⟨rb, 2, none⟩) hrz2).trans b2
        have hWr : Below w.heap.size w wr := hW.trans (hBr.mono hW.size)
        have hz0 := heap_lt s0
        have hzr : rb < wr.heap.size := by have := hBr.size; omega
        by_cases hlt : i < na
        · have hdec : decide ((i : Int) < (na : Int)) = true := by simp; omega
          obtain ⟨AV1, hf1⟩ := HF.out.2.2.1.below hWr
          obtain ⟨AV2, hf2⟩ := HF.out.2.2.2.1.below hWr
          obtain ⟨f1, e1', fz1, m0, g1⟩ := hf1 i hlt
          obtain ⟨f2, e2', fz2, n0, g2⟩ := hf2 i hlt
          subst e1' e2'
          have hl1 := HF.out.2.2.2.2.2 i hlt
          obtain ⟨lp1, lc1, el1⟩ := g1.any
          obtain ⟨lp2, lc2, el2⟩ := g2.any
          rw [el1] at m0 g1
          rw [el2] at n0 g2
          generalize arr.getD i [] = l at *
          have i0 : (0 : Int) ≤ (i : Int) := by omega
          have i1 : (i : Int) < (na : Int) := by omega
          have HG := hid (And.intro g1 (And.intro g2 hBr))
          clear hf1 hf2 g1 g2 el1 el2 hBr hWr hW r1 b1 b2 s0
          go_wp2_with fail
          refine region_lex (fun w' => w'.cell? ⟨w.heap.size, 1, none⟩ = some (.slice (some ⟨f1, 0, none⟩) na c2) ∧ w'.cell? ⟨rb, 2, none⟩ = some (.slice (some ⟨f2, 0, none⟩) na d2) ∧ w'.cell? ⟨f1, i, none⟩ = some (.slice lp1 l.length lc1) ∧ w'.cell? ⟨f2, i, none⟩ = some (.slice lp2 l.length lc2)) [(false, 0), (false, 1), (false, 2), (false, 3), (false, 4), (false, 5), (false, 6), (false, 7), (false, 8), (false, 9), (false, 10), (false, 11), (false, 12), (true, 13), (false, 14)] (by kernel_rfl) (by kernel_rfl) (fun c0 a0 d0 v0 x0 h0 => panic_body (P := Tryz.prog) Tryz.f59 (fun e w' => e = .returned (.bool true) ∧ Below w.heap.size w w') c0 a0 d0 v0 x0 h0) ⟨a1, x2, m0, n0⟩ ?_
          simp only [lexL, List.getElem?_cons_zero, List.getElem?_cons_succ]
          iterate 13 (refine lexW_free (by rfl) (by intro w' hS'; obtain ⟨o0, o1, o2, o3⟩ := hS'; go_simp; exact rfl) ?_; simp only [Act.put, List.setIfInBounds_toArray, List.set_cons_zero, List.set_cons_succ])
          refine lexW_sole (fun K hK => ?_)
          go_simp
          refine (valuesL wr.drew _ _ l (HG.out.1.below (Below.refl _ _).drew) (HG.out.2.1.below (Below.refl _ _).drew) hl1).mono ?_
          rintro e w3 ⟨rfl, hB3⟩
          have cc : ∀ a : Addr, a.block < wr.heap.size → w3.cell? a = wr.cell? a := fun a ha => hB3.cell (p := a) ha
          refine hK.out _ _ ⟨(cc ⟨w.heap.size, _, none⟩ hz0).trans a1, (cc ⟨rb, _, none⟩ hzr).trans x2, (cc ⟨f1, _, none⟩ fz1).trans m0, (cc ⟨f2, _, none⟩ fz2).trans n0⟩ ?_
          clear hK K cc
          have HB := hid (HG.out.2.2.drew.trans (hB3.mono (by exact HG.out.2.2.size)))
          clear hB3 HG a1 x2 m0 n0
          refine lexW_free (by rfl) (by intro w' hS'; go_simp; exact rfl) ?_
          simp only [Act.put, List.setIfInBounds_toArray, List.set_cons_zero, List.set_cons_succ]
          refine lexW_done ?_
          go_wp2
          exact ⟨⟨i + 1, by omega, by go_num, HB.out⟩, by simp [intOf]; omega⟩
        · have hdec : decide ((i : Int) < (na : Int)) = false := by simp; omega
          have HB := hid hWr
          clear hBr hW r1 b1 b2 s0 hWr x2
          go_wp2
          go_ret
          exact ⟨rfl, HB.out⟩
end Go.Proofs.YtkafkipjedpohaaGreatDoor
