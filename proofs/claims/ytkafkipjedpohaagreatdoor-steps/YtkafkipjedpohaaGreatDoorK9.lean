import Derived.Test.YtkafkipjedpohaaGreatDoorM30
import Derived.Test.YtkafkipjedpohaaGreatDoorK8

/-
  Package upshiftkeep: values, alike, stands: of what is the same.
-/
namespace Go.Proofs.YtkafkipjedpohaaGreatDoor
open Go.RowKit

theorem Row.args {w : World} {B : Nat} {tag : Nat → Nat} {c : Nat} {v : Value} {l : List V} (h : Row w B tag c 43 2 v l.length (vcell l)) : ArgsIn w v l := by
  rcases h with ⟨rfl, h0⟩ | ⟨b, cap, cur, rfl, hb, ht, hh, hc, hm, hs, hf⟩
  · exact Or.inl ⟨List.length_eq_zero_iff.1 h0, none, 0, rfl⟩
  · exact Or.inr ⟨b, cap, rfl, heap_lt hh, fun i hi => (cell_heap hh).trans (hf i hi)⟩

theorem ArgsIn.any {w : World} {v : Value} {l : List V} (h : ArgsIn w v l) : ∃ p c, v = .slice p l.length c := by
  rcases h with ⟨rfl, a, c, rfl⟩ | ⟨ab, c, rfl, _⟩
  · exact ⟨a, c, rfl⟩
  · exact ⟨_, c, rfl⟩
theorem ArgsIn.at_ {w : World} {p : Option Addr} {c n : Nat} {l : List V} (h : ArgsIn w (.slice p n c) l) {i : Nat} (hi : i < l.length) : ∃ b, p = some ⟨b, 0, none⟩ ∧ w.cell? ⟨b, i * 2, none⟩ = some (.int .i64 (l.getD i vnil).k) ∧ w.cell? ⟨b, i * 2 + 1, none⟩ = some (.int .i64 (l.getD i vnil).n) := by
  rcases h with ⟨rfl, _⟩ | ⟨ab, c, e, _, hf⟩
  · simp at hi
  · injection e with e1 e2 e3
    refine ⟨ab, e1, (hf (i * 2) (by omega)).trans ?_, (hf (i * 2 + 1) (by omega)).trans ?_⟩
    · unfold vcell
      rw [if_pos (by omega), show i * 2 / 2 = i by omega]
    · unfold vcell
      rw [if_neg (by omega), show (i * 2 + 1) / 2 = i by omega]
theorem ArgsIn.below {w w' : World} {v : Value} {l : List V} (h : ArgsIn w v l) (k : Below w.heap.size w w') : ArgsIn w' v l := by
  rcases h with h | ⟨ab, c, rfl, hab, hf⟩
  · exact Or.inl h
  · exact Or.inr ⟨ab, c, rfl, by have := k.size; omega, fun i hi => (k.cell (p := ⟨ab, i, none⟩) hab).trans (hf i hi)⟩

theorem neqVal (a : V) (X : World) : (binOp .neq 43 (.agg #[.int .i64 a.k, .int .i64 a.n]) (.agg #[.int .i64 a.k, .int .i64 a.n])).run Tryz.prog X = .ok (.bool false) X := by
  have e1 : (a.k == a.k) = true := by simp
  have e2 : (a.n == a.n) = true := by simp
  go_simp

set_option maxRecDepth 100000 in
set_option maxHeartbeats 1000000 in
theorem valuesT (w : World) (v u : Value) (l : List V) (h1 : ArgsIn w v l) (h2 : ArgsIn w u l) (hl : l.length ≤ 200000) :
    Calls Tryz.prog 20 #[v, u] w fun e w' => e = .returned (.bool true) ∧ ∃ k, w' = w.drewN k := by
  obtain ⟨p1, c1, rfl⟩ := h1.any
  obtain ⟨p2, c2, rfl⟩ := h2.any
  have HA := hid (And.intro h1 h2)
  clear h1 h2
  generalize hn : l.length = n at *
  have HN := hid hn
  clear hn
  go_enter Tryz.func20, Tryz.ntmps20
  go_wp2
  go_loopw [5] (fun v wr => ∃ j : Nat, j ≤ n ∧ v = .int .i64 j ∧ ∃ k, wr = w.drewN k) (fun v _ => n - (intOf v).toNat)
  case atStart => exact ⟨0, by omega, rfl, 0, rfl⟩
  case round =>
    obtain ⟨j, hj, rfl, k, hk⟩ := hrel
    subst hk
    by_cases hlt : j < n
    · have hdec : decide ((j : Int) < (n : Int)) = true := by simp; omega
      obtain ⟨b1, e1, x0, x1⟩ := HA.out.1.at_ (i := j) (by rw [HN.out]; exact hlt)
      obtain ⟨b2, e2, y0, y1⟩ := HA.out.2.at_ (i := j) (by rw [HN.out]; exact hlt)
      subst e1 e2
      have i0 : (0 : Int) ≤ (j : Int) := by omega
      have i1 : (j : Int) < (n : Int) := by omega
      generalize l.getD j vnil = x at *
      have hne := neqVal x
      go_wp2_with fail
      go_quiet (fail)
      go_wp2
      exact ⟨⟨j + 1, by omega, by go_num, _, rfl⟩, by simp [intOf]; omega⟩
    · have hdec : decide ((j : Int) < (n : Int)) = false := by simp; omega
      go_wp2
      go_ret
      exact ⟨rfl, k, rfl⟩

theorem valuesB (w : World) (v u : Value) (l : List V) (h1 : ArgsIn w v l) (h2 : ArgsIn w u l) (hl : l.length ≤ 200000) :
    Calls Tryz.prog 20 #[v, u] w fun e w' => e = .returned (.bool true) ∧ Below w.heap.size w w' := by
  refine (valuesT w v u l h1 h2 hl).mono ?_
  rintro e w' ⟨rfl, k, rfl⟩
  exact ⟨rfl, below_drewN (Below.refl _ _) _⟩

set_option maxRecDepth 100000 in
set_option maxHeartbeats 1000000 in
theorem alikeT (w : World) (en st : Int) (g : V) (v u : Value) (l : List V) (h1 : ArgsIn w v l) (h2 : ArgsIn w u l) (hl : l.length ≤ 200000) :
    Calls Tryz.prog 21 #[.agg #[.int .i64 en, .int .i64 st, .int .i64 g.k, .int .i64 g.n, v], .agg #[.int .i64 en, .int .i64 st, .int .i64 g.k, .int .i64 g.n, u]] w fun e w' => e = .returned (.bool true) ∧ Below w.heap.size w w' := by
  obtain ⟨p1, c1, rfl⟩ := h1.any
  obtain ⟨p2, c2, rfl⟩ := h2.any
  have e1 : (en == en) = true := by simp
  have e2 : (st == st) = true := by simp
  have e3 := eqlVal g g true (by simp)
  obtain ⟨W, hWd⟩ : ∃ W, W = (w.alloc (.cells #[.int .i64 en, .int .i64 st, .int .i64 g.k, .int .i64 g.n, .slice p1 l.length c1] 46)).alloc (.cells #[.int .i64 en, .int .i64 st, .int .i64 g.k, .int .i64 g.n, .slice p2 l.length c2] 46) := ⟨_, rfl⟩
  have hW : Below w.heap.size w W := by rw [hWd]; exact ((Below.refl _ _).alloc (Nat.le_refl _) _).alloc (by simp) _
  have r1 : W.heap[w.heap.size]? = some (.cells #[.int .i64 en, .int .i64 st, .int .i64 g.k, .int .i64 g.n, .slice p1 l.length c1] 46 (0, 0)) := by
    rw [hWd]; exact (Below.heap_alloc _ _ _ (by simp)).trans (Go.Deep.blk_alloc_new _ _)
  have r2 : W.heap[w.heap.size + 1]? = some (.cells #[.int .i64 en, .int .i64 st, .int .i64 g.k, .int .i64 g.n, .slice p2 l.length c2] 46 (0, 0)) := by
    rw [hWd]
    have := Go.Deep.blk_alloc_new (w.alloc (.cells #[.int .i64 en, .int .i64 st, .int .i64 g.k, .int .i64 g.n, .slice p1 l.length c1] 46)) (.cells #[.int .i64 en, .int .i64 st, .int .i64 g.k, .int .i64 g.n, .slice p2 l.length c2] 46)
    simpa using this
  have HV := hid (valuesB _ _ _ l (h1.below hW) (h2.below hW) hl)
  have HW := hid (And.intro hW (And.intro r1 r2))
  have HD := hid hWd
  clear h1 h2 hW hWd r1 r2
  generalize l.length = n at *
  go_enter Tryz.func21, Tryz.ntmps21
  go_wp2_with fail
  rw [← HD.out]
  refine HV.out.mono ?_
  rintro e w2 ⟨rfl, hB2⟩
  obtain ⟨hW, r1, r2⟩ := HW.out
  have q1 := (hB2.block _ (heap_lt r1)).trans r1
  have q2 := (hB2.block _ (heap_lt r2)).trans r2
  have HB := hid (hW.trans (hB2.mono hW.size))
  have x0 : w2.cell? ⟨w.heap.size, 0, none⟩ = some (.int .i64 en) := (cell_heap q1).trans rfl
  have x1 : w2.cell? ⟨w.heap.size, 1, none⟩ = some (.int .i64 st) := (cell_heap q1).trans rfl
  have x2 : w2.cell? ⟨w.heap.size, 2, none⟩ = some (.int .i64 g.k) := (cell_heap q1).trans rfl
  have x3 : w2.cell? ⟨w.heap.size, 3, none⟩ = some (.int .i64 g.n) := (cell_heap q1).trans rfl
  have y0 : w2.cell? ⟨w.heap.size + 1, 0, none⟩ = some (.int .i64 en) := (cell_heap q2).trans rfl
  have y1 : w2.cell? ⟨w.heap.size + 1, 1, none⟩ = some (.int .i64 st) := (cell_heap q2).trans rfl
  have y2 : w2.cell? ⟨w.heap.size + 1, 2, none⟩ = some (.int .i64 g.k) := (cell_heap q2).trans rfl
  have y3 : w2.cell? ⟨w.heap.size + 1, 3, none⟩ = some (.int .i64 g.n) := (cell_heap q2).trans rfl
  clear hW r1 r2 q1 q2 hB2 HW HV HD
  go_wp2
  go_ret
  exact ⟨rfl, HB.out⟩

/-- What is read of a frame that went out. -/
theorem FrsOut.at_ {w : World} {B k : Nat} {tag : Nat → Nat} {p : Option Addr} {n c : Nat} {LV SV : Nat → Value} {fr : Nat → Fr} (h : FrsOut w B tag (.slice p n c) LV SV fr k) {i : Nat} (hi : i < k) :
    ∃ b, p = some ⟨b, 0, none⟩ ∧ b < w.heap.size ∧ w.cell? ⟨b, i * 4, none⟩ = some (.int .i64 (fr i).fn) ∧ w.cell? ⟨b, i * 4 + 1, none⟩ = some (.int .i64 (fr i).pc) ∧ w.cell? ⟨b, i * 4 + 2, none⟩ = some (LV i) ∧ w.cell? ⟨b, i * 4 + 3, none⟩ = some (SV i) := by
  have hr := h.row
  obtain ⟨b, cap, e, _, hz, _, _⟩ := hr.form (by omega)
  injection e with e1 e2 e3
  subst e1 e2 e3
  refine ⟨b, rfl, hz, (hr.cell (i := i * 4) (by omega)).trans ?_, (hr.cell (i := i * 4 + 1) (by omega)).trans ?_, (hr.cell (i := i * 4 + 2) (by omega)).trans ?_, (hr.cell (i := i * 4 + 3) (by omega)).trans ?_⟩
  · unfold gcell; rw [if_pos (by omega), show i * 4 / 4 = i by omega]
  · unfold gcell; rw [if_neg (by omega), if_pos (by omega), show (i * 4 + 1) / 4 = i by omega]
  · unfold gcell; rw [if_neg (by omega), if_neg (by omega), if_pos (by omega), show (i * 4 + 2) / 4 = i by omega]
  · unfold gcell; rw [if_neg (by omega), if_neg (by omega), if_neg (by omega), show (i * 4 + 3) / 4 = i by omega]
theorem ArsOut.at_ {w : World} {B k : Nat} {tag : Nat → Nat} {p : Option Addr} {n c : Nat} {AV : Nat → Value} {arr : List (List V)} (h : ArsOut w B tag (.slice p n c) AV arr k) {i : Nat} (hi : i < k) :
    ∃ b, p = some ⟨b, 0, none⟩ ∧ b < w.heap.size ∧ w.cell? ⟨b, i, none⟩ = some (AV i) := by
  have hr := h.row
  obtain ⟨b, cap, e, _, hz, _, _⟩ := hr.form (by omega)
  injection e with e1 e2 e3
  subst e1 e2 e3
  exact ⟨b, rfl, hz, hr.cell (i := i) (by omega)⟩

set_option maxRecDepth 100000 in
set_option maxHeartbeats 2000000 in
theorem standsT (w : World) (B1 B2 : Nat) (t1 t2 : Nat → Nat) (f1 f2 a1 a2 : Value) (L1 S1 V1 L2 S2 V2 : Nat → Value) (fr : Nat → Fr) (n : Nat) (arr : List (List V)) (hf1 : FrsOut w B1 t1 f1 L1 S1 fr n) (hf2 : FrsOut w B2 t2 f2 L2 S2 fr n) (ha1 : ArsOut w B1 t1 a1 V1 arr arr.length) (ha2 : ArsOut w B2 t2 a2 V2 arr arr.length)
    (hn : n ≤ 1000) (har : arr.length ≤ 200000) (hls : ∀ i, i < n → (fr i).loc.length ≤ 200000 ∧ (fr i).stk.length ≤ 200000) (hal : ∀ j, j < arr.length → (arr.getD j []).length ≤ 200000) :
    Calls Tryz.prog 23 #[.agg #[f1, a1], .agg #[f2, a2]] w fun e w' => e = .returned (.bool true) ∧ Below w.heap.size w w' := by
  obtain ⟨fp1, fc1, rfl, _⟩ := hf1.row.any
  obtain ⟨fp2, fc2, rfl, _⟩ := hf2.row.any
  obtain ⟨ap1, ac1, rfl, _⟩ := ha1.row.any
  obtain ⟨ap2, ac2, rfl, _⟩ := ha2.row.any
  generalize hna : arr.length = na at *
  obtain ⟨W, hWd⟩ : ∃ W, W = (w.alloc (.cells #[.slice fp1 n fc1, .slice ap1 na ac1] 53)).alloc (.cells #[.slice fp2 n fc2, .slice ap2 na ac2] 53) := ⟨_, rfl⟩
  have hW : Below w.heap.size w W := by rw [hWd]; exact ((Below.refl _ _).alloc (Nat.le_refl _) _).alloc (by simp) _
  have r1 : W.heap[w.heap.size]? = some (.cells #[.slice fp1 n fc1, .slice ap1 na ac1] 53 (0, 0)) := by
    rw [hWd]; exact (Below.heap_alloc _ _ _ (by simp)).trans (Go.Deep.blk_alloc_new _ _)
  have r2 : W.heap[w.heap.size + 1]? = some (.cells #[.slice fp2 n fc2, .slice ap2 na ac2] 53 (0, 0)) := by
    rw [hWd]
    have := Go.Deep.blk_alloc_new (w.alloc (.cells #[.slice fp1 n fc1, .slice ap1 na ac1] 53)) (.cells #[.slice fp2 n fc2, .slice ap2 na ac2] 53)
    simpa using this
  have HW := hid (And.intro hW (And.intro r1 r2))
  have HD := hid hWd
  have HF := hid (And.intro hf1 (And.intro hf2 (And.intro ha1 (And.intro ha2 (And.intro hls hal)))))
  have HNA := hid hna
  have k1 : (n != n) = false := by simp
  have k2 : (na != na) = false := by simp
  clear hf1 hf2 ha1 ha2 hW hWd r1 r2 hls hal hna
  go_enter Tryz.func23, Tryz.ntmps23
  go_wp2_with fail
  rw [← HD.out]
  go_loopw [5] (fun v wr => ∃ j : Nat, j ≤ n ∧ v = .int .i64 j ∧ Below W.heap.size W wr) (fun v _ => n - (intOf v).toNat)
  case atStart => exact ⟨0, by omega, rfl, Below.refl _ _⟩
  case round =>
    obtain ⟨j, hj, rfl, hBr⟩ := hrel
    obtain ⟨hW, r1, r2⟩ := HW.out
    have q1 := (hBr.block _ (heap_lt r1)).trans r1
    have q2 := (hBr.block _ (heap_lt r2)).trans r2
    have s1 : wr.cell? ⟨w.heap.size, 0, none⟩ = some (.slice fp1 n fc1) := (cell_heap q1).trans rfl
    have s2 : wr.cell? ⟨w.heap.size + 1, 0, none⟩ = some (.slice fp2 n fc2) := (cell_heap q2).trans rfl
    have hWr : Below w.heap.size w wr := hW.trans (hBr.mono hW.size)
    have hz1 := heap_lt q1
    have hz2 := heap_lt q2
    by_cases hlt : j < n
    · have hdec : decide ((j : Int) < (n : Int)) = true := by simp; omega
      obtain ⟨b1, e1, bz1, x0, x1, x2, x3⟩ := HF.out.1.at_ hlt
      obtain ⟨b2, e2, bz2, y0, y1, y2, y3⟩ := HF.out.2.1.at_ hlt
      subst e1 e2
      have g1 := ((HF.out.1.loc j hlt).args).below hWr
      have g2 := ((HF.out.2.1.loc j hlt).args).below hWr
      have g3 := (HF.out.1.stk j hlt).below hWr
      have g4 := (HF.out.2.1.stk j hlt).below hWr
      obtain ⟨hl1, hl2⟩ := HF.out.2.2.2.2.1 j hlt
      have hlr : (fr j).stk.length = (fr j).stk.reverse.length := by simp
      rw [hlr] at g3 g4
      have g3 := g3.args
      have g4 := g4.args
      replace x0 := (hWr.cell (p := ⟨b1, j * 4, none⟩) bz1).trans x0
      replace x1 := (hWr.cell (p := ⟨b1, j * 4 + 1, none⟩) bz1).trans x1
      replace x2 := (hWr.cell (p := ⟨b1, j * 4 + 2, none⟩) bz1).trans x2
      replace x3 := (hWr.cell (p := ⟨b1, j * 4 + 3, none⟩) bz1).trans x3
      replace y0 := (hWr.cell (p := ⟨b2, j * 4, none⟩) bz2).trans y0
      replace y1 := (hWr.cell (p := ⟨b2, j * 4 + 1, none⟩) bz2).trans y1
      replace y2 := (hWr.cell (p := ⟨b2, j * 4 + 2, none⟩) bz2).trans y2
      replace y3 := (hWr.cell (p := ⟨b2, j * 4 + 3, none⟩) bz2).trans y3
      have bw1 : b1 < wr.heap.size := by have := hWr.size; omega
      have bw2 : b2 < wr.heap.size := by have := hWr.size; omega
      obtain ⟨lp1, lc1, el1⟩ := g1.any
      obtain ⟨lp2, lc2, el2⟩ := g2.any
      obtain ⟨sp1, sc1, es1⟩ := g3.any
      obtain ⟨sp2, sc2, es2⟩ := g4.any
      rw [el1] at x2 g1
      rw [el2] at y2 g2
      rw [es1, List.length_reverse] at x3
      rw [es2, List.length_reverse] at y3
      rw [es1] at g3
      rw [es2] at g4
      have i0 : (0 : Int) ≤ (j : Int) := by omega
      have i1 : (j : Int) < (n : Int) := by omega
      have HG := hid (And.intro g1 (And.intro g2 (And.intro g3 g4)))
      have HX := hid (And.intro x0 (And.intro x1 (And.intro x3 (And.intro y0 (And.intro y1 (And.intro y3 (And.intro s1 (And.intro s2 (And.intro x2 y2)))))))))
      have HBr := hid hBr
      clear g1 g2 g3 g4 x0 x1 x3 y0 y1 y3 hW r1 r2 q1 q2 hWr el1 el2 es1 es2 hBr hlr
      generalize hfj : fr j = f at *
      clear hfj
      go_wp2_with fail
      refine region_lex (fun w' => w'.cell? ⟨w.heap.size, 0, none⟩ = some (.slice (some ⟨b1, 0, none⟩) n fc1) ∧ w'.cell? ⟨w.heap.size + 1, 0, none⟩ = some (.slice (some ⟨b2, 0, none⟩) n fc2) ∧ w'.cell? ⟨b1, j * 4 + 2, none⟩ = some (.slice lp1 f.loc.length lc1) ∧ w'.cell? ⟨b2, j * 4 + 2, none⟩ = some (.slice lp2 f.loc.length lc2)) [(false, 0), (false, 1), (false, 2), (false, 3), (false, 4), (false, 5), (false, 6), (false, 7), (false, 8), (false, 9), (false, 10), (false, 11), (true, 12), (false, 13)] (by kernel_rfl) (by kernel_rfl) (fun c0 a0 d0 v0 x0 h0 => panic_body (P := Tryz.prog) Tryz.f23 (fun e w' => e = .returned (.bool true) ∧ Below w.heap.size w w') c0 a0 d0 v0 x0 h0) ⟨s1, s2, x2, y2⟩ ?_
      simp only [lexL, List.getElem?_cons_zero, List.getElem?_cons_succ]
      clear s1 s2 x2 y2
      iterate 12 (refine lexW_free (by rfl) (by intro w' hS'; obtain ⟨o0, o1, o2, o3⟩ := hS'; go_simp; exact rfl) ?_; simp only [Act.put, List.setIfInBounds_toArray, List.set_cons_zero, List.set_cons_succ])
      refine lexW_sole (fun K hK => ?_)
      go_simp
      refine (valuesB wr.drew _ _ f.loc (HG.out.1.below (Below.refl _ _).drew) (HG.out.2.1.below (Below.refl _ _).drew) hl1).mono ?_
      rintro e w3 ⟨rfl, hB3⟩
      obtain ⟨x0, x1, x3, y0, y1, y3, s1, s2, x2, y2⟩ := HX.out
      have cc : ∀ a : Addr, a.block < wr.heap.size → w3.cell? a = wr.cell? a := fun a ha => hB3.cell (p := a) ha
      have hz3 : wr.heap.size ≤ w3.heap.size := hB3.size
      replace x0 := (cc ⟨b1, _, none⟩ bw1).trans x0
      replace x1 := (cc ⟨b1, _, none⟩ bw1).trans x1
      replace x2 := (cc ⟨b1, _, none⟩ bw1).trans x2
      replace x3 := (cc ⟨b1, _, none⟩ bw1).trans x3
      replace y0 := (cc ⟨b2, _, none⟩ bw2).trans y0
      replace y1 := (cc ⟨b2, _, none⟩ bw2).trans y1
      replace y2 := (cc ⟨b2, _, none⟩ bw2).trans y2
      replace y3 := (cc ⟨b2, _, none⟩ bw2).trans y3
      replace s1 := (cc ⟨w.heap.size, _, none⟩ hz1).trans s1
      replace s2 := (cc ⟨w.heap.size + 1, _, none⟩ hz2).trans s2
      refine hK.out _ _ ⟨s1, s2, x2, y2⟩ ?_
      clear hK K HX cc
      have HX := hid (And.intro x0 (And.intro x1 (And.intro y0 (And.intro y1 (And.intro s1 (And.intro s2 (And.intro x3 y3)))))))
      have HB3 := hid (HBr.out.drew.trans (hB3.mono (by exact HBr.out.size)))
      clear x0 x1 x2 x3 y0 y1 y2 y3 s1 s2 HBr
      have HG2 := hid (And.intro ((HG.out.2.2.1.below (Below.refl _ _).drew).below hB3) ((HG.out.2.2.2.below (Below.refl _ _).drew).below hB3))
      clear hB3 HG
      refine lexW_free (by rfl) (by intro w' hS'; go_simp; exact rfl) ?_
      simp only [Act.put, List.setIfInBounds_toArray, List.set_cons_zero, List.set_cons_succ]
      refine lexW_done ?_
      go_wp2_with fail
      obtain ⟨x0, x1, y0, y1, s1, s2, x3, y3⟩ := HX.out
      refine region_lex (fun w' => w'.cell? ⟨w.heap.size, 0, none⟩ = some (.slice (some ⟨b1, 0, none⟩) n fc1) ∧ w'.cell? ⟨w.heap.size + 1, 0, none⟩ = some (.slice (some ⟨b2, 0, none⟩) n fc2) ∧ w'.cell? ⟨b1, j * 4 + 3, none⟩ = some (.slice sp1 f.stk.length sc1) ∧ w'.cell? ⟨b2, j * 4 + 3, none⟩ = some (.slice sp2 f.stk.length sc2)) [(false, 0), (false, 1), (false, 2), (false, 3), (false, 4), (false, 5), (false, 6), (false, 7), (false, 8), (false, 9), (false, 10), (false, 11), (true, 12), (false, 13)] (by kernel_rfl) (by kernel_rfl) (fun c0 a0 d0 v0 x0 h0 => panic_body (P := Tryz.prog) Tryz.f23 (fun e w' => e = .returned (.bool true) ∧ Below w.heap.size w w') c0 a0 d0 v0 x0 h0) ⟨s1, s2, x3, y3⟩ ?_
      simp only [lexL, List.getElem?_cons_zero, List.getElem?_cons_succ]
      clear x0 x1 y0 y1 s1 s2 x3 y3
      iterate 12 (refine lexW_free (by rfl) (by intro w' hS'; obtain ⟨o0, o1, o2, o3⟩ := hS'; go_simp; exact rfl) ?_; simp only [Act.put, List.setIfInBounds_toArray, List.set_cons_zero, List.set_cons_succ])
      refine lexW_sole (fun K hK => ?_)
      go_simp
      have hv := valuesB w3.drew _ _ f.stk.reverse (HG2.out.1.below (Below.refl _ _).drew) (HG2.out.2.below (Below.refl _ _).drew) (by rw [List.length_reverse]; exact hl2)
      rw [List.length_reverse] at hv
      refine hv.mono ?_
      clear hv
      rintro e w4 ⟨rfl, hB4⟩
      obtain ⟨x0, x1, y0, y1, s1, s2, x3, y3⟩ := HX.out
      have cc : ∀ a : Addr, a.block < w3.heap.size → w4.cell? a = w3.cell? a := fun a ha => hB4.cell (p := a) ha
      replace x0 := (cc ⟨b1, _, none⟩ (Nat.lt_of_lt_of_le bw1 hz3)).trans x0
      replace x1 := (cc ⟨b1, _, none⟩ (Nat.lt_of_lt_of_le bw1 hz3)).trans x1
      replace x3 := (cc ⟨b1, _, none⟩ (Nat.lt_of_lt_of_le bw1 hz3)).trans x3
      replace y0 := (cc ⟨b2, _, none⟩ (Nat.lt_of_lt_of_le bw2 hz3)).trans y0
      replace y1 := (cc ⟨b2, _, none⟩ (Nat.lt_of_lt_of_le bw2 hz3)).trans y1
      replace y3 := (cc ⟨b2, _, none⟩ (Nat.lt_of_lt_of_le bw2 hz3)).trans y3
      replace s1 := (cc ⟨w.heap.size, _, none⟩ (Nat.lt_of_lt_of_le hz1 hz3)).trans s1
      replace s2 := (cc ⟨w.heap.size + 1, _, none⟩ (Nat.lt_of_lt_of_le hz2 hz3)).trans s2
      refine hK.out _ _ ⟨s1, s2, x3, y3⟩ ?_
      clear hK K HX cc x3 y3
      have HB4 := hid (HB3.out.drew.trans (hB4.mono (by exact HB3.out.size)))
      clear hB4 HB3 HG2
      refine lexW_free (by rfl) (by intro w' hS'; go_simp; exact rfl) ?_
      simp only [Act.put, List.setIfInBounds_toArray, List.set_cons_zero, List.set_cons_succ]
      refine lexW_done ?_
      generalize hfn : (f.fn : Int) = ffn at *
      generalize hpc : (f.pc : Int) = fpc at *
      clear hfn hpc
      have e0 : (ffn != ffn) = false := by simp
      have e0' : (fpc != fpc) = false := by simp
      go_wp2_with fail
      go_quiet (fail)
      go_wp2
      exact ⟨⟨j + 1, by omega, by go_num, below_drewN HB4.out _⟩, by simp [intOf]; omega⟩
    · have hdec : decide ((j : Int) < (n : Int)) = false := by simp; omega
      have HB0 := hid hBr
      clear hBr hW r1 r2 q1 q2 hWr hz1 hz2
      go_wp2_with fail
      clear s1 s2
      go_loopw [8] (fun v wr => ∃ i : Nat, i ≤ na ∧ v = .int .i64 i ∧ Below W.heap.size W wr) (fun v _ => na - (intOf v).toNat)
      case atStart => exact ⟨0, by omega, rfl, HB0.out⟩
      case round =>
        obtain ⟨i, hi, rfl, hBr⟩ := hrel
        obtain ⟨hW, r1, r2⟩ := HW.out
        have q1 := (hBr.block _ (heap_lt r1)).trans r1
        have q2 := (hBr.block _ (heap_lt r2)).trans r2
        have s1 : wr.cell? ⟨w.heap.size, 1, none⟩ = some (.slice ap1 na ac1) := (cell_heap q1).trans rfl
        have s2 : wr.cell? ⟨w.heap.size + 1, 1, none⟩ = some (.slice ap2 na ac2) := (cell_heap q2).trans rfl
        have hWr : Below w.heap.size w wr := hW.trans (hBr.mono hW.size)
        have hz1 := heap_lt q1
        have hz2 := heap_lt q2
        have HBr := hid hBr
        by_cases hlt2 : i < na
        · have hdec2 : decide ((i : Int) < (na : Int)) = true := by simp; omega
          obtain ⟨b1, e1, bz1, x0⟩ := HF.out.2.2.1.at_ hlt2
          obtain ⟨b2, e2, bz2, y0⟩ := HF.out.2.2.2.1.at_ hlt2
          subst e1 e2
          have g1 := ((HF.out.2.2.1.arr i hlt2).args).below hWr
          have g2 := ((HF.out.2.2.2.1.arr i hlt2).args).below hWr
          have hl1 := HF.out.2.2.2.2.2 i hlt2
          replace x0 := (hWr.cell (p := ⟨b1, i, none⟩) bz1).trans x0
          replace y0 := (hWr.cell (p := ⟨b2, i, none⟩) bz2).trans y0
          have bw1 : b1 < wr.heap.size := by have := hWr.size; omega
          have bw2 : b2 < wr.heap.size := by have := hWr.size; omega
          obtain ⟨lp1, lc1, el1⟩ := g1.any
          obtain ⟨lp2, lc2, el2⟩ := g2.any
          rw [el1] at x0 g1
          rw [el2] at y0 g2
          have i0 : (0 : Int) ≤ (i : Int) := by omega
          have i1 : (i : Int) < (na : Int) := by omega
          have HG := hid (And.intro g1 g2)
          have HX := hid (And.intro s1 (And.intro s2 (And.intro x0 y0)))
          clear g1 g2 hW r1 r2 q1 q2 hWr el1 el2 hBr
          generalize hfj : arr.getD i [] = l at *
          clear hfj
          go_wp2_with fail
          refine region_lex (fun w' => w'.cell? ⟨w.heap.size, 1, none⟩ = some (.slice (some ⟨b1, 0, none⟩) na ac1) ∧ w'.cell? ⟨w.heap.size + 1, 1, none⟩ = some (.slice (some ⟨b2, 0, none⟩) na ac2) ∧ w'.cell? ⟨b1, i, none⟩ = some (.slice lp1 l.length lc1) ∧ w'.cell? ⟨b2, i, none⟩ = some (.slice lp2 l.length lc2)) [(false, 0), (false, 1), (false, 2), (false, 3), (false, 4), (false, 5), (false, 6), (false, 7), (false, 8), (false, 9), (true, 10), (false, 11)] (by kernel_rfl) (by kernel_rfl) (fun c0 a0 d0 v0 x0 h0 => panic_body (P := Tryz.prog) Tryz.f23 (fun e w' => e = .returned (.bool true) ∧ Below w.heap.size w w') c0 a0 d0 v0 x0 h0) ⟨s1, s2, x0, y0⟩ ?_
          simp only [lexL, List.getElem?_cons_zero, List.getElem?_cons_succ]
          clear s1 s2 x0 y0
          iterate 10 (refine lexW_free (by rfl) (by intro w' hS'; obtain ⟨o0, o1, o2, o3⟩ := hS'; go_simp; exact rfl) ?_; simp only [Act.put, List.setIfInBounds_toArray, List.set_cons_zero, List.set_cons_succ])
          refine lexW_sole (fun K hK => ?_)
          go_simp
          refine (valuesB wr.drew _ _ l (HG.out.1.below (Below.refl _ _).drew) (HG.out.2.below (Below.refl _ _).drew) hl1).mono ?_
          rintro e w3 ⟨rfl, hB3⟩
          obtain ⟨s1, s2, x0, y0⟩ := HX.out
          refine hK.out _ _ ⟨(hB3.cell (p := ⟨w.heap.size, 1, none⟩) hz1).trans s1, (hB3.cell (p := ⟨w.heap.size + 1, 1, none⟩) hz2).trans s2, (hB3.cell (p := ⟨b1, i, none⟩) bw1).trans x0, (hB3.cell (p := ⟨b2, i, none⟩) bw2).trans y0⟩ ?_
          clear hK K s1 s2 x0 y0
          have HB3 := hid (HBr.out.drew.trans (hB3.mono (by exact HBr.out.size)))
          clear hB3 HBr HG
          refine lexW_free (by rfl) (by intro w' hS'; go_simp; exact rfl) ?_
          simp only [Act.put, List.setIfInBounds_toArray, List.set_cons_zero, List.set_cons_succ]
          refine lexW_done ?_
          go_wp2
          exact ⟨⟨i + 1, by omega, by go_num, HB3.out⟩, by simp [intOf]; omega⟩
        · have hdec2 : decide ((i : Int) < (na : Int)) = false := by simp; omega
          have HQ := hid hWr
          clear hBr hW r1 r2 q1 q2 hWr
          go_wp2
          go_ret
          exact ⟨rfl, HQ.out⟩
end Go.Proofs.YtkafkipjedpohaaGreatDoor

/-
  Package upshiftkeep: Steps.
-/
namespace Go.Proofs.YtkafkipjedpohaaGreatDoor
open Go.RowKit

/-- What Steps looks at, of two runs of one program. -/
structure StepsF (sA sB : Mc) (n m : Int) : Prop where
  out : ∃ l, sA.out = sB.out ++ l
  leA : (sA.steps : Int) ≤ n
  leB : (sB.steps : Int) ≤ m
  end1 : 1 ≤ endP sA
  end8 : endP sA ≤ 8
  starved : endP sA = 2 → (sA.steps : Int) = n
  same : endP sA ≠ 2 → (sA.steps : Int) ≤ m → sB = sA
  less : m < (sA.steps : Int) → endP sB = 2 ∧ (sB.steps : Int) = m ∧ sB.gives = vnil
  halted : sA.fr = [] ↔ endP sA = 1
  lenA : sA.out.length ≤ 200000
  lenB : sB.out.length ≤ 200000

theorem steps_facts {M : Nat} {F : Nat → PF} {K : Nat → Nat → Bool} {H : Nat → Nat → Int} (hF : Fine M F K H) (n m : Int) (h0 : 0 ≤ m) (hm : m ≤ n) (hn : n ≤ 3000) : StepsF (atP F n) (atP F m) n m ∧ atP F ((atP F n).steps : Int) = atP F n := by
  obtain ⟨hI, _⟩ := start_inv hF
  have hA := nth_at hF hI rfl rfl rfl
  obtain ⟨N, rfl⟩ : ∃ N : Nat, n = N := ⟨n.toNat, by omega⟩
  obtain ⟨L, rfl⟩ : ∃ L : Nat, m = L := ⟨m.toNat, by omega⟩
  have e1 : ∀ k : Nat, k ≤ 3000 → atP F (k : Int) = nthP F (startP F) k := fun k hk => by
    unfold atP
    rw [show fuelP (k : Int) = k by unfold fuelP; omega]
  have hst := nth_steps hA N
  have hb := fun k (h : k < (nthP F (startP F) N).steps) => nth_before hA (k := k) (n := N) h
  have hd := fun k (hz : (nthP F (startP F) N).fin ≠ 0) (h : (nthP F (startP F) N).steps ≤ k) => nth_behind hA (k := k) (n := N) hz h
  obtain ⟨l, hl⟩ := nth_out hA L (N - L)
  rw [show L + (N - L) = N by omega] at hl
  have zA := (road_szs hF N).2.2
  have zB := (road_szs hF L).2.2
  have aN := hA N
  have aL := hA L
  rw [e1 N (by omega), e1 L (by omega)]
  have hle := aN.le
  rw [e1 _ (by omega)]
  refine ⟨⟨⟨l, hl⟩, by omega, by have := aL.le; omega, ?_, ?_, ?_, ?_, ?_, ?_, by omega, by omega⟩, hst⟩
  · unfold endP
    have := aN.fin
    split <;> omega
  · unfold endP
    have := aN.fin
    split <;> omega
  · intro h
    unfold endP at h
    have := aN.fin
    have hz : (nthP F (startP F) N).fin = 0 := by split at h <;> omega
    have := (aN.inv hz).2
    omega
  · intro h h2
    have hz : (nthP F (startP F) N).fin ≠ 0 := by
      intro e
      unfold endP at h
      rw [if_pos e] at h
      exact h rfl
    exact hd L hz (by omega)
  · intro h
    have hz := hb L (by omega)
    refine ⟨by unfold endP; rw [if_pos hz], ?_, aL.gives (by omega)⟩
    rw [(aL.inv hz).2]
  · rw [aN.fr]
    unfold endP
    have := aN.fin
    constructor
    · intro e; split <;> omega
    · intro e; split at e <;> omega

theorem OutL.args {w w' : World} {v : Value} {l : List V} (h : OutL w w' v l) : ArgsIn w' v l := Row.args h

theorem ArgsIn.take {w : World} {p : Option Addr} {n c : Nat} {l r : List V} (h : ArgsIn w (.slice p n c) (l ++ r)) : ArgsIn w (.slice p l.length c) l := by
  rcases h with ⟨h0, _⟩ | ⟨ab, c', e, hab, hf⟩
  · obtain ⟨rfl, rfl⟩ := List.append_eq_nil_iff.1 h0
    exact Or.inl ⟨rfl, p, c, rfl⟩
  · injection e with e1 e2 e3
    subst e1 e3
    refine Or.inr ⟨ab, _, rfl, hab, fun i hi => (hf i (by rw [List.length_append]; omega)).trans ?_⟩
    unfold vcell
    rw [List.getD_eq_getElem?_getD, List.getD_eq_getElem?_getD, List.getElem?_append_left (by omega)]

set_option maxRecDepth 100000 in
set_option maxHeartbeats 4000000 in
theorem steps_any (ls : List Ln) (a : Option Addr) (cap : Nat) (fuel less : Int) (w : World) (hin : LinesIn w a ls) (hlen : ls.length ≤ 140737488355328) (hfi : I64 fuel) (hli : I64 less) (ht : TabAt w) (hw0 : 0 < w.heap.size) :
    Calls Tryz.prog 5 #[.slice a ls.length cap, .int .i64 fuel, .int .i64 less] w fun e w' => e = .returned (.bool true) ∧ Below w.heap.size w w' := by
  have HPr := hid (prog_any ls a cap w hin hlen)
  have HT := hid ht
  clear hin hlen ht
  generalize ls.length = lsn at *
  go_enter Tryz.func5, Tryz.ntmps5
  go_wp2_with fail
  refine HPr.out.mono ?_
  rintro e w1 ⟨v, rfl, hM⟩
  have hB1 := hM.1
  obtain ⟨pb, pc, CB, CC, rfl, hpb, h9, hcb⟩ := hM.cells9
  have hT1 := HT.out.below hB1 hw0
  have hP1 : ProgAt w1 pb 0 3 (FL ls) (fun k => some ⟨CB k, 0, none⟩) CC := nine_prog h9 fun k hk => ⟨rfl, rfl, rfl, (hcb k hk).1, list_code (hcb k hk).2.2.2.1⟩
  have HC := hid (keepCode w1 pb 0 pc 3 (FL ls) _ CC hP1 hT1 (by rw [prog_ok]))
  have HB1 := hid hB1
  clear hM hB1 h9 hcb hT1 hP1 HPr HT
  go_wp2_with fail
  refine HC.out.mono ?_
  rintro e w2 ⟨v2, wx, rfl, hBx, hB2x, b5, g5, cap5, rfl, hb51, hb52, hc5, hg1, hg2, hne, CA2, CC2, hcp⟩
  have hP2 : ProgAt w2 g5 0 3 (FL ls) CA2 CC2 := ⟨hg2, fun k hk => (hcp k hk).1⟩
  have hBw2 : Below w.heap.size w w2 := (HB1.out.trans (hBx.mono HB1.out.size)).trans (hB2x.mono (by have := HB1.out.size; have := hBx.size; omega))
  obtain ⟨K, H, hF⟩ := prog_fine (m := 3) (F := FL ls) (by rw [prog_ok])
  have bn := pickP_bd fuel (n := 3000) (by omega)
  have bm := pickP_bd less (n := pickP fuel 3000 + 1) (by omega)
  obtain ⟨hS, hAt⟩ := steps_facts hF (pickP fuel 3000) (pickP less (pickP fuel 3000 + 1)) bm.1 (by omega) (by omega)
  have HR := hid (fun (X : World) (hX : Below w2.heap.size w2 X) (q : Int) (hq : (atP (FL ls) q).out.length ≤ 200000) => codeRun X b5 g5 0 cap5 3 (FL ls) K H CA2 CC2 q ((hX.cell (p := ⟨b5, 0, none⟩) hb52).trans hc5) (hP2.below hX (Nat.le_refl _)) hF hq)
  have HK := hid (fun (X : World) (hX : Below w2.heap.size w2 X) (q : Int) => codeLook X b5 g5 0 cap5 3 (FL ls) K H CA2 CC2 q ((hX.cell (p := ⟨b5, 0, none⟩) hb52).trans hc5) (hP2.below hX (Nat.le_refl _)) hF)
  have hzs := road_szs hF (fuelP (pickP fuel 3000))
  have HZ : Hid (Szs (atP (FL ls) (pickP fuel 3000)) ∧ (atP (FL ls) (pickP fuel 3000)).arr.length ≤ 100000) := ⟨hzs.1, Nat.le_trans hzs.2.1 (fuel_le _)⟩
  have HB := hid hBw2
  have k1 := fun wx => keepPick_any fuel 3000 wx hfi (by omega)
  have k2 := fun wx => keepPick_any less (pickP fuel 3000 + 1) wx hli (by omega)
  have hcz := World.block_lt_of_cell? w2 _ hc5
  clear hP2 hBw2 hc5 hF hcp hne hg1 hb51 hb52 hBx hB2x HC HB1 hfi hli hg2 hzs
  generalize pickP less (pickP fuel 3000 + 1) = m at *
  generalize pickP fuel 3000 = n at *
  have e1 : wrap64 (n + 1) = n + 1 := by unfold wrap64; omega
  have KK := hid (And.intro k1 k2)
  clear k1 k2
  have HA := hid (fun X hX => HR.out X hX n hS.lenA)
  have HBm := hid (fun X hX => HR.out X hX m hS.lenB)
  have HK2 := hid (fun X hX => HK.out X hX n)
  have HK1 := hid (fun X hX => HK.out X hX ((atP (FL ls) n).steps : Int))
  rw [hAt] at HK1
  clear HR HK hAt
  generalize atP (FL ls) n = sA at *
  generalize atP (FL ls) m = sB at *
  have HS := hid hS
  clear hS
  go_wp2_with fail
  refine (KK.out.1 _).mono ?_
  rintro e w' ⟨rfl, hw'⟩
  rw [hw']
  clear hw' w'
  go_wp2_with fail
  refine (KK.out.2 _).mono ?_
  rintro e w' ⟨rfl, hw'⟩
  rw [hw']
  clear hw' w' KK
  go_wp2_with fail
  refine (HA.out w2 (Below.refl _ _)).mono ?_
  rintro e w3 ⟨vA, rfl, hB3, hOA⟩
  obtain ⟨pA, cA, eA, hcA⟩ := Row.any hOA
  subst eA
  have HO3 := hid (And.intro hB3 hOA)
  have hz3 := hB3.size
  clear hB3 hOA HA
  unfold OutcomeV
  generalize hlA : sA.out.length = lA at *
  have HLA := hid hlA
  clear hlA
  go_wp2_with fail
  have hA3 : Below w3.heap.size w3 (w3.alloc (.cells #[.int .i64 (endP sA), .int .i64 sA.steps, .int .i64 sA.gives.k, .int .i64 sA.gives.n, .slice pA lA cA] 46)) := (Below.refl _ _).alloc (Nat.le_refl _) _
  have rA3 : (w3.alloc (.cells #[.int .i64 (endP sA), .int .i64 sA.steps, .int .i64 sA.gives.k, .int .i64 sA.gives.n, .slice pA lA cA] 46)).heap[w3.heap.size]? = some (.cells #[.int .i64 (endP sA), .int .i64 sA.steps, .int .i64 sA.gives.k, .int .i64 sA.gives.n, .slice pA lA cA] 46 (0, 0)) := Go.Deep.blk_alloc_new _ _
  have aA3 := HO3.out.2.args.below hA3
  have hX3 := HO3.out.1.trans (hA3.mono HO3.out.1.size)
  have HX3 := hid (And.intro hX3 (And.intro rA3 aA3))
  clear hA3 rA3 aA3 hX3 HO3
  generalize w3.alloc (.cells #[.int .i64 (endP sA), .int .i64 sA.steps, .int .i64 sA.gives.k, .int .i64 sA.gives.n, .slice pA lA cA] 46) = W3 at *
  refine (HBm.out W3 HX3.out.1).mono ?_
  rintro e w4 ⟨vB, rfl, hB4, hOB⟩
  obtain ⟨pB, cB, eB, hcB⟩ := Row.any hOB
  subst eB
  obtain ⟨hX3, rA3, aA3⟩ := HX3.out
  have hzA := heap_lt rA3
  have hA4 : Below w4.heap.size w4 (w4.alloc (.cells #[.int .i64 (endP sB), .int .i64 sB.steps, .int .i64 sB.gives.k, .int .i64 sB.gives.n, .slice pB sB.out.length cB] 46)) := (Below.refl _ _).alloc (Nat.le_refl _) _
  have rB4 : (w4.alloc (.cells #[.int .i64 (endP sB), .int .i64 sB.steps, .int .i64 sB.gives.k, .int .i64 sB.gives.n, .slice pB sB.out.length cB] 46)).heap[w4.heap.size]? = some (.cells #[.int .i64 (endP sB), .int .i64 sB.steps, .int .i64 sB.gives.k, .int .i64 sB.gives.n, .slice pB sB.out.length cB] 46 (0, 0)) := Go.Deep.blk_alloc_new _ _
  have hB4' := hB4.trans (hA4.mono hB4.size)
  have rA4 := (hB4'.block _ hzA).trans rA3
  have aA4 := aA3.below hB4'
  have aB4 := hOB.args.below hA4
  have hX4 := hX3.trans (hB4'.mono hX3.size)
  have HX4 := hid (And.intro hX4 (And.intro rA4 (And.intro rB4 (And.intro aA4 aB4))))
  have hab : w3.heap.size < w4.heap.size := by have := hB4.size; omega
  have x4 : w4.cell? ⟨w3.heap.size, 4, none⟩ = some (.slice pA lA cA) := (cell_heap ((hB4.block _ hzA).trans rA3)).trans rfl
  have hne : ¬ w3.heap.size = w4.heap.size := by omega
  clear hB4 hOB hX3 rA3 aA3 hA4 rB4 hB4' rA4 aA4 aB4 hX4 HX3 HBm
  generalize hlB : sB.out.length = lB at *
  have HLB := hid hlB
  clear hlB
  have hlBA : lB ≤ lA := by
    obtain ⟨l, hl⟩ := HS.out.out
    have h := congrArg List.length hl
    rw [List.length_append, HLA.out, HLB.out] at h
    omega
  have d1 : decide ((lA : Int) < (lB : Int)) = false := by simp; omega
  unfold OutcomeV
  go_wp2_with fail
  clear x4
  obtain ⟨hX4, rA4, rB4, aA4, aB4⟩ := HX4.out
  generalize w4.alloc (.cells #[.int .i64 (endP sB), .int .i64 sB.steps, .int .i64 sB.gives.k, .int .i64 sB.gives.n, .slice pB lB cB] 46) = W4 at *
  have xA : W4.cell? ⟨w3.heap.size, 4, none⟩ = some (.slice pA lA cA) := (cell_heap rA4).trans rfl
  have xB : W4.cell? ⟨w4.heap.size, 4, none⟩ = some (.slice pB lB cB) := (cell_heap rB4).trans rfl
  have zA := heap_lt rA4
  have zB := heap_lt rB4
  clear hX4 rA4 rB4 aA4 aB4
  refine region_lex (fun w' => w'.cell? ⟨w3.heap.size, 4, none⟩ = some (.slice pA lA cA) ∧ w'.cell? ⟨w4.heap.size, 4, none⟩ = some (.slice pB lB cB)) [(false, 0), (false, 1), (false, 2), (false, 3), (false, 4), (false, 5), (false, 6), (false, 7), (true, 8), (false, 9)] (by kernel_rfl) (by kernel_rfl) (fun c0 a0 d0 v0 x0 h0 => panic_body (P := Tryz.prog) Tryz.f5 (fun e w' => e = .returned (.bool true) ∧ Below w.heap.size w w') c0 a0 d0 v0 x0 h0) ⟨xA, xB⟩ ?_
  simp only [lexL, List.getElem?_cons_zero, List.getElem?_cons_succ]
  have HXx := hid (And.intro xA xB)
  clear xA xB
  have hlc : lB ≤ cA := by omega
  have hlc1 : (0 : Int) ≤ (lB : Int) := by omega
  have hlc2 : (lB : Int) ≤ (cA : Int) := by omega
  iterate 7 (refine lexW_free (by rfl) (by intro w' hS'; obtain ⟨o0, o1⟩ := hS'; go_simp; exact rfl) ?_; simp only [Act.put, List.setIfInBounds_toArray, List.set_cons_zero, List.set_cons_succ])
  refine lexW_free (v := .slice pA lB cA) (by rfl) (by intro w' hS'; obtain ⟨o0, o1⟩ := hS'; go_simp) ?_
  simp only [Act.put, List.setIfInBounds_toArray, List.set_cons_zero, List.set_cons_succ]
  refine lexW_sole (fun K hK => ?_)
  go_simp
  obtain ⟨hX4, rA4, rB4, aA4, aB4⟩ := HX4.out
  have hv := valuesB W4.drew (.slice pB lB cB) (.slice pA lB cA) sB.out (aB4.below (Below.refl _ _).drew) (by
    obtain ⟨l, hl⟩ := HS.out.out
    rw [hl] at aA4
    have h := (aA4.below (Below.refl W4.heap.size W4).drew).take
    rw [HLB.out] at h
    exact h) HS.out.lenB
  refine hv.mono ?_
  clear hv
  rintro e w5 ⟨rfl, hB5⟩
  refine hK.out _ _ ⟨(hB5.cell (p := ⟨w3.heap.size, 4, none⟩) zA).trans HXx.out.1, (hB5.cell (p := ⟨w4.heap.size, 4, none⟩) zB).trans HXx.out.2⟩ ?_
  clear hK K
  have rA5 := (hB5.block _ zA).trans rA4
  have rB5 := (hB5.block _ zB).trans rB4
  have hW45 : Below W4.heap.size W4 w5 := (Below.refl _ _).drew.trans hB5
  have hX5 := hX4.trans (hW45.mono hX4.size)
  have aA5 := aA4.below hW45
  have aB5 := aB4.below hW45
  have HX5 := hid (And.intro hX5 (And.intro aA5 (And.intro aB5 (And.intro rA5 rB5))))
  have hz5 : W4.heap.size ≤ w5.heap.size := hB5.size
  clear hX4 rA4 rB4 aA4 aB4 hB5 hW45 hX5 aA5 aB5 HX4 HXx
  refine lexW_free (by rfl) (by intro w' hS'; go_simp; exact rfl) ?_
  simp only [Act.put, List.setIfInBounds_toArray, List.set_cons_zero, List.set_cons_succ]
  refine lexW_done ?_
  have xA0 : w5.cell? ⟨w3.heap.size, 0, none⟩ = some (.int .i64 (endP sA)) := (cell_heap rA5).trans rfl
  have xA1 : w5.cell? ⟨w3.heap.size, 1, none⟩ = some (.int .i64 sA.steps) := (cell_heap rA5).trans rfl
  have xA2 : w5.cell? ⟨w3.heap.size, 2, none⟩ = some (.int .i64 sA.gives.k) := (cell_heap rA5).trans rfl
  have xA3 : w5.cell? ⟨w3.heap.size, 3, none⟩ = some (.int .i64 sA.gives.n) := (cell_heap rA5).trans rfl
  have xA4 : w5.cell? ⟨w3.heap.size, 4, none⟩ = some (.slice pA lA cA) := (cell_heap rA5).trans rfl
  have xB0 : w5.cell? ⟨w4.heap.size, 0, none⟩ = some (.int .i64 (endP sB)) := (cell_heap rB5).trans rfl
  have xB1 : w5.cell? ⟨w4.heap.size, 1, none⟩ = some (.int .i64 sB.steps) := (cell_heap rB5).trans rfl
  have xB2 : w5.cell? ⟨w4.heap.size, 2, none⟩ = some (.int .i64 sB.gives.k) := (cell_heap rB5).trans rfl
  have xB3 : w5.cell? ⟨w4.heap.size, 3, none⟩ = some (.int .i64 sB.gives.n) := (cell_heap rB5).trans rfl
  have xB4 : w5.cell? ⟨w4.heap.size, 4, none⟩ = some (.slice pB lB cB) := (cell_heap rB5).trans rfl
  have hS := HS.out
  obtain ⟨hh1, hh2, hh3, hh4, hh5, hh6, hh7, hh8, hh9, hh10, hh11⟩ := hS
  clear rA5 rB5 hh1 hh10 hh11
  have d2 : decide (n < (sA.steps : Int)) = false := by simp; omega
  have d3 : decide (m < (sB.steps : Int)) = false := by simp; omega
  have d4 : decide (endP sA < 1) = false := by simp; omega
  have d5 : decide (8 < endP sA) = false := by simp; omega
  by_cases hE : endP sA = 2
  · have p1 : (endP sA == 2) = true := by simpa using hE
    have p2 : ((sA.steps : Int) != n) = false := by simpa using hh6 hE
    have p3 : (endP sA != 2) = false := by simpa using hE
    by_cases hM : m < (sA.steps : Int)
    · have hx := True.intro
      obtain ⟨u1, u2, u3⟩ := hh8 hM
      have p5 : decide (m < (sA.steps : Int)) = true := by simpa using hM
      have p6 : (endP sB != 2) = false := by simpa using u1
      have p7 : ((sB.steps : Int) != m) = false := by simpa using u2
      rw [u3] at xB2 xB3
      clear hM u1 u2 u3 hh6 hh7 hh8 hE
      go_wp2_with fail
      refine (HK1.out w5 HX5.out.1).mono ?_
      intro e w6 hst6
      obtain ⟨fv, av, LV, SV, AV, tag, rfl, hb6, hf6, ha6⟩ := hst6
      obtain ⟨fp, fc, rfl, _⟩ := hf6.row.any
      obtain ⟨ap, ac, rfl, _⟩ := ha6.row.any
      have hA6 : Below w6.heap.size w6 (w6.alloc (.cells #[.slice fp sA.fr.length fc, .slice ap sA.arr.length ac] 53)) := (Below.refl _ _).alloc (Nat.le_refl _) _
      have r6 : (w6.alloc (.cells #[.slice fp sA.fr.length fc, .slice ap sA.arr.length ac] 53)).heap[w6.heap.size]? = some (.cells #[.slice fp sA.fr.length fc, .slice ap sA.arr.length ac] 53 (0, 0)) := Go.Deep.blk_alloc_new _ _
      have hb56 : Below w5.heap.size w5 (w6.alloc (.cells #[.slice fp sA.fr.length fc, .slice ap sA.arr.length ac] 53)) := hb6.trans (hA6.mono hb6.size)
      have H6 := hid (And.intro (HX5.out.1.trans (hb56.mono HX5.out.1.size)) (And.intro r6 (And.intro (hf6.keep (Ch.of_below (p := fun _ => False) hA6) (fun h => h) (fun _ _ => ⟨fun h => h, fun h => h⟩)) (And.intro (ha6.keep (Ch.of_below (p := fun _ => False) hA6) (fun h => h) (fun _ _ h => h)) hb56))))
      clear hb6 hf6 ha6 hA6 r6 hb56
      generalize hnf : sA.fr.length = nf at *
      have HNF := hid hnf
      generalize hna : sA.arr.length = na at *
      have HNA := hid hna
      clear hnf hna
      go_wp2_with fail
      generalize w6.alloc (.cells #[.slice fp nf fc, .slice ap na ac] 53) = W6 at *
      refine (HK2.out W6 H6.out.1).mono ?_
      intro e w7 hst7
      obtain ⟨fv2, av2, LV2, SV2, AV2, tag2, rfl, hb7, hf7, ha7⟩ := hst7
      obtain ⟨fp2, fc2, rfl, _⟩ := hf7.row.any
      obtain ⟨ap2, ac2, rfl, _⟩ := ha7.row.any
      rw [HNF.out] at hf7
      rw [HNA.out] at ha7
      rw [HNF.out, HNA.out]
      have hA7 : Below w7.heap.size w7 (w7.alloc (.cells #[.slice fp2 nf fc2, .slice ap2 na ac2] 53)) := (Below.refl _ _).alloc (Nat.le_refl _) _
      have r7 : (w7.alloc (.cells #[.slice fp2 nf fc2, .slice ap2 na ac2] 53)).heap[w7.heap.size]? = some (.cells #[.slice fp2 nf fc2, .slice ap2 na ac2] 53 (0, 0)) := Go.Deep.blk_alloc_new _ _
      obtain ⟨hX6, r6, hf6, ha6, hb56⟩ := H6.out
      have z6 := heap_lt r6
      have y0 : w7.cell? ⟨w6.heap.size, 0, none⟩ = some (.slice fp nf fc) := (cell_heap ((hb7.block _ z6).trans r6)).trans rfl
      have y1 : w7.cell? ⟨w6.heap.size, 1, none⟩ = some (.slice ap na ac) := (cell_heap ((hb7.block _ z6).trans r6)).trans rfl
      have hne67 : ¬ w6.heap.size = w7.heap.size := by have := hb7.size; omega
      have hlt67 : w6.heap.size < w7.heap.size := by have := hb7.size; omega
      have hb67 := hb7.trans (hA7.mono hb7.size)
      have hst := standsT _ _ _ _ _ _ _ _ _ _ _ _ _ _ _ _ nf _ (hf6.keep (Ch.of_below (p := fun _ => False) hb67) (fun h => h) (fun _ _ => ⟨fun h => h, fun h => h⟩)) (hf7.keep (Ch.of_below (p := fun _ => False) hA7) (fun h => h) (fun _ _ => ⟨fun h => h, fun h => h⟩)) (by rw [HNA.out]; exact ha6.keep (Ch.of_below (p := fun _ => False) hb67) (fun h => h) (fun _ _ h => h)) (by rw [HNA.out]; exact ha7.keep (Ch.of_below (p := fun _ => False) hA7) (fun h => h) (fun _ _ h => h)) (by have := HZ.out.1.fr; rw [HNF.out] at this; omega) (by have := HZ.out.2; rw [HNA.out]; omega) (fun i hi => by have := HZ.out.1.ls _ (frAt_mem (by rw [HNF.out]; exact hi)); omega) (fun j hj => by have := HZ.out.1.al _ (getD_mem hj); omega)
      have HST := hid hst
      have H7 := hid (And.intro (hb56.trans (hb67.mono hb56.size)) r7)
      clear hst hX6 r6 hf6 ha6 hb56 hb7 hf7 ha7 hA7 hb67 r7 z6
      go_wp2_with fail
      refine HST.out.mono ?_
      rintro e w8 ⟨rfl, hb8⟩
      obtain ⟨hb57, r7⟩ := H7.out
      have hb58 := hb57.trans (hb8.mono hb57.size)
      have r8 := (hb8.block _ (heap_lt r7)).trans r7
      have v0 : w8.cell? ⟨w7.heap.size, 0, none⟩ = some (.slice fp2 nf fc2) := (cell_heap r8).trans rfl
      have zA5 : w3.heap.size < w5.heap.size := Nat.lt_of_lt_of_le zA hz5
      have v1 : w8.cell? ⟨w3.heap.size, 0, none⟩ = some (.int .i64 (endP sA)) := (hb58.cell (p := ⟨w3.heap.size, 0, none⟩) zA5).trans xA0
      have HQ := hid ((HB.out.trans (HX5.out.1.mono HB.out.size)).trans (hb58.mono (by have := HB.out.size; have := HX5.out.1.size; omega)))
      have hhal : (nf = 0) ↔ endP sA = 1 := by rw [← hh9, ← HNF.out]; exact List.length_eq_zero_iff
      clear xA0 xA1 xA2 xA3 xA4 xB0 xB1 xB2 xB3 xB4 y0 y1 hb57 r7 hb58 r8 hb8 H7 HST
      by_cases hH : endP sA = 1
      · have m1 : (endP sA == 1) = true := by simpa using hH
        have m2 : ((nf : Int) == 0) = true := by have := hhal.2 hH; simp; omega
        clear hH hhal
        go_wp2
        go_ret
        exact ⟨rfl, HQ.out⟩
      · have m1 : (endP sA == 1) = false := by simpa using hH
        have m2 : ((nf : Int) == 0) = false := by have := fun h => hH (hhal.1 h); simp; omega
        clear hH hhal
        go_wp2
        go_ret
        exact ⟨rfl, HQ.out⟩
    · have p5 : decide (m < (sA.steps : Int)) = false := by simpa using hM
      clear hM hh6 hh7 hh8 hE
      go_wp2_with fail
      refine (HK1.out w5 HX5.out.1).mono ?_
      intro e w6 hst6
      obtain ⟨fv, av, LV, SV, AV, tag, rfl, hb6, hf6, ha6⟩ := hst6
      obtain ⟨fp, fc, rfl, _⟩ := hf6.row.any
      obtain ⟨ap, ac, rfl, _⟩ := ha6.row.any
      have hA6 : Below w6.heap.size w6 (w6.alloc (.cells #[.slice fp sA.fr.length fc, .slice ap sA.arr.length ac] 53)) := (Below.refl _ _).alloc (Nat.le_refl _) _
      have r6 : (w6.alloc (.cells #[.slice fp sA.fr.length fc, .slice ap sA.arr.length ac] 53)).heap[w6.heap.size]? = some (.cells #[.slice fp sA.fr.length fc, .slice ap sA.arr.length ac] 53 (0, 0)) := Go.Deep.blk_alloc_new _ _
      have hb56 : Below w5.heap.size w5 (w6.alloc (.cells #[.slice fp sA.fr.length fc, .slice ap sA.arr.length ac] 53)) := hb6.trans (hA6.mono hb6.size)
      have H6 := hid (And.intro (HX5.out.1.trans (hb56.mono HX5.out.1.size)) (And.intro r6 (And.intro (hf6.keep (Ch.of_below (p := fun _ => False) hA6) (fun h => h) (fun _ _ => ⟨fun h => h, fun h => h⟩)) (And.intro (ha6.keep (Ch.of_below (p := fun _ => False) hA6) (fun h => h) (fun _ _ h => h)) hb56))))
      clear hb6 hf6 ha6 hA6 r6 hb56
      generalize hnf : sA.fr.length = nf at *
      have HNF := hid hnf
      generalize hna : sA.arr.length = na at *
      have HNA := hid hna
      clear hnf hna
      go_wp2_with fail
      generalize w6.alloc (.cells #[.slice fp nf fc, .slice ap na ac] 53) = W6 at *
      refine (HK2.out W6 H6.out.1).mono ?_
      intro e w7 hst7
      obtain ⟨fv2, av2, LV2, SV2, AV2, tag2, rfl, hb7, hf7, ha7⟩ := hst7
      obtain ⟨fp2, fc2, rfl, _⟩ := hf7.row.any
      obtain ⟨ap2, ac2, rfl, _⟩ := ha7.row.any
      rw [HNF.out] at hf7
      rw [HNA.out] at ha7
      rw [HNF.out, HNA.out]
      have hA7 : Below w7.heap.size w7 (w7.alloc (.cells #[.slice fp2 nf fc2, .slice ap2 na ac2] 53)) := (Below.refl _ _).alloc (Nat.le_refl _) _
      have r7 : (w7.alloc (.cells #[.slice fp2 nf fc2, .slice ap2 na ac2] 53)).heap[w7.heap.size]? = some (.cells #[.slice fp2 nf fc2, .slice ap2 na ac2] 53 (0, 0)) := Go.Deep.blk_alloc_new _ _
      obtain ⟨hX6, r6, hf6, ha6, hb56⟩ := H6.out
      have z6 := heap_lt r6
      have y0 : w7.cell? ⟨w6.heap.size, 0, none⟩ = some (.slice fp nf fc) := (cell_heap ((hb7.block _ z6).trans r6)).trans rfl
      have y1 : w7.cell? ⟨w6.heap.size, 1, none⟩ = some (.slice ap na ac) := (cell_heap ((hb7.block _ z6).trans r6)).trans rfl
      have hne67 : ¬ w6.heap.size = w7.heap.size := by have := hb7.size; omega
      have hlt67 : w6.heap.size < w7.heap.size := by have := hb7.size; omega
      have hb67 := hb7.trans (hA7.mono hb7.size)
      have hst := standsT _ _ _ _ _ _ _ _ _ _ _ _ _ _ _ _ nf _ (hf6.keep (Ch.of_below (p := fun _ => False) hb67) (fun h => h) (fun _ _ => ⟨fun h => h, fun h => h⟩)) (hf7.keep (Ch.of_below (p := fun _ => False) hA7) (fun h => h) (fun _ _ => ⟨fun h => h, fun h => h⟩)) (by rw [HNA.out]; exact ha6.keep (Ch.of_below (p := fun _ => False) hb67) (fun h => h) (fun _ _ h => h)) (by rw [HNA.out]; exact ha7.keep (Ch.of_below (p := fun _ => False) hA7) (fun h => h) (fun _ _ h => h)) (by have := HZ.out.1.fr; rw [HNF.out] at this; omega) (by have := HZ.out.2; rw [HNA.out]; omega) (fun i hi => by have := HZ.out.1.ls _ (frAt_mem (by rw [HNF.out]; exact hi)); omega) (fun j hj => by have := HZ.out.1.al _ (getD_mem hj); omega)
      have HST := hid hst
      have H7 := hid (And.intro (hb56.trans (hb67.mono hb56.size)) r7)
      clear hst hX6 r6 hf6 ha6 hb56 hb7 hf7 ha7 hA7 hb67 r7 z6
      go_wp2_with fail
      refine HST.out.mono ?_
      rintro e w8 ⟨rfl, hb8⟩
      obtain ⟨hb57, r7⟩ := H7.out
      have hb58 := hb57.trans (hb8.mono hb57.size)
      have r8 := (hb8.block _ (heap_lt r7)).trans r7
      have v0 : w8.cell? ⟨w7.heap.size, 0, none⟩ = some (.slice fp2 nf fc2) := (cell_heap r8).trans rfl
      have zA5 : w3.heap.size < w5.heap.size := Nat.lt_of_lt_of_le zA hz5
      have v1 : w8.cell? ⟨w3.heap.size, 0, none⟩ = some (.int .i64 (endP sA)) := (hb58.cell (p := ⟨w3.heap.size, 0, none⟩) zA5).trans xA0
      have HQ := hid ((HB.out.trans (HX5.out.1.mono HB.out.size)).trans (hb58.mono (by have := HB.out.size; have := HX5.out.1.size; omega)))
      have hhal : (nf = 0) ↔ endP sA = 1 := by rw [← hh9, ← HNF.out]; exact List.length_eq_zero_iff
      clear xA0 xA1 xA2 xA3 xA4 xB0 xB1 xB2 xB3 xB4 y0 y1 hb57 r7 hb58 r8 hb8 H7 HST
      by_cases hH : endP sA = 1
      · have m1 : (endP sA == 1) = true := by simpa using hH
        have m2 : ((nf : Int) == 0) = true := by have := hhal.2 hH; simp; omega
        clear hH hhal
        go_wp2
        go_ret
        exact ⟨rfl, HQ.out⟩
      · have m1 : (endP sA == 1) = false := by simpa using hH
        have m2 : ((nf : Int) == 0) = false := by have := fun h => hH (hhal.1 h); simp; omega
        clear hH hhal
        go_wp2
        go_ret
        exact ⟨rfl, HQ.out⟩
  · have p1 : (endP sA == 2) = false := by simpa using hE
    have p3 : (endP sA != 2) = true := by simpa using hE
    by_cases hM : m < (sA.steps : Int)
    · have p4 : decide ((sA.steps : Int) ≤ m) = false := by simp; omega
      obtain ⟨u1, u2, u3⟩ := hh8 hM
      have p5 : decide (m < (sA.steps : Int)) = true := by simpa using hM
      have p6 : (endP sB != 2) = false := by simpa using u1
      have p7 : ((sB.steps : Int) != m) = false := by simpa using u2
      rw [u3] at xB2 xB3
      clear hM u1 u2 u3 hh6 hh7 hh8 hE
      go_wp2_with fail
      refine (HK1.out w5 HX5.out.1).mono ?_
      intro e w6 hst6
      obtain ⟨fv, av, LV, SV, AV, tag, rfl, hb6, hf6, ha6⟩ := hst6
      obtain ⟨fp, fc, rfl, _⟩ := hf6.row.any
      obtain ⟨ap, ac, rfl, _⟩ := ha6.row.any
      have hA6 : Below w6.heap.size w6 (w6.alloc (.cells #[.slice fp sA.fr.length fc, .slice ap sA.arr.length ac] 53)) := (Below.refl _ _).alloc (Nat.le_refl _) _
      have r6 : (w6.alloc (.cells #[.slice fp sA.fr.length fc, .slice ap sA.arr.length ac] 53)).heap[w6.heap.size]? = some (.cells #[.slice fp sA.fr.length fc, .slice ap sA.arr.length ac] 53 (0, 0)) := Go.Deep.blk_alloc_new _ _
      have hb56 : Below w5.heap.size w5 (w6.alloc (.cells #[.slice fp sA.fr.length fc, .slice ap sA.arr.length ac] 53)) := hb6.trans (hA6.mono hb6.size)
      have H6 := hid (And.intro (HX5.out.1.trans (hb56.mono HX5.out.1.size)) (And.intro r6 (And.intro (hf6.keep (Ch.of_below (p := fun _ => False) hA6) (fun h => h) (fun _ _ => ⟨fun h => h, fun h => h⟩)) (And.intro (ha6.keep (Ch.of_below (p := fun _ => False) hA6) (fun h => h) (fun _ _ h => h)) hb56))))
      clear hb6 hf6 ha6 hA6 r6 hb56
      generalize hnf : sA.fr.length = nf at *
      have HNF := hid hnf
      generalize hna : sA.arr.length = na at *
      have HNA := hid hna
      clear hnf hna
      go_wp2_with fail
      generalize w6.alloc (.cells #[.slice fp nf fc, .slice ap na ac] 53) = W6 at *
      refine (HK2.out W6 H6.out.1).mono ?_
      intro e w7 hst7
      obtain ⟨fv2, av2, LV2, SV2, AV2, tag2, rfl, hb7, hf7, ha7⟩ := hst7
      obtain ⟨fp2, fc2, rfl, _⟩ := hf7.row.any
      obtain ⟨ap2, ac2, rfl, _⟩ := ha7.row.any
      rw [HNF.out] at hf7
      rw [HNA.out] at ha7
      rw [HNF.out, HNA.out]
      have hA7 : Below w7.heap.size w7 (w7.alloc (.cells #[.slice fp2 nf fc2, .slice ap2 na ac2] 53)) := (Below.refl _ _).alloc (Nat.le_refl _) _
      have r7 : (w7.alloc (.cells #[.slice fp2 nf fc2, .slice ap2 na ac2] 53)).heap[w7.heap.size]? = some (.cells #[.slice fp2 nf fc2, .slice ap2 na ac2] 53 (0, 0)) := Go.Deep.blk_alloc_new _ _
      obtain ⟨hX6, r6, hf6, ha6, hb56⟩ := H6.out
      have z6 := heap_lt r6
      have y0 : w7.cell? ⟨w6.heap.size, 0, none⟩ = some (.slice fp nf fc) := (cell_heap ((hb7.block _ z6).trans r6)).trans rfl
      have y1 : w7.cell? ⟨w6.heap.size, 1, none⟩ = some (.slice ap na ac) := (cell_heap ((hb7.block _ z6).trans r6)).trans rfl
      have hne67 : ¬ w6.heap.size = w7.heap.size := by have := hb7.size; omega
      have hlt67 : w6.heap.size < w7.heap.size := by have := hb7.size; omega
      have hb67 := hb7.trans (hA7.mono hb7.size)
      have hst := standsT _ _ _ _ _ _ _ _ _ _ _ _ _ _ _ _ nf _ (hf6.keep (Ch.of_below (p := fun _ => False) hb67) (fun h => h) (fun _ _ => ⟨fun h => h, fun h => h⟩)) (hf7.keep (Ch.of_below (p := fun _ => False) hA7) (fun h => h) (fun _ _ => ⟨fun h => h, fun h => h⟩)) (by rw [HNA.out]; exact ha6.keep (Ch.of_below (p := fun _ => False) hb67) (fun h => h) (fun _ _ h => h)) (by rw [HNA.out]; exact ha7.keep (Ch.of_below (p := fun _ => False) hA7) (fun h => h) (fun _ _ h => h)) (by have := HZ.out.1.fr; rw [HNF.out] at this; omega) (by have := HZ.out.2; rw [HNA.out]; omega) (fun i hi => by have := HZ.out.1.ls _ (frAt_mem (by rw [HNF.out]; exact hi)); omega) (fun j hj => by have := HZ.out.1.al _ (getD_mem hj); omega)
      have HST := hid hst
      have H7 := hid (And.intro (hb56.trans (hb67.mono hb56.size)) r7)
      clear hst hX6 r6 hf6 ha6 hb56 hb7 hf7 ha7 hA7 hb67 r7 z6
      go_wp2_with fail
      refine HST.out.mono ?_
      rintro e w8 ⟨rfl, hb8⟩
      obtain ⟨hb57, r7⟩ := H7.out
      have hb58 := hb57.trans (hb8.mono hb57.size)
      have r8 := (hb8.block _ (heap_lt r7)).trans r7
      have v0 : w8.cell? ⟨w7.heap.size, 0, none⟩ = some (.slice fp2 nf fc2) := (cell_heap r8).trans rfl
      have zA5 : w3.heap.size < w5.heap.size := Nat.lt_of_lt_of_le zA hz5
      have v1 : w8.cell? ⟨w3.heap.size, 0, none⟩ = some (.int .i64 (endP sA)) := (hb58.cell (p := ⟨w3.heap.size, 0, none⟩) zA5).trans xA0
      have HQ := hid ((HB.out.trans (HX5.out.1.mono HB.out.size)).trans (hb58.mono (by have := HB.out.size; have := HX5.out.1.size; omega)))
      have hhal : (nf = 0) ↔ endP sA = 1 := by rw [← hh9, ← HNF.out]; exact List.length_eq_zero_iff
      clear xA0 xA1 xA2 xA3 xA4 xB0 xB1 xB2 xB3 xB4 y0 y1 hb57 r7 hb58 r8 hb8 H7 HST
      by_cases hH : endP sA = 1
      · have m1 : (endP sA == 1) = true := by simpa using hH
        have m2 : ((nf : Int) == 0) = true := by have := hhal.2 hH; simp; omega
        clear hH hhal
        go_wp2
        go_ret
        exact ⟨rfl, HQ.out⟩
      · have m1 : (endP sA == 1) = false := by simpa using hH
        have m2 : ((nf : Int) == 0) = false := by have := fun h => hH (hhal.1 h); simp; omega
        clear hH hhal
        go_wp2
        go_ret
        exact ⟨rfl, HQ.out⟩
    · have p4 : decide ((sA.steps : Int) ≤ m) = true := by simp; omega
      have p5 : decide (m < (sA.steps : Int)) = false := by simpa using hM
      have hBA := hh7 hE (by omega)
      have aA5 := HX5.out.2.1
      have aB5 := HX5.out.2.2.1
      rw [hBA] at aB5
      have hLL : lB = lA := by rw [← HLA.out, ← HLB.out, hBA]
      rw [hBA] at xB0 xB1 xB2 xB3
      have HAL := hid (alikeT w5 (endP sA) (sA.steps : Int) sA.gives (.slice pA lA cA) (.slice pB lB cB) sA.out aA5 aB5 HS.out.lenA)
      clear hM hh6 hh7 hh8 hE hBA aA5 aB5 hLL
      go_wp2_with fail
      refine HAL.out.mono ?_
      rintro e w55 ⟨rfl, hb55⟩
      have hz55 : W4.heap.size ≤ w55.heap.size := by have := hb55.size; omega
      have zA5' : w3.heap.size < w5.heap.size := Nat.lt_of_lt_of_le zA hz5
      have zB5' : w4.heap.size < w5.heap.size := Nat.lt_of_lt_of_le zB hz5
      have HX55 := hid (And.intro (HX5.out.1.trans (hb55.mono HX5.out.1.size)) trivial)
      replace xA0 := (hb55.cell (p := ⟨w3.heap.size, 0, none⟩) zA5').trans xA0
      replace xA1 := (hb55.cell (p := ⟨w3.heap.size, 1, none⟩) zA5').trans xA1
      replace xA2 := (hb55.cell (p := ⟨w3.heap.size, 2, none⟩) zA5').trans xA2
      replace xA3 := (hb55.cell (p := ⟨w3.heap.size, 3, none⟩) zA5').trans xA3
      replace xA4 := (hb55.cell (p := ⟨w3.heap.size, 4, none⟩) zA5').trans xA4
      replace xB0 := (hb55.cell (p := ⟨w4.heap.size, 0, none⟩) zB5').trans xB0
      replace xB1 := (hb55.cell (p := ⟨w4.heap.size, 1, none⟩) zB5').trans xB1
      replace xB2 := (hb55.cell (p := ⟨w4.heap.size, 2, none⟩) zB5').trans xB2
      replace xB3 := (hb55.cell (p := ⟨w4.heap.size, 3, none⟩) zB5').trans xB3
      replace xB4 := (hb55.cell (p := ⟨w4.heap.size, 4, none⟩) zB5').trans xB4
      clear hb55 HX5 HAL
      go_wp2_with fail
      refine (HK1.out w55 HX55.out.1).mono ?_
      intro e w6 hst6
      obtain ⟨fv, av, LV, SV, AV, tag, rfl, hb6, hf6, ha6⟩ := hst6
      obtain ⟨fp, fc, rfl, _⟩ := hf6.row.any
      obtain ⟨ap, ac, rfl, _⟩ := ha6.row.any
      have hA6 : Below w6.heap.size w6 (w6.alloc (.cells #[.slice fp sA.fr.length fc, .slice ap sA.arr.length ac] 53)) := (Below.refl _ _).alloc (Nat.le_refl _) _
      have r6 : (w6.alloc (.cells #[.slice fp sA.fr.length fc, .slice ap sA.arr.length ac] 53)).heap[w6.heap.size]? = some (.cells #[.slice fp sA.fr.length fc, .slice ap sA.arr.length ac] 53 (0, 0)) := Go.Deep.blk_alloc_new _ _
      have hb56 : Below w55.heap.size w55 (w6.alloc (.cells #[.slice fp sA.fr.length fc, .slice ap sA.arr.length ac] 53)) := hb6.trans (hA6.mono hb6.size)
      have H6 := hid (And.intro (HX55.out.1.trans (hb56.mono HX55.out.1.size)) (And.intro r6 (And.intro (hf6.keep (Ch.of_below (p := fun _ => False) hA6) (fun h => h) (fun _ _ => ⟨fun h => h, fun h => h⟩)) (And.intro (ha6.keep (Ch.of_below (p := fun _ => False) hA6) (fun h => h) (fun _ _ h => h)) hb56))))
      clear hb6 hf6 ha6 hA6 r6 hb56
      generalize hnf : sA.fr.length = nf at *
      have HNF := hid hnf
      generalize hna : sA.arr.length = na at *
      have HNA := hid hna
      clear hnf hna
      go_wp2_with fail
      generalize w6.alloc (.cells #[.slice fp nf fc, .slice ap na ac] 53) = W6 at *
      refine (HK2.out W6 H6.out.1).mono ?_
      intro e w7 hst7
      obtain ⟨fv2, av2, LV2, SV2, AV2, tag2, rfl, hb7, hf7, ha7⟩ := hst7
      obtain ⟨fp2, fc2, rfl, _⟩ := hf7.row.any
      obtain ⟨ap2, ac2, rfl, _⟩ := ha7.row.any
      rw [HNF.out] at hf7
      rw [HNA.out] at ha7
      rw [HNF.out, HNA.out]
      have hA7 : Below w7.heap.size w7 (w7.alloc (.cells #[.slice fp2 nf fc2, .slice ap2 na ac2] 53)) := (Below.refl _ _).alloc (Nat.le_refl _) _
      have r7 : (w7.alloc (.cells #[.slice fp2 nf fc2, .slice ap2 na ac2] 53)).heap[w7.heap.size]? = some (.cells #[.slice fp2 nf fc2, .slice ap2 na ac2] 53 (0, 0)) := Go.Deep.blk_alloc_new _ _
      obtain ⟨hX6, r6, hf6, ha6, hb56⟩ := H6.out
      have z6 := heap_lt r6
      have y0 : w7.cell? ⟨w6.heap.size, 0, none⟩ = some (.slice fp nf fc) := (cell_heap ((hb7.block _ z6).trans r6)).trans rfl
      have y1 : w7.cell? ⟨w6.heap.size, 1, none⟩ = some (.slice ap na ac) := (cell_heap ((hb7.block _ z6).trans r6)).trans rfl
      have hne67 : ¬ w6.heap.size = w7.heap.size := by have := hb7.size; omega
      have hlt67 : w6.heap.size < w7.heap.size := by have := hb7.size; omega
      have hb67 := hb7.trans (hA7.mono hb7.size)
      have hst := standsT _ _ _ _ _ _ _ _ _ _ _ _ _ _ _ _ nf _ (hf6.keep (Ch.of_below (p := fun _ => False) hb67) (fun h => h) (fun _ _ => ⟨fun h => h, fun h => h⟩)) (hf7.keep (Ch.of_below (p := fun _ => False) hA7) (fun h => h) (fun _ _ => ⟨fun h => h, fun h => h⟩)) (by rw [HNA.out]; exact ha6.keep (Ch.of_below (p := fun _ => False) hb67) (fun h => h) (fun _ _ h => h)) (by rw [HNA.out]; exact ha7.keep (Ch.of_below (p := fun _ => False) hA7) (fun h => h) (fun _ _ h => h)) (by have := HZ.out.1.fr; rw [HNF.out] at this; omega) (by have := HZ.out.2; rw [HNA.out]; omega) (fun i hi => by have := HZ.out.1.ls _ (frAt_mem (by rw [HNF.out]; exact hi)); omega) (fun j hj => by have := HZ.out.1.al _ (getD_mem hj); omega)
      have HST := hid hst
      have H7 := hid (And.intro (hb56.trans (hb67.mono hb56.size)) r7)
      clear hst hX6 r6 hf6 ha6 hb56 hb7 hf7 ha7 hA7 hb67 r7 z6
      go_wp2_with fail
      refine HST.out.mono ?_
      rintro e w8 ⟨rfl, hb8⟩
      obtain ⟨hb57, r7⟩ := H7.out
      have hb58 := hb57.trans (hb8.mono hb57.size)
      have r8 := (hb8.block _ (heap_lt r7)).trans r7
      have v0 : w8.cell? ⟨w7.heap.size, 0, none⟩ = some (.slice fp2 nf fc2) := (cell_heap r8).trans rfl
      have zA5 : w3.heap.size < w55.heap.size := Nat.lt_of_lt_of_le zA hz55
      have v1 : w8.cell? ⟨w3.heap.size, 0, none⟩ = some (.int .i64 (endP sA)) := (hb58.cell (p := ⟨w3.heap.size, 0, none⟩) zA5).trans xA0
      have HQ := hid ((HB.out.trans (HX55.out.1.mono HB.out.size)).trans (hb58.mono (by have := HB.out.size; have := HX55.out.1.size; omega)))
      have hhal : (nf = 0) ↔ endP sA = 1 := by rw [← hh9, ← HNF.out]; exact List.length_eq_zero_iff
      clear xA0 xA1 xA2 xA3 xA4 xB0 xB1 xB2 xB3 xB4 y0 y1 hb57 r7 hb58 r8 hb8 H7 HST
      by_cases hH : endP sA = 1
      · have m1 : (endP sA == 1) = true := by simpa using hH
        have m2 : ((nf : Int) == 0) = true := by have := hhal.2 hH; simp; omega
        clear hH hhal
        go_wp2
        go_ret
        exact ⟨rfl, HQ.out⟩
      · have m1 : (endP sA == 1) = false := by simpa using hH
        have m2 : ((nf : Int) == 0) = false := by have := fun h => hH (hhal.1 h); simp; omega
        clear hH hhal
        go_wp2
        go_ret
        exact ⟨rfl, HQ.out⟩
end Go.Proofs.YtkafkipjedpohaaGreatDoor
