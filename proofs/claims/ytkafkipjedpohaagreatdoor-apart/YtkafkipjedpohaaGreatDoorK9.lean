import Derived.Test.YtkafkipjedpohaaGreatDoorM32

/-
  Package upshiftkeep: values, alike, stands: of what is the same.
-/
namespace Go.Proofs.YtkafkipjedpohaaGreatDoor
open Go.RowKit

theorem Row.args {w : World} {B : Nat} {tag : Nat → Nat} {c : Nat} {v : Value} {l : List V} (h : Row w B tag c 43 2 v l.length (vcell l)) : ArgsIn w v l := by
  rcases h with ⟨rfl, h0⟩ | ⟨b, cap, cur, rfl, hb, ht, hh, hc, hm, hs, hf⟩
  · exact Or.inl ⟨List.length_eq_zero_iff.1 h0, none, 0, rfl⟩
  · exact Or.inr ⟨b, cap, rfl, heap_lt hh, fun i hi => (cell_heap hh).trans (hf i hi)⟩

theorem ArgsIn.any {w : World} {v : Value} {l : List V} (h : ArgsIn w v l) : ∃ p c, v = .slice p l.length c := by
  rcases h with ⟨rfl, a, c, rfl⟩ | ⟨ab, c, rfl, _⟩
  · exact ⟨a, c, rfl⟩
  · exact ⟨_, c, rfl⟩
theorem ArgsIn.at_ {w : World} {p : Option Addr} {c n : Nat} {l : List V} (h : ArgsIn w (.slice p n c) l) {i : Nat} (hi : i < l.length) : ∃ b, p = some ⟨b, 0, none⟩ ∧ w.cell? ⟨b, i * 2, none⟩ = some (.int .i64 (l.getD i vnil).k) ∧ w.cell? ⟨b, i * 2 + 1, none⟩ = some (.int .i64 (l.getD i vnil).n) := by
  rcases h with ⟨rfl, _⟩ | ⟨ab, c, e, _, hf⟩
  · simp at hi
  · injection e with e1 e2 e3
    refine ⟨ab, e1, (hf (i * 2) (by omega)).trans ?_, (hf (i * 2 + 1) (by omega)).trans ?_⟩
    · unfold vcell
      rw [if_pos (by omega), show i * 2 / 2 = i by omega]
    · unfold vcell
      rw [if_neg (by omega), show (i * 2 + 1) / 2 = i by omega]
theorem ArgsIn.below {w w' : World} {v : Value} {l : List V} (h : ArgsIn w v l) (k : Below w.heap.size w w') : ArgsIn w' v l := by
  rcases h with h | ⟨ab, c, rfl, hab, hf⟩
  · exact Or.inl h
  · exact Or.inr ⟨ab, c, rfl, by have := k.size; omega, fun i hi => (k.cell (p := ⟨ab, i, none⟩) hab).trans (hf i hi)⟩

theorem neqVal (a : V) (X : World) : (binOp .neq 43 (.agg #[.int .i64 a.k, .int .i64 a.n]) (.agg #[.int .i64 a.k, .int .i64 a.n])).run Tryz.prog X = .ok (.bool false) X := by
  have e1 : (a.k == a.k) = true := by simp
  have e2 : (a.n == a.n) = true := by simp
  go_simp

set_option maxRecDepth 100000 in
set_option maxHeartbeats 1000000 in
theorem valuesT (w : World) (v u : Value) (l : List V) (h1 : ArgsIn w v l) (h2 : ArgsIn w u l) (hl : l.length ≤ 200000) :
    Calls Tryz.prog 20 #[v, u] w fun e w' => e = .returned (.bool true) ∧ ∃ k, w' = w.drewN k := by
  obtain ⟨p1, c1, rfl⟩ := h1.any
  obtain ⟨p2, c2, rfl⟩ := h2.any
  have HA := hid (And.intro h1 h2)
  clear h1 h2
  generalize hn : l.length = n at *
  have HN := hid hn
  clear hn
  go_enter Tryz.func20, Tryz.ntmps20
  go_wp2
  go_loopw [5] (fun v wr => ∃ j : Nat, j ≤ n ∧ v = .int .i64 j ∧ ∃ k, wr = w.drewN k) (fun v _ => n - (intOf v).toNat)
  case atStart => exact ⟨0, by omega, rfl, 0, rfl⟩
  case round =>
    obtain ⟨j, hj, rfl, k, hk⟩ := hrel
    subst hk
    by_cases hlt : j < n
    · have hdec : decide ((j : Int) < (n : Int)) = true := by simp; omega
      obtain ⟨b1, e1, x0, x1⟩ := HA.out.1.at_ (i := j) (by rw [HN.out]; exact hlt)
      obtain ⟨b2, e2, y0, y1⟩ := HA.out.2.at_ (i := j) (by rw [HN.out]; exact hlt)
      subst e1 e2
      have i0 : (0 : Int) ≤ (j : Int) := by omega
      have i1 : (j : Int) < (n : Int) := by omega
      generalize l.getD j vnil = x at *
      have hne := neqVal x
      go_wp2_with fail
      go_quiet (fail)
      go_wp2
      exact ⟨⟨j + 1, by omega, by go_num, _, rfl⟩, by simp [intOf]; omega⟩
    · have hdec : decide ((j : Int) < (n : Int)) = false := by simp; omega
      go_wp2
      go_ret
      exact ⟨rfl, k, rfl⟩

theorem valuesB (w : World) (v u : Value) (l : List V) (h1 : ArgsIn w v l) (h2 : ArgsIn w u l) (hl : l.length ≤ 200000) :
    Calls Tryz.prog 20 #[v, u] w fun e w' => e = .returned (.bool true) ∧ Below w.heap.size w w' := by
  refine (valuesT w v u l h1 h2 hl).mono ?_
  rintro e w' ⟨rfl, k, rfl⟩
  exact ⟨rfl, below_drewN (Below.refl _ _) _⟩

set_option maxRecDepth 100000 in
set_option maxHeartbeats 1000000 in
theorem alikeT (w : World) (en st : Int) (g : V) (v u : Value) (l : List V) (h1 : ArgsIn w v l) (h2 : ArgsIn w u l) (hl : l.length ≤ 200000) :
    Calls Tryz.prog 21 #[.agg #[.int .i64 en, .int .i64 st, .int .i64 g.k, .int .i64 g.n, v], .agg #[.int .i64 en, .int .i64 st, .int .i64 g.k, .int .i64 g.n, u]] w fun e w' => e = .returned (.bool true) ∧ Below w.heap.size w w' := by
  obtain ⟨p1, c1, rfl⟩ := h1.any
  obtain ⟨p2, c2, rfl⟩ := h2.any
  have e1 : (en == en) = true := by simp
  have e2 : (st == st) = true := by simp
  have e3 := eqlVal g g true (by simp)
  obtain ⟨W, hWd⟩ : ∃ W, W = (w.alloc (.cells #[.int .i64 en, .int .i64 st, .int .i64 g.k, .int .i64 g.n, .slice p1 l.length c1] 46)).alloc (.cells #[.int .i64 en, .int .i64 st, .int .i64 g.k, .int .i64 g.n, .slice p2 l.length c2] 46) := ⟨_, rfl⟩
  have hW : Below w.heap.size w W := by rw [hWd]; exact ((Below.refl _ _).alloc (Nat.le_refl _) _).alloc (by simp) _
  have r1 : W.heap[w.heap.size]? = some (.cells #[.int .i64 en, .int .i64 st, .int .i64 g.k, .int .i64 g.n, .slice p1 l.length c1] 46 (0, 0)) := by
    rw [hWd]; exact (Below.heap_alloc _ _ _ (by simp)).trans (Go.Deep.blk_alloc_new _ _)
  have r2 : W.heap[w.heap.size + 1]? = some (.cells #[.int .i64 en, .int .i64 st, .int .i64 g.k, .int .i64 g.n, .slice p2 l.length c2] 46 (0, 0)) := by
    rw [hWd]
    have := Go.Deep.blk_alloc_new (w.alloc (.cells #[.int .i64 en, .int .i64 st, .int .i64 g.k, .int .i64 g.n, .slice p1 l.length c1] 46)) (.cells #[.int .i64 en, .int .i64 st, .int .i64 g.k, .int .i64 g.n, .slice p2 l.length c2] 46)
    simpa using this
  have HV := hid (valuesB _ _ _ l (h1.below hW) (h2.below hW) hl)
  have HW := hid (And.intro hW (And.intro r1 r2))
  have HD := hid hWd
  clear h1 h2 hW hWd r1 r2
  generalize l.length = n at *
  go_enter Tryz.func21, Tryz.ntmps21
  go_wp2_with fail
  rw [← HD.out]
  refine HV.out.mono ?_
  rintro e w2 ⟨rfl, hB2⟩
  obtain ⟨hW, r1, r2⟩ := HW.out
  have q1 := (hB2.block _ (heap_lt r1)).trans r1
  have q2 := (hB2.block _ (heap_lt r2)).trans r2
  have HB := hid (hW.trans (hB2.mono hW.size))
  have x0 : w2.cell? ⟨w.heap.size, 0, none⟩ = some (.int .i64 en) := (cell_heap q1).trans rfl
  have x1 : w2.cell? ⟨w.heap.size, 1, none⟩ = some (.int .i64 st) := (cell_heap q1).trans rfl
  have x2 : w2.cell? ⟨w.heap.size, 2, none⟩ = some (.int .i64 g.k) := (cell_heap q1).trans rfl
  have x3 : w2.cell? ⟨w.heap.size, 3, none⟩ = some (.int .i64 g.n) := (cell_heap q1).trans rfl
  have y0 : w2.cell? ⟨w.heap.size + 1, 0, none⟩ = some (.int .i64 en) := (cell_heap q2).trans rfl
  have y1 : w2.cell? ⟨w.heap.size + 1, 1, none⟩ = some (.int .i64 st) := (cell_heap q2).trans rfl
  have y2 : w2.cell? ⟨w.heap.size + 1, 2, none⟩ = some (.int .i64 g.k) := (cell_heap q2).trans rfl
  have y3 : w2.cell? ⟨w.heap.size + 1, 3, none⟩ = some (.int .i64 g.n) := (cell_heap q2).trans rfl
  clear hW r1 r2 q1 q2 hB2 HW HV HD
  go_wp2
  go_ret
  exact ⟨rfl, HB.out⟩

/-- What is read of a frame that went out. -/
theorem FrsOut.at_ {w : World} {B k : Nat} {tag : Nat → Nat} {p : Option Addr} {n c : Nat} {LV SV : Nat → Value} {fr : Nat → Fr} (h : FrsOut w B tag (.slice p n c) LV SV fr k) {i : Nat} (hi : i < k) :
    ∃ b, p = some ⟨b, 0, none⟩ ∧ b < w.heap.size ∧ w.cell? ⟨b, i * 4, none⟩ = some (.int .i64 (fr i).fn) ∧ w.cell? ⟨b, i * 4 + 1, none⟩ = some (.int .i64 (fr i).pc) ∧ w.cell? ⟨b, i * 4 + 2, none⟩ = some (LV i) ∧ w.cell? ⟨b, i * 4 + 3, none⟩ = some (SV i) := by
  have hr := h.row
  obtain ⟨b, cap, e, _, hz, _, _⟩ := hr.form (by omega)
  injection e with e1 e2 e3
  subst e1 e2 e3
  refine ⟨b, rfl, hz, (hr.cell (i := i * 4) (by omega)).trans ?_, (hr.cell (i := i * 4 + 1) (by omega)).trans ?_, (hr.cell (i := i * 4 + 2) (by omega)).trans ?_, (hr.cell (i := i * 4 + 3) (by omega)).trans ?_⟩
  · unfold gcell; rw [if_pos (by omega), show i * 4 / 4 = i by omega]
  · unfold gcell; rw [if_neg (by omega), if_pos (by omega), show (i * 4 + 1) / 4 = i by omega]
  · unfold gcell; rw [if_neg (by omega), if_neg (by omega), if_pos (by omega), show (i * 4 + 2) / 4 = i by omega]
  · unfold gcell; rw [if_neg (by omega), if_neg (by omega), if_neg (by omega), show (i * 4 + 3) / 4 = i by omega]
theorem ArsOut.at_ {w : World} {B k : Nat} {tag : Nat → Nat} {p : Option Addr} {n c : Nat} {AV : Nat → Value} {arr : List (List V)} (h : ArsOut w B tag (.slice p n c) AV arr k) {i : Nat} (hi : i < k) :
    ∃ b, p = some ⟨b, 0, none⟩ ∧ b < w.heap.size ∧ w.cell? ⟨b, i, none⟩ = some (AV i) := by
  have hr := h.row
  obtain ⟨b, cap, e, _, hz, _, _⟩ := hr.form (by omega)
  injection e with e1 e2 e3
  subst e1 e2 e3
  exact ⟨b, rfl, hz, hr.cell (i := i) (by omega)⟩

set_option maxRecDepth 100000 in
set_option maxHeartbeats 2000000 in
theorem standsT (w : World) (B1 B2 : Nat) (t1 t2 : Nat → Nat) (f1 f2 a1 a2 : Value) (L1 S1 V1 L2 S2 V2 : Nat → Value) (fr : Nat → Fr) (n : Nat) (arr : List (List V)) (hf1 : FrsOut w B1 t1 f1 L1 S1 fr n) (hf2 : FrsOut w B2 t2 f2 L2 S2 fr n) (ha1 : ArsOut w B1 t1 a1 V1 arr arr.length) (ha2 : ArsOut w B2 t2 a2 V2 arr arr.length)
    (hn : n ≤ 1000) (har : arr.length ≤ 200000) (hls : ∀ i, i < n → (fr i).loc.length ≤ 200000 ∧ (fr i).stk.length ≤ 200000) (hal : ∀ j, j < arr.length → (arr.getD j []).length ≤ 200000) :
    Calls Tryz.prog 23 #[.agg #[f1, a1], .agg #[f2, a2]] w fun e w' => e = .returned (.bool true) ∧ Below w.heap.size w w' := by
  obtain ⟨fp1, fc1, rfl, _⟩ := hf1.row.any
  obtain ⟨fp2, fc2, rfl, _⟩ := hf2.row.any
  obtain ⟨ap1, ac1, rfl, _⟩ := ha1.row.any
  obtain ⟨ap2, ac2, rfl, _⟩ := ha2.row.any
  generalize hna : arr.length = na at *
  obtain ⟨W, hWd⟩ : ∃ W, W = (w.alloc (.cells #[.slice fp1 n fc1, .slice ap1 na ac1] 53)).alloc (.cells #[.slice fp2 n fc2, .slice ap2 na ac2] 53) := ⟨_, rfl⟩
  have hW : Below w.heap.size w W := by rw [hWd]; exact ((Below.refl _ _).alloc (Nat.le_refl _) _).alloc (by simp) _
  have r1 : W.heap[w.heap.size]? = some (.cells #[.slice fp1 n fc1, .slice ap1 na ac1] 53 (0, 0)) := by
    rw [hWd]; exact (Below.heap_alloc _ _ _ (by simp)).trans (Go.Deep.blk_alloc_new _ _)
  have r2 : W.heap[w.heap.size + 1]? = some (.cells #[.slice fp2 n fc2, .slice ap2 na ac2] 53 (0, 0)) := by
    rw [hWd]
    have := Go.Deep.blk_alloc_new (w.alloc (.cells #[.slice fp1 n fc1, .slice ap1 na ac1] 53)) (.cells #[.slice fp2 n fc2, .slice ap2 na ac2] 53)
    simpa using this
  have HW := hid (And.intro hW (And.intro r1 r2))
  have HD := hid hWd
  have HF := hid (And.intro hf1 (And.intro hf2 (And.intro ha1 (And.intro ha2 (And.intro hls hal)))))
  have HNA := hid hna
  have k1 : (n != n) = false := by simp
  have k2 : (na != na) = false := by simp
  clear hf1 hf2 ha1 ha2 hW hWd r1 r2 hls hal hna
  go_enter Tryz.func23, Tryz.ntmps23
  go_wp2_with fail
  rw [← HD.out]
  go_loopw [5] (fun v wr => ∃ j : Nat, j ≤ n ∧ v = .int .i64 j ∧ Below W.heap.size W wr) (fun v _ => n - (intOf v).toNat)
  case atStart => exact ⟨0, by omega, rfl, Below.refl _ _⟩
  case round =>
    obtain ⟨j, hj, rfl, hBr⟩ := hrel
    obtain ⟨hW, r1, r2⟩ := HW.out
    have q1 := (hBr.block _ (heap_lt r1)).trans r1
    have q2 := (hBr.block _ (heap_lt r2)).trans r2
    have s1 : wr.cell? ⟨w.heap.size, 0, none⟩ = some (.slice fp1 n fc1) := (cell_heap q1).trans rfl
    have s2 : wr.cell? ⟨w.heap.size + 1, 0, none⟩ = some (.slice fp2 n fc2) := (cell_heap q2).trans rfl
    have hWr : Below w.heap.size w wr := hW.trans (hBr.mono hW.size)
    have hz1 := heap_lt q1
    have hz2 := heap_lt q2
    by_cases hlt : j < n
    · have hdec : decide ((j : Int) < (n : Int)) = true := by simp; omega
      obtain ⟨b1, e1, bz1, x0, x1, x2, x3⟩ := HF.out.1.at_ hlt
      obtain ⟨b2, e2, bz2, y0, y1, y2, y3⟩ := HF.out.2.1.at_ hlt
      subst e1 e2
      have g1 := ((HF.out.1.loc j hlt).args).below hWr
      have g2 := ((HF.out.2.1.loc j hlt).args).below hWr
      have g3 := (HF.out.1.stk j hlt).below hWr
      have g4 := (HF.out.2.1.stk j hlt).below hWr
      obtain ⟨hl1, hl2⟩ := HF.out.2.2.2.2.1 j hlt
      have hlr : (fr j).stk.length = (fr j).stk.reverse.length := by simp
      rw [hlr] at g3 g4
      have g3 := g3.args
      have g4 := g4.args
      replace x0 := (hWr.cell (p := ⟨b1, j * 4, none⟩) bz1).trans x0
      replace x1 := (hWr.cell (p := ⟨b1, j * 4 + 1, none⟩) bz1).trans x1
      replace x2 := (hWr.cell (p := ⟨b1, j * 4 + 2, none⟩) bz1).trans x2
      replace x3 := (hWr.cell (p := ⟨b1, j * 4 + 3, none⟩) bz1).trans x3
      replace y0 := (hWr.cell (p := ⟨b2, j * 4, none⟩) bz2).trans y0
      replace y1 := (hWr.cell (p := ⟨b2, j * 4 + 1, none⟩) bz2).trans y1
      replace y2 := (hWr.cell (p := ⟨b2, j * 4 + 2, none⟩) bz2).trans y2
      replace y3 := (hWr.cell (p := ⟨b2, j * 4 + 3, none⟩) bz2).trans y3
      have bw1 : b1 < wr.heap.size := by have := hWr.size; omega
      have bw2 : b2 < wr.heap.size := by have := hWr.size; omega
      obtain ⟨lp1, lc1, el1⟩ := g1.any
      obtain ⟨lp2, lc2, el2⟩ := g2.any
      obtain ⟨sp1, sc1, es1⟩ := g3.any
      obtain ⟨sp2, sc2, es2⟩ := g4.any
      rw [el1] at x2 g1
      rw [el2] at y2 g2
      rw [es1, List.length_reverse] at x3
      rw [es2, List.length_reverse] at y3
      rw [es1] at g3
      rw [es2] at g4
      have i0 : (0 : Int) ≤ (j : Int) := by omega
      have i1 : (j : Int) < (n : Int) := by omega
      have HG := hid (And.intro g1 (And.intro g2 (And.intro g3 g4)))
      have HX := hid (And.intro x0 (And.intro x1 (And.intro x3 (And.intro y0 (And.intro y1 (And.intro y3 (And.intro s1 (And.intro s2 (And.intro x2 y2)))))))))
      have HBr := hid hBr
      clear g1 g2 g3 g4 x0 x1 x3 y0 y1 y3 hW r1 r2 q1 q2 hWr el1 el2 es1 es2 hBr hlr
      generalize hfj : fr j = f at *
      clear hfj
      go_wp2_with fail
      refine region_lex (fun w' => w'.cell? ⟨w.heap.size, 0, none⟩ = some (.slice (some ⟨b1, 0, none⟩) n fc1) ∧ w'.cell? ⟨w.heap.size + 1, 0, none⟩ = some (.slice (some ⟨b2, 0, none⟩) n fc2) ∧ w'.cell? ⟨b1, j * 4 + 2, none⟩ = some (.slice lp1 f.loc.length lc1) ∧ w'.cell? ⟨b2, j * 4 + 2, none⟩ = some (.slice lp2 f.loc.length lc2)) [(false, 0), (false, 1), (false, 2), (false, 3), (false, 4), (false, 5), (false, 6), (false, 7), (false, 8), (false, 9), (false, 10), (false, 11), (true, 12), (false, 13)] (by kernel_rfl) (by kernel_rfl) (fun c0 a0 d0 v0 x0 h0 => panic_body (P := Tryz.prog) Tryz.f23 (fun e w' => e = .returned (.bool true) ∧ Below w.heap.size w w') c0 a0 d0 v0 x0 h0) ⟨s1, s2, x2, y2⟩ ?_
      simp only [lexL, List.getElem?_cons_zero, List.getElem?_cons_succ]
      clear s1 s2 x2 y2
      iterate 12 (refine lexW_free (by rfl) (by intro w' hS'; obtain ⟨o0, o1, o2, o3⟩ := hS'; go_simp; exact rfl) ?_; simp only [Act.put, List.setIfInBounds_toArray, List.set_cons_zero, List.set_cons_succ])
      refine lexW_sole (fun K hK => ?_)
      go_simp
      refine (valuesB wr.drew _ _ f.loc (HG.out.1.below (Below.refl _ _).drew) (HG.out.2.1.below (Below.refl _ _).drew) hl1).mono ?_
      rintro e w3 ⟨rfl, hB3⟩
      obtain ⟨x0, x1, x3, y0, y1, y3, s1, s2, x2, y2⟩ := HX.out
      have cc : ∀ a : Addr, a.block < wr.heap.size → w3.cell? a = wr.cell? a := fun a ha => hB3.cell (p := a) ha
      have hz3 : wr.heap.size ≤ w3.heap.size := hB3.size
      replace x0 := (cc ⟨b1, _, none⟩ bw1).trans x0
      replace x1 := (cc ⟨b1, _, none⟩ bw1).trans x1
      replace x2 := (cc ⟨b1, _, none⟩ bw1).trans x2
      replace x3 := (cc ⟨b1, _, none⟩ bw1).trans x3
      replace y0 := (cc ⟨b2, _, none⟩ bw2).trans y0
      replace y1 := (cc ⟨b2, _, none⟩ bw2).trans y1
      replace y2 := (cc ⟨b2, _, none⟩ bw2).trans y2
      replace y3 := (cc ⟨b2, _, none⟩ bw2).trans y3
      replace s1 := (cc ⟨w.heap.size, _, none⟩ hz1).trans s1
      replace s2 := (cc ⟨w.heap.size + 1, _, none⟩ hz2).trans s2
      refine hK.out _ _ ⟨s1, s2, x2, y2⟩ ?_
      clear hK K HX cc
      have HX := hid (And.intro x0 (And.intro x1 (And.intro y0 (And.intro y1 (And.intro s1 (And.intro s2 (And.intro x3 y3)))))))
      have HB3 := hid (HBr.out.drew.trans (hB3.mono (by exact HBr.out.size)))
      clear x0 x1 x2 x3 y0 y1 y2 y3 s1 s2 HBr
      have HG2 := hid (And.intro ((HG.out.2.2.1.below (Below.refl _ _).drew).below hB3) ((HG.out.2.2.2.below (Below.refl _ _).drew).below hB3))
      clear hB3 HG
      refine lexW_free (by rfl) (by intro w' hS'; go_simp; exact rfl) ?_
      simp only [Act.put, List.setIfInBounds_toArray, List.set_cons_zero, List.set_cons_succ]
      refine lexW_done ?_
      go_wp2_with fail
      obtain ⟨x0, x1, y0, y1, s1, s2, x3, y3⟩ := HX.out
      refine region_lex (fun w' => w'.cell? ⟨w.heap.size, 0, none⟩ = some (.slice (some ⟨b1, 0, none⟩) n fc1) ∧ w'.cell? ⟨w.heap.size + 1, 0, none⟩ = some (.slice (some ⟨b2, 0, none⟩) n fc2) ∧ w'.cell? ⟨b1, j * 4 + 3, none⟩ = some (.slice sp1 f.stk.length sc1) ∧ w'.cell? ⟨b2, j * 4 + 3, none⟩ = some (.slice sp2 f.stk.length sc2)) [(false, 0), (false, 1), (false, 2), (false, 3), (false, 4), (false, 5), (false, 6), (false, 7), (false, 8), (false, 9), (false, 10), (false, 11), (true, 12), (false, 13)] (by kernel_rfl) (by kernel_rfl) (fun c0 a0 d0 v0 x0 h0 => panic_body (P := Tryz.prog) Tryz.f23 (fun e w' => e = .returned (.bool true) ∧ Below w.heap.size w w') c0 a0 d0 v0 x0 h0) ⟨s1, s2, x3, y3⟩ ?_
      simp only [lexL, List.getElem?_cons_zero, List.getElem?_cons_succ]
      clear x0 x1 y0 y1 s1 s2 x3 y3
      iterate 12 (refine lexW_free (by rfl) (by intro w' hS'; obtain ⟨o0, o1, o2, o3⟩ := hS'; go_simp; exact rfl) ?_; simp only [Act.put, List.setIfInBounds_toArray, List.set_cons_zero, List.set_cons_succ])
      refine lexW_sole (fun K hK => ?_)
      go_simp
      have hv := valuesB w3.drew _ _ f.stk.reverse (HG2.out.1.below (Below.refl _ _).drew) (HG2.out.2.below (Below.refl _ _).drew) (by rw [List.length_reverse]; exact hl2)
      rw [List.length_reverse] at hv
      refine hv.mono ?_
      clear hv
      rintro e w4 ⟨rfl, hB4⟩
      obtain ⟨x0, x1, y0, y1, s1, s2, x3, y3⟩ := HX.out
      have cc : ∀ a : Addr, a.block < w3.heap.size → w4.cell? a = w3.cell? a := fun a ha => hB4.cell (p := a) ha
      replace x0 := (cc ⟨b1, _, none⟩ (Nat.lt_of_lt_of_le bw1 hz3)).trans x0
      replace x1 := (cc ⟨b1, _, none⟩ (Nat.lt_of_lt_of_le bw1 hz3)).trans x1
      replace x3 := (cc ⟨b1, _, none⟩ (Nat.lt_of_lt_of_le bw1 hz3)).trans x3
      replace y0 := (cc ⟨b2, _, none⟩ (Nat.lt_of_lt_of_le bw2 hz3)).trans y0
      replace y1 := (cc ⟨b2, _, none⟩ (Nat.lt_of_lt_of_le bw2 hz3)).trans y1
      replace y3 := (cc ⟨b2, _, none⟩ (Nat.lt_of_lt_of_le bw2 hz3)).trans y3
      replace s1 := (cc ⟨w.heap.size, _, none⟩ (Nat.lt_of_lt_of_le hz1 hz3)).trans s1
      replace s2 := (cc ⟨w.heap.size + 1, _, none⟩ (Nat.lt_of_lt_of_le hz2 hz3)).trans s2
      refine hK.out _ _ ⟨s1, s2, x3, y3⟩ ?_
      clear hK K HX cc x3 y3
      have HB4 := hid (HB3.out.drew.trans (hB4.mono (by exact HB3.out.size)))
      clear hB4 HB3 HG2
      refine lexW_free (by rfl) (by intro w' hS'; go_simp; exact rfl) ?_
      simp only [Act.put, List.setIfInBounds_toArray, List.set_cons_zero, List.set_cons_succ]
      refine lexW_done ?_
      generalize hfn : (f.fn : Int) = ffn at *
      generalize hpc : (f.pc : Int) = fpc at *
      clear hfn hpc
      have e0 : (ffn != ffn) = false := by simp
      have e0' : (fpc != fpc) = false := by simp
      go_wp2_with fail
      go_quiet (fail)
      go_wp2
      exact ⟨⟨j + 1, by omega, by go_num, below_drewN HB4.out _⟩, by simp [intOf]; omega⟩
    · have hdec : decide ((j : Int) < (n : Int)) = false := by simp; omega
      have HB0 := hid hBr
      clear hBr hW r1 r2 q1 q2 hWr hz1 hz2
      go_wp2_with fail
      clear s1 s2
      go_loopw [8] (fun v wr => ∃ i : Nat, i ≤ na ∧ v = .int .i64 i ∧ Below W.heap.size W wr) (fun v _ => na - (intOf v).toNat)
      case atStart => exact ⟨0, by omega, rfl, HB0.out⟩
      case round =>
        obtain ⟨i, hi, rfl, hBr⟩ := hrel
        obtain ⟨hW, r1, r2⟩ := HW.out
        have q1 := (hBr.block _ (heap_lt r1)).trans r1
        have q2 := (hBr.block _ (heap_lt r2)).trans r2
        have s1 : wr.cell? ⟨w.heap.size, 1, none⟩ = some (.slice ap1 na ac1) := (cell_heap q1).trans rfl
        have s2 : wr.cell? ⟨w.heap.size + 1, 1, none⟩ = some (.slice ap2 na ac2) := (cell_heap q2).trans rfl
        have hWr : Below w.heap.size w wr := hW.trans (hBr.mono hW.size)
        have hz1 := heap_lt q1
        have hz2 := heap_lt q2
        have HBr := hid hBr
        by_cases hlt2 : i < na
        · have hdec2 : decide ((i : Int) < (na : Int)) = true := by simp; omega
          obtain ⟨b1, e1, bz1, x0⟩ := HF.out.2.2.1.at_ hlt2
          obtain ⟨b2, e2, bz2, y0⟩ := HF.out.2.2.2.1.at_ hlt2
          subst e1 e2
          have g1 := ((HF.out.2.2.1.arr i hlt2).args).below hWr
          have g2 := ((HF.out.2.2.2.1.arr i hlt2).args).below hWr
          have hl1 := HF.out.2.2.2.2.2 i hlt2
          replace x0 := (hWr.cell (p := ⟨b1, i, none⟩) bz1).trans x0
          replace y0 := (hWr.cell (p := ⟨b2, i, none⟩) bz2).trans y0
          have bw1 : b1 < wr.heap.size := by have := hWr.size; omega
          have bw2 : b2 < wr.heap.size := by have := hWr.size; omega
          obtain ⟨lp1, lc1, el1⟩ := g1.any
          obtain ⟨lp2, lc2, el2⟩ := g2.any
          rw [el1] at x0 g1
          rw [el2] at y0 g2
          have i0 : (0 : Int) ≤ (i : Int) := by omega
          have i1 : (i : Int) < (na : Int) := by omega
          have HG := hid (And.intro g1 g2)
          have HX := hid (And.intro s1 (And.intro s2 (And.intro x0 y0)))
          clear g1 g2 hW r1 r2 q1 q2 hWr el1 el2 hBr
          generalize hfj : arr.getD i [] = l at *
          clear hfj
          go_wp2_with fail
          refine region_lex (fun w' => w'.cell? ⟨w.heap.size, 1, none⟩ = some (.slice (some ⟨b1, 0, none⟩) na ac1) ∧ w'.cell? ⟨w.heap.size + 1, 1, none⟩ = some (.slice (some ⟨b2, 0, none⟩) na ac2) ∧ w'.cell? ⟨b1, i, none⟩ = some (.slice lp1 l.length lc1) ∧ w'.cell? ⟨b2, i, none⟩ = some (.slice lp2 l.length lc2)) [(false, 0), (false, 1), (false, 2), (false, 3), (false, 4), (false, 5), (false, 6), (false, 7), (false, 8), (false, 9), (true, 10), (false, 11)] (by kernel_rfl) (by kernel_rfl) (fun c0 a0 d0 v0 x0 h0 => panic_body (P := Tryz.prog) Tryz.f23 (fun e w' => e = .returned (.bool true) ∧ Below w.heap.size w w') c0 a0 d0 v0 x0 h0) ⟨s1, s2, x0, y0⟩ ?_
          simp only [lexL, List.getElem?_cons_zero, List.getElem?_cons_succ]
          clear s1 s2 x0 y0
          iterate 10 (refine lexW_free (by rfl) (by intro w' hS'; obtain ⟨o0, o1, o2, o3⟩ := hS'; go_simp; exact rfl) ?_; simp only [Act.put, List.setIfInBounds_toArray, List.set_cons_zero, List.set_cons_succ])
          refine lexW_sole (fun K hK => ?_)
          go_simp
          refine (valuesB wr.drew _ _ l (HG.out.1.below (Below.refl _ _).drew) (HG.out.2.below (Below.refl _ _).drew) hl1).mono ?_
          rintro e w3 ⟨rfl, hB3⟩
          obtain ⟨s1, s2, x0, y0⟩ := HX.out
          refine hK.out _ _ ⟨(hB3.cell (p := ⟨w.heap.size, 1, none⟩) hz1).trans s1, (hB3.cell (p := ⟨w.heap.size + 1, 1, none⟩) hz2).trans s2, (hB3.cell (p := ⟨b1, i, none⟩) bw1).trans x0, (hB3.cell (p := ⟨b2, i, none⟩) bw2).trans y0⟩ ?_
          clear hK K s1 s2 x0 y0
          have HB3 := hid (HBr.out.drew.trans (hB3.mono (by exact HBr.out.size)))
          clear hB3 HBr HG
          refine lexW_free (by rfl) (by intro w' hS'; go_simp; exact rfl) ?_
          simp only [Act.put, List.setIfInBounds_toArray, List.set_cons_zero, List.set_cons_succ]
          refine lexW_done ?_
          go_wp2
          exact ⟨⟨i + 1, by omega, by go_num, HB3.out⟩, by simp [intOf]; omega⟩
        · have hdec2 : decide ((i : Int) < (na : Int)) = false := by simp; omega
          have HQ := hid hWr
          clear hBr hW r1 r2 q1 q2 hWr
          go_wp2
          go_ret
          exact ⟨rfl, HQ.out⟩
end Go.Proofs.YtkafkipjedpohaaGreatDoor
