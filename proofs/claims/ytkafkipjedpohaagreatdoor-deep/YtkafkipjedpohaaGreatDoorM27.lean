import Derived.Test.YtkafkipjedpohaaGreatDoorM24
import Derived.Test.YtkafkipjedpohaaGreatDoorM26

/-
  The project's machine: Shift, Run.
-/
namespace Go.Proofs.YtkafkipjedpohaaGreatDoor
open Go.RowKit

/-- Ahead of its first frame. -/
def mc0 : Mc := ⟨[], [], [], vnil, 0, 0, [], fun _ => false, 0, 0, 0⟩

theorem Tryz.infoStretches : (Tryz.prog.info? 136).map (fun i => (i.zero, i.size, i.bytes)) = some (some (.slice none 0 0), 1, 24) := by kernel_rfl

def nilArr (n : Nat) : Array Value := madeCells #[.slice none 0 0] (n * 1)
theorem make_made (n : Nat) (hn : n ≤ 1000) (wx : World) : (Instr.makeSlice 125 (.int .i64 n) (.int .i64 n)).run Tryz.prog wx = .ok (.slice (some ⟨wx.heap.size, 0, none⟩) n n) (wx.alloc (.cells (nilArr n) 136)) :=
  run_make_rows (P := Tryz.prog) 125 136 _ _ 1 24 Tryz.underlying125 Tryz.infoStretches rfl .i64 .i64 n (by omega) (by omega) wx

/-- A machine that has no frame yet. -/
theorem MSt.fresh (w : World) (m : Nat) (F : Nat → PF) (pv ev : Value) (hm : m ≤ 1000) (hPg : Pg w w.heap.size pv m F) :
    ∃ A : AdM, MSt ((w.alloc (.cells (nilArr m) 136)).alloc (.cells #[pv, ev, .slice (some ⟨w.heap.size, 0, none⟩) m m, .slice none 0 0, .slice none 0 0, .int .i64 0, .slice none 0 0, .int .i64 0, .int .i64 0, .int .i64 0, .int .i64 0, .int .i64 0, .int .i64 0, .int .i64 0] 130)) w.heap.size (w.heap.size + 1) m F (fun _ => .slice none 0 0) A mc0 0 ∧ A.g.ev = ev ∧ A.g.pv = pv := by
  have hbl : Below w.heap.size w ((w.alloc (.cells (nilArr m) 136)).alloc (.cells #[pv, ev, .slice (some ⟨w.heap.size, 0, none⟩) m m, .slice none 0 0, .slice none 0 0, .int .i64 0, .slice none 0 0, .int .i64 0, .int .i64 0, .int .i64 0, .int .i64 0, .int .i64 0, .int .i64 0, .int .i64 0] 130)) := ((Below.refl _ _).alloc (Nat.le_refl _) _).alloc (by simp) _
  have hrun : ((w.alloc (.cells (nilArr m) 136)).alloc (.cells #[pv, ev, .slice (some ⟨w.heap.size, 0, none⟩) m m, .slice none 0 0, .slice none 0 0, .int .i64 0, .slice none 0 0, .int .i64 0, .int .i64 0, .int .i64 0, .int .i64 0, .int .i64 0, .int .i64 0, .int .i64 0] 130)).heap[w.heap.size + 1]? = some (.cells #[pv, ev, .slice (some ⟨w.heap.size, 0, none⟩) m m, .slice none 0 0, .slice none 0 0, .int .i64 0, .slice none 0 0, .int .i64 0, .int .i64 0, .int .i64 0, .int .i64 0, .int .i64 0, .int .i64 0, .int .i64 0] 130 (0, 0)) := by
    have := Go.Deep.blk_alloc_new (w.alloc (.cells (nilArr m) 136)) (.cells #[pv, ev, .slice (some ⟨w.heap.size, 0, none⟩) m m, .slice none 0 0, .slice none 0 0, .int .i64 0, .slice none 0 0, .int .i64 0, .int .i64 0, .int .i64 0, .int .i64 0, .int .i64 0, .int .i64 0, .int .i64 0] 130)
    simpa using this
  have hmade : ((w.alloc (.cells (nilArr m) 136)).alloc (.cells #[pv, ev, .slice (some ⟨w.heap.size, 0, none⟩) m m, .slice none 0 0, .slice none 0 0, .int .i64 0, .slice none 0 0, .int .i64 0, .int .i64 0, .int .i64 0, .int .i64 0, .int .i64 0, .int .i64 0, .int .i64 0] 130)).heap[w.heap.size]? = some (.cells (nilArr m) 136 (0, 0)) := (Below.heap_alloc _ _ _ (by simp)).trans (Go.Deep.blk_alloc_new _ _)
  refine ⟨⟨fun b => if b = w.heap.size + 1 then 0 else if b = w.heap.size then 6 else 99, ⟨pv, ev, .slice (some ⟨w.heap.size, 0, none⟩) m m, fun _ => 0, fun _ => .slice none 0 0, 0, 0, 0⟩, .slice none 0 0, .slice none 0 0, .slice none 0 0, fun _ => .slice none 0 0, fun _ => .slice none 0 0, fun _ => .slice none 0 0⟩, ⟨⟨hrun, ⟨Nat.le_succ _, by simp⟩, Row.nil _ _ _ _ _ _ _, fun i hi => ?_, Row.nil _ _ _ _ _ _ _, Row.nil _ _ _ _ _ _ _, fun i hi => ?_, fun i hi => ?_, fun i hi => ?_⟩, rfl, fun i hi => ?_, ⟨rfl, rfl, rfl⟩, ?_, fun k _ => Or.inl ⟨rfl, rfl⟩, hPg.below hbl, hbl.size⟩, rfl, rfl⟩
  · exact absurd hi (by simp [mc0])
  · exact absurd hi (by simp [mc0])
  · exact absurd hi (by simp [mc0])
  · exact absurd hi (by simp [mc0])
  · exact absurd hi (by simp [mc0])
  · refine Or.inr ⟨w.heap.size, m, nilArr m, rfl, Nat.le_refl _, by simp, hmade, Nat.le_refl _, by unfold maxLen; omega, by simp [nilArr, size_madeCells], fun i hi => ?_⟩
    have hi' : i < m := by omega
    simp [nilArr, madeCells, hi', Nat.mod_one]

/-- How it ended is set down. -/
theorem LayM.ended {w : World} {B mb : Nat} {A : AdM} {s : Mc} {en : Int} (h : LayM w B mb A s en) (e' : Int) :
    LayM (w.setCell ⟨mb, 11, none⟩ (.int .i64 e')) B mb A s e' ∧ Ch B (fun d => d = 0) A.tag A.tag w (w.setCell ⟨mb, 11, none⟩ (.int .i64 e')) := by
  have hc : Ch B (fun d => d = 0) A.tag A.tag w (w.setCell ⟨mb, 11, none⟩ (.int .i64 e')) := Ch.set w _ _ _ h.own.1 h.own.2
  refine ⟨⟨heap_set h.run _, h.own, h.fr.keep hc (by omega), fun i hi => ?_, h.ar.keep hc (by omega), h.out.keep hc (by omega), fun i hi => (h.loc i hi).keep hc (by omega), fun i hi => (h.stk i hi).keep hc (by omega), fun j hj => (h.arr j hj).keep hc (by omega)⟩, hc⟩
  obtain ⟨g1, g2, g3⟩ := h.fb i hi
  obtain ⟨g4, g5⟩ := blk_keep g1 hc (by rw [g3]; omega)
  exact ⟨g4, g2, g5.trans g3⟩

/-- The fuel that counts. -/
def fuelP (n : Int) : Nat := (min (max n 0) 100000).toNat
theorem fuel_is (n : Int) : min (max n 0) 100000 = (fuelP n : Int) := by unfold fuelP; omega
theorem fuel_le (n : Int) : fuelP n ≤ 100000 := by unfold fuelP; omega

/-- The state of a run of at most so much fuel. -/
def atP (F : Nat → PF) (fuel : Int) : Mc := nthP F (startP F) (fuelP fuel)

/-- The state of a run with events, of at most so much fuel. -/
def atE (F : Nat → PF) (E : List Ev) (fuel : Int) : Mc := (evS F (startP F) E (fuelP fuel)).1
theorem evs_nil (F : Nat → PF) (s : Mc) : ∀ n, evS F s [] n = (nthP F s n, [])
  | 0 => rfl
  | n + 1 => by
    show (if (evS F s [] n).1.fin = 0 then (if (stepP F (evS F s [] n).1).fin = 0 then metP F (evS F s [] n).2 (stepP F (evS F s [] n).1) else (stepP F (evS F s [] n).1, (evS F s [] n).2)) else evS F s [] n) = (if (nthP F s n).fin = 0 then stepP F (nthP F s n) else nthP F s n, [])
    rw [evs_nil F s n]
    dsimp only
    by_cases h : (nthP F s n).fin = 0
    · rw [if_pos h, if_pos h]
      split <;> rfl
    · rw [if_neg h, if_neg h]
theorem atE_nil (F : Nat → PF) (fuel : Int) : atE F [] fuel = atP F fuel := by unfold atE atP; rw [evs_nil]

/-- Events as a run takes them. -/
structure EvsOk (m : Nat) (E : List Ev) : Prop where
  rise : Rising 0 E
  ok : ∀ e, e ∈ E → EvOk m e
  few : E.length ≤ 1000
theorem EvsOk.nil (m : Nat) : EvsOk m [] := ⟨trivial, fun e he => (by cases he), Nat.zero_le _⟩

set_option maxRecDepth 100000 in
set_option maxHeartbeats 1000000 in
theorem shiftM (w : World) (m : Nat) (pv : Value) (F : Nat → PF) (K : Nat → Nat → Bool) (H : Nat → Nat → Int) (fuel : Int) (ev : Value) (E : List Ev) (hE : EvsOk m E) (hEv : EvV w w.heap.size ev E) (hCp : CapsAt w w.heap.size pv m F) (hPg : Pg w w.heap.size pv m F) (hF : Fine m F K H) :
    Calls Tryz.prog 45 #[pv, ev, .int .i64 fuel] w fun e w' => ∃ mb, e = .returned (.pointer (some ⟨mb, 0, none⟩)) ∧ Below w.heap.size w w' ∧ ∃ (A' : AdM) (MV' : Nat → Value), MSt w' w.heap.size mb m F MV' A' (atE F E fuel) (endP (atE F E fuel)) := by
  obtain ⟨A0, m0, ev0, pv0⟩ := MSt.fresh w m F pv ev (by have := hF.size; omega) hPg
  have hl := (hF.fn 0 hF.size.1).locals
  have hnf := newFrameM _ w.heap.size (w.heap.size + 1) m A0 mc0 0 F _ 0 [] (.slice none 0 0) m0 hF.size.1 (Or.inl ⟨rfl, none, 0, rfl⟩) hl.1 hl.2 (by simpa using hl.1) (by simp [mc0])
  have hbl : Below w.heap.size w ((w.alloc (.cells (nilArr m) 136)).alloc (.cells #[pv, ev, .slice (some ⟨w.heap.size, 0, none⟩) m m, .slice none 0 0, .slice none 0 0, .int .i64 0, .slice none 0 0, .int .i64 0, .int .i64 0, .int .i64 0, .int .i64 0, .int .i64 0, .int .i64 0, .int .i64 0] 130)) := ((Below.refl _ _).alloc (Nat.le_refl _) _).alloc (by simp) _
  have hmk := make_made m (by have := hF.size; omega)
  have hpvf : ∃ p c, pv = .slice p m c := by obtain ⟨pb, po, pc, CA, CC, h, _⟩ := hPg.at_; exact ⟨_, _, h⟩
  obtain ⟨pp, pcp, rfl⟩ := hpvf
  have hevf : ∃ p n c, ev = .slice p n c := by obtain ⟨p, c, h, _⟩ := hEv; exact ⟨_, _, _, h⟩
  obtain ⟨ep, en0, ec, rfl⟩ := hevf
  have HN := hid (And.intro hnf (And.intro hbl (And.intro (And.intro ev0 pv0) (And.intro hF (And.intro hE (And.intro hEv hCp))))))
  have e1 := fuel_is fuel
  have hfl := fuel_le fuel
  generalize hfu : fuelP fuel = fu at *
  have HFU := hid hfu
  clear hnf hbl ev0 pv0 hF m0 hPg hl hfu hE hEv hCp
  obtain ⟨sN, hsN⟩ : ∃ sN, sN = atE F E fuel := ⟨_, rfl⟩
  rw [← hsN]
  have hat : sN = (evS F (startP F) E fu).1 := by rw [hsN]; unfold atE; rw [HFU.out]
  have HAT := hid hat
  clear hat hsN
  generalize hen : endP sN = en at *
  generalize hmx : max fuel 0 = mx at *
  go_enter Tryz.func45, Tryz.ntmps45
  go_wp2_with fail
  refine HN.out.1.mono ?_
  rintro e w2 ⟨rfl, A2, m2, s2, c2, _, _⟩
  obtain ⟨_, hbl, ⟨ev0, pv0⟩, hF, hE, hEv, hCp⟩ := HN.out
  have hst : ({ mc0 with fr := ⟨0, 0, [] ++ List.replicate ((F 0).locals.toNat - ([] : List V).length) vnil, []⟩ :: mc0.fr } : Mc).fr = (startP F).fr := by simp [startP, mc0]
  have m2' : MSt w2 w.heap.size (w.heap.size + 1) m F (fun _ => .slice none 0 0) A2 (startP F) 0 := m2.like hst.symm rfl rfl rfl rfl rfl rfl rfl rfl rfl
  have hbE : Below w.heap.size w w2 := hbl.trans (c2.below hbl.size)
  have hR2 : RSt w2 w.heap.size (w.heap.size + 1) m F (fun _ => .slice none 0 0) A2 (startP F) 0 [] E := ⟨m2', fun t ht => (by cases ht), fun k _ hk => (by cases hk), fun i hi h2 => (by
    obtain rfl : i = 0 := by have : i < 1 := hi; omega
    exact absurd (show hiAt [false] 0 = true from h2) (by decide)), by rw [s2.ev, ev0]; exact hEv.below hbE, by rw [s2.pv, pv0]; exact hCp.below hbE⟩
  have hfew := hE.few
  have hrun := runM hR2 hF hE.rise hE.ok ⟨by show 0 + 100 * E.length ≤ 900000; omega, by show 0 + E.length ≤ 900000; omega⟩ fu hfl
  have hB2 : Below w.heap.size w w2 := hbl.trans (c2.below hbl.size)
  rw [← HAT.out] at hrun
  rw [hen] at hrun
  have hrun2 : ∀ x : Int, (fu : Int) = x → Calls Tryz.prog 68 #[.pointer (some ⟨w.heap.size + 1, 0, none⟩), .int .i64 x] w2 fun e w' => e = .returned (.int .i64 en) ∧ ∃ (A' : AdM) (MV' : Nat → Value), MSt w' w.heap.size (w.heap.size + 1) m F MV' A' sN 0 ∧ Ch w.heap.size (fun _ => True) A2.tag A'.tag w2 w' := fun x hx => by rw [← hx]; exact hrun
  have HR := hid (And.intro hrun2 (And.intro hB2 m2.le))
  have HE := hid (And.intro e1 hmx)
  clear hrun hrun2 m2 m2' s2 c2 hbl ev0 pv0 hF hst hB2 hmk HN hen e1 hmx HAT hE hEv hCp hbE hR2 hfew
  go_wp2_with fail
  all_goals
    refine (HR.out.1 _ (by have h1 := HE.out.1; have h2 := HE.out.2; omega)).mono ?_
    rintro e w3 ⟨rfl, A3, MV3, m3, c3⟩
    obtain ⟨_, hB2, hle2⟩ := HR.out
    have y6 : w3.cell? ⟨w.heap.size + 1, 11, none⟩ = some (.int .i64 0) := by rw [cell_heap m3.lay.run]; rfl
    have z6 : w3.frozen? ⟨w.heap.size + 1, 11, none⟩ = false := frozen_heap m3.lay.run
    obtain ⟨l4, c4⟩ := m3.lay.ended en
    have cN := c4.mono (q := N5) (fun d hd => by unfold N5; omega)
    have m4 := m3.ch l4 m3.hl m3.cod m3.cnt rfl (SameG.refl _) cN
    have hB3 : Below w.heap.size w2 w3 := c3.below hle2
    have hB4 := cN.below (B := w.heap.size) (by have := hB3.size; omega)
    have HQ := hid (And.intro ((hB2.trans hB3).trans hB4) m4)
    clear m3 c3 l4 c4 cN m4 hB3 hB4 hB2 hle2 HR
    go_wp2
    go_ret
    exact ⟨_, rfl, HQ.out.1, A3, MV3, HQ.out.2⟩

theorem runsM (w : World) (m : Nat) (pv : Value) (F : Nat → PF) (K : Nat → Nat → Bool) (H : Nat → Nat → Int) (fuel : Int) (hCp : CapsAt w w.heap.size pv m F) (hPg : Pg w w.heap.size pv m F) (hF : Fine m F K H) :
    Calls Tryz.prog 40 #[pv, .int .i64 fuel] w fun e w' => ∃ mb, e = .returned (.pointer (some ⟨mb, 0, none⟩)) ∧ Below w.heap.size w w' ∧ ∃ (A' : AdM) (MV' : Nat → Value), MSt w' w.heap.size mb m F MV' A' (atP F fuel) (endP (atP F fuel)) := by
  have hsh := shiftM w m pv F K H fuel (.slice none 0 0) [] (EvsOk.nil m) ⟨none, 0, rfl, Nat.le_refl _, fun h => absurd rfl h⟩ hCp hPg hF
  rw [atE_nil] at hsh
  have HS := hid hsh
  clear hPg hF hCp hsh
  go_enter Tryz.func40, Tryz.ntmps40
  go_wp2_with fail
  refine HS.out.mono ?_
  rintro e w2 ⟨mb, rfl, h⟩
  have HQ := hid h
  clear h
  go_wp2
  go_ret
  exact ⟨_, rfl, HQ.out⟩
end Go.Proofs.YtkafkipjedpohaaGreatDoor

/-
  The project's machine: Outcome; upshift's Run.
-/
namespace Go.Proofs.YtkafkipjedpohaaGreatDoor
open Go.RowKit

theorem setCell_far {w : World} {a b : Addr} {u v : Value} (h : w.cell? a = some u) (hne : ¬ a.block = b.block) : (w.setCell b v).cell? a = some u :=
  (World.cell?_of_block (w := w) (Below.heap_setCell _ _ _ _ hne)).trans h

/-- An outcome that goes out. -/
def OutcomeV (en : Int) (s : Mc) (v : Value) : Value := .agg #[.int .i64 en, .int .i64 s.steps, .int .i64 s.gives.k, .int .i64 s.gives.n, v]

theorem below_set {B : Nat} {w v : World} (h : Below B w v) {b o : Nat} (hb : B ≤ b) (x : Value) : Below B w (v.setCell ⟨b, o, none⟩ x) :=
  ⟨h.os, h.tape, h.output, by have := h.size; simp [World.setCell]; omega, fun k hk => by rw [Below.heap_setCell _ _ _ _ (by dsimp only; omega)]; exact h.block k hk⟩

/-- A store into a block that was there is not seen in a list that was made since. -/
theorem OutL.set {w X v : World} {u : Value} {l : List V} (h : OutL X v u l) {b o : Nat} (hw : w.heap.size ≤ X.heap.size) (hb : b < X.heap.size) (x : Value) : OutL w (v.setCell ⟨b, o, none⟩ x) u l ∧ OutL X (v.setCell ⟨b, o, none⟩ x) u l := by
  rcases h with h | ⟨g, cap, cur, hv, hg, ht, hh, hr⟩
  · exact ⟨Or.inl h, Or.inl h⟩
  · have e : (v.setCell ⟨b, o, none⟩ x).heap[g]? = v.heap[g]? := Below.heap_setCell _ _ _ _ (by dsimp only; omega)
    exact ⟨Or.inr ⟨g, cap, cur, hv, by omega, ht, e.trans hh, hr⟩, Or.inr ⟨g, cap, cur, hv, hg, ht, e.trans hh, hr⟩⟩

theorem OutL.later {w w' w2 : World} {v : Value} {l : List V} (h : OutL w w' v l) (k : Below w'.heap.size w' w2) : OutL w w2 v l := Row.below h k

set_option maxRecDepth 100000 in
set_option maxHeartbeats 1000000 in
theorem outcomeM (w : World) (B mb : Nat) (A : AdM) (s : Mc) (en : Int) (hL : LayM w B mb A s en) (hl : s.out.length ≤ 200000) :
    Calls Tryz.prog 41 #[.pointer (some ⟨mb, 0, none⟩)] w fun e w' => ∃ v, e = .returned (OutcomeV en s v) ∧ Below w.heap.size w w' ∧ OutL w w' v s.out := by
  have hW : Below w.heap.size w (w.alloc (.cells #[.int .i64 0, .int .i64 0, .int .i64 0, .int .i64 0, .slice none 0 0] 46)) := (Below.refl _ _).alloc (Nat.le_refl _) _
  have l1 := hL.below hW
  have hz : (w.alloc (.cells #[.int .i64 0, .int .i64 0, .int .i64 0, .int .i64 0, .slice none 0 0] 46)).heap.size = w.heap.size + 1 := by simp
  have x4 : (w.alloc (.cells #[.int .i64 0, .int .i64 0, .int .i64 0, .int .i64 0, .slice none 0 0] 46)).cell? ⟨mb, 6, none⟩ = some A.ov := (cell_heap l1.run).trans rfl
  have x5 : (w.alloc (.cells #[.int .i64 0, .int .i64 0, .int .i64 0, .int .i64 0, .slice none 0 0] 46)).cell? ⟨mb, 7, none⟩ = some (.int .i64 s.steps) := (cell_heap l1.run).trans rfl
  have x6 : (w.alloc (.cells #[.int .i64 0, .int .i64 0, .int .i64 0, .int .i64 0, .slice none 0 0] 46)).cell? ⟨mb, 11, none⟩ = some (.int .i64 en) := (cell_heap l1.run).trans rfl
  have x7 : (w.alloc (.cells #[.int .i64 0, .int .i64 0, .int .i64 0, .int .i64 0, .slice none 0 0] 46)).cell? ⟨mb, 12, none⟩ = some (.int .i64 s.gives.k) := (cell_heap l1.run).trans rfl
  have x8 : (w.alloc (.cells #[.int .i64 0, .int .i64 0, .int .i64 0, .int .i64 0, .slice none 0 0] 46)).cell? ⟨mb, 13, none⟩ = some (.int .i64 s.gives.n) := (cell_heap l1.run).trans rfl
  have hmz := heap_lt hL.run
  have HL := hid (And.intro l1.out (And.intro hW hz))
  have HX := hid (And.intro x4 (And.intro x5 (And.intro x6 (And.intro x7 x8))))
  clear hL l1 hW hz x4 x5 x6 x7 x8
  go_enter Tryz.func41, Tryz.ntmps41
  go_wp2_with fail
  obtain ⟨x4, x5, x6, x7, x8⟩ := HX.out
  clear HX
  have hWz : mb < (w.alloc (.cells #[.int .i64 0, .int .i64 0, .int .i64 0, .int .i64 0, .slice none 0 0] 46)).heap.size := by simp; omega
  have r0 : (w.alloc (.cells #[.int .i64 0, .int .i64 0, .int .i64 0, .int .i64 0, .slice none 0 0] 46)).heap[w.heap.size]? = some (.cells #[.int .i64 0, .int .i64 0, .int .i64 0, .int .i64 0, .slice none 0 0] 46 (0, 0)) := Go.Deep.blk_alloc_new _ _
  have HR := hid r0
  clear r0
  have hne : ¬ mb = w.heap.size := by omega
  generalize w.alloc (.cells #[.int .i64 0, .int .i64 0, .int .i64 0, .int .i64 0, .slice none 0 0] 46) = W at *
  have hrz : w.heap.size < W.heap.size := by have := HL.out.2.2; omega
  obtain ⟨op, oc, hov, _⟩ := HL.out.1.any
  have HCl := hid (fun (X : World) (hX : Below W.heap.size W X) => cloneV X B A.tag 3 A.ov s.out (HL.out.1.below hX) hl)
  rw [hov] at x4 HCl
  clear hov
  go_region_held3 (fun w' => w'.cell? ⟨mb, 6, none⟩ = some (.slice op s.out.length oc) ∧ w'.cell? ⟨mb, 7, none⟩ = some (.int .i64 s.steps) ∧ w'.cell? ⟨mb, 11, none⟩ = some (.int .i64 en) ∧ w'.cell? ⟨mb, 12, none⟩ = some (.int .i64 s.gives.k) ∧ w'.cell? ⟨mb, 13, none⟩ = some (.int .i64 s.gives.n))
    ((refine ⟨?_, ?_, ?_, ?_, ?_⟩ <;> (repeat (with_reducible refine setCell_far ?_ hne)) <;> (first | with_reducible exact q4 | with_reducible exact q5 | with_reducible exact q6 | with_reducible exact q7 | with_reducible exact q8 | exact x4 | exact x5 | exact x6 | exact x7 | exact x8)))
    (first
      | (go_at_call 63; refine (HCl.out _ ?_).mono ?_; exact (Below.refl _ _).drew; rintro e w3 ⟨v3, he, hB3, hO3⟩; obtain ⟨p3, cp3, hv3, hlc3⟩ := Row.any hO3; subst hv3; subst he; have q4 := (hB3.cell (p := ⟨mb, 6, none⟩) hWz).trans x4; have q5 := (hB3.cell (p := ⟨mb, 7, none⟩) hWz).trans x5; have q6 := (hB3.cell (p := ⟨mb, 11, none⟩) hWz).trans x6; have q7 := (hB3.cell (p := ⟨mb, 12, none⟩) hWz).trans x7; have q8 := (hB3.cell (p := ⟨mb, 13, none⟩) hWz).trans x8; have r3 := (hB3.block w.heap.size hrz).trans HR.out; have c0 : w3.cell? ⟨w.heap.size, 0, none⟩ = some (.int .i64 0) := (cell_heap r3).trans rfl; have c1 : w3.cell? ⟨w.heap.size, 1, none⟩ = some (.int .i64 0) := (cell_heap r3).trans rfl; have c2 : w3.cell? ⟨w.heap.size, 2, none⟩ = some (.int .i64 0) := (cell_heap r3).trans rfl; have c3 : w3.cell? ⟨w.heap.size, 3, none⟩ = some (.int .i64 0) := (cell_heap r3).trans rfl; have c4 : w3.cell? ⟨w.heap.size, 4, none⟩ = some (.slice none 0 0) := (cell_heap r3).trans rfl; have z0 := frozen_heap (o := 0) r3; have z1 := frozen_heap (o := 1) r3; have z2 := frozen_heap (o := 2) r3; have z3 := frozen_heap (o := 3) r3; have z4 := frozen_heap (o := 4) r3; clear r3))
  rename_i hheld
  have r3 := (hB3.block w.heap.size hrz).trans HR.out
  have r4 := heap_set (o := 4) (heap_set (o := 3) (heap_set (o := 2) (heap_set (o := 1) (heap_set (o := 0) r3 (.int .i64 en)) (.int .i64 s.steps)) (.int .i64 s.gives.k)) (.int .i64 s.gives.n)) (.slice p3 s.out.length cp3)
  have hbl : Below w.heap.size w (((((w3.setCell ⟨w.heap.size, 0, none⟩ (.int .i64 en)).setCell ⟨w.heap.size, 1, none⟩ (.int .i64 s.steps)).setCell ⟨w.heap.size, 2, none⟩ (.int .i64 s.gives.k)).setCell ⟨w.heap.size, 3, none⟩ (.int .i64 s.gives.n)).setCell ⟨w.heap.size, 4, none⟩ (.slice p3 s.out.length cp3)) :=
    below_set (below_set (below_set (below_set (below_set ((HL.out.2.1.drew).trans (hB3.mono (by show w.heap.size ≤ W.heap.size; omega))) (Nat.le_refl _) _) (Nat.le_refl _) _) (Nat.le_refl _) _) (Nat.le_refl _) _) (Nat.le_refl _) _
  have hwX : w.heap.size ≤ W.drew.heap.size := by show w.heap.size ≤ W.heap.size; omega
  have hbX : w.heap.size < W.drew.heap.size := hrz
  have hout := (OutL.set (OutL.set (OutL.set (OutL.set (OutL.set (o := 0) hO3 hwX hbX (.int .i64 en)).2 (o := 1) hwX hbX (.int .i64 s.steps)).2 (o := 2) hwX hbX (.int .i64 s.gives.k)).2 (o := 3) hwX hbX (.int .i64 s.gives.n)).2 (o := 4) hwX hbX (.slice p3 s.out.length cp3)).1
  have g0 : (((((w3.setCell ⟨w.heap.size, 0, none⟩ (.int .i64 en)).setCell ⟨w.heap.size, 1, none⟩ (.int .i64 s.steps)).setCell ⟨w.heap.size, 2, none⟩ (.int .i64 s.gives.k)).setCell ⟨w.heap.size, 3, none⟩ (.int .i64 s.gives.n)).setCell ⟨w.heap.size, 4, none⟩ (.slice p3 s.out.length cp3)).heap[w.heap.size]? = some (.cells #[.int .i64 en, .int .i64 s.steps, .int .i64 s.gives.k, .int .i64 s.gives.n, .slice p3 s.out.length cp3] 46 (0, 0)) := r4
  clear hheld q4 q5 q6 q7 q8 c0 c1 c2 c3 c4 z0 z1 z2 z3 z4 x4 x5 x6 x7 x8 r3 r4 hB3 hO3
  generalize ((((w3.setCell ⟨w.heap.size, 0, none⟩ (.int .i64 en)).setCell ⟨w.heap.size, 1, none⟩ (.int .i64 s.steps)).setCell ⟨w.heap.size, 2, none⟩ (.int .i64 s.gives.k)).setCell ⟨w.heap.size, 3, none⟩ (.int .i64 s.gives.n)).setCell ⟨w.heap.size, 4, none⟩ (.slice p3 s.out.length cp3) = V5 at *
  have y0 : V5.cell? ⟨w.heap.size, 0, none⟩ = some (.int .i64 en) := (cell_heap g0).trans rfl
  have y1 : V5.cell? ⟨w.heap.size, 1, none⟩ = some (.int .i64 s.steps) := (cell_heap g0).trans rfl
  have y2 : V5.cell? ⟨w.heap.size, 2, none⟩ = some (.int .i64 s.gives.k) := (cell_heap g0).trans rfl
  have y3 : V5.cell? ⟨w.heap.size, 3, none⟩ = some (.int .i64 s.gives.n) := (cell_heap g0).trans rfl
  have y4 : V5.cell? ⟨w.heap.size, 4, none⟩ = some (.slice p3 s.out.length cp3) := (cell_heap g0).trans rfl
  have HQ := hid (And.intro hbl hout)
  clear g0 hbl hout
  go_wp2
  exact bodyPost_ret (v := OutcomeV en s (.slice p3 s.out.length cp3)) (by simp [results, Tryz.results41, go_sem, y0, y1, y2, y3, y4, OutcomeV]) rfl ⟨_, rfl, HQ.out⟩

theorem CapsAt.of_prog {w : World} {pb po pc m : Nat} {F : Nat → PF} {CA : Nat → Option Addr} {CC : Nat → Nat} (h : ProgAt w pb po m F CA CC) (hcc : ∀ k, k < m → (F k).cn ≤ CC k) : CapsAt w w.heap.size (.slice (some ⟨pb, po, none⟩) m pc) m F :=
  ⟨pb, po, pc, rfl, h.lt, fun k hk => ⟨_, _, (h.fn k hk).slice, hcc k hk⟩⟩
theorem Pg.of_prog {w : World} {pb po pc m : Nat} {F : Nat → PF} {CA : Nat → Option Addr} {CC : Nat → Nat} (h : ProgAt w pb po m F CA CC) : Pg w w.heap.size (.slice (some ⟨pb, po, none⟩) m pc) m F :=
  ⟨pb, po, pc, CA, CC, w, rfl, rfl, h, Below.refl _ _⟩

set_option maxRecDepth 100000 in
set_option maxHeartbeats 1000000 in
theorem codeRun (w : World) (cb pb po pc m : Nat) (F : Nat → PF) (K : Nat → Nat → Bool) (H : Nat → Nat → Int) (CA : Nat → Option Addr) (CC : Nat → Nat) (fuel : Int) (hc : w.cell? ⟨cb, 0, none⟩ = some (.slice (some ⟨pb, po, none⟩) m pc)) (hP : ProgAt w pb po m F CA CC) (hcc : ∀ k, k < m → (F k).cn ≤ CC k) (hF : Fine m F K H) (hout : (atP F fuel).out.length ≤ 200000) :
    Calls Tryz.prog 19 #[.pointer (some ⟨cb, 0, none⟩), .int .i64 fuel] w fun e w' => ∃ v, e = .returned (OutcomeV (endP (atP F fuel)) (atP F fuel) v) ∧ Below w.heap.size w w' ∧ OutL w w' v (atP F fuel).out := by
  have hcz := World.block_lt_of_cell? w _ hc
  have hW : Below w.heap.size w (w.alloc (.cells #[.int .i64 0, .int .i64 0, .int .i64 0, .int .i64 0, .slice none 0 0] 46)) := (Below.refl _ _).alloc (Nat.le_refl _) _
  have hP2 := hP.below hW (Nat.le_refl _)
  have hrun := runsM _ m _ F K H fuel (CapsAt.of_prog (pc := pc) hP2 hcc) (Pg.of_prog (pc := pc) hP2) hF
  have c0 := (hW.cell (p := ⟨cb, 0, none⟩) hcz).trans hc
  have r0 : (w.alloc (.cells #[.int .i64 0, .int .i64 0, .int .i64 0, .int .i64 0, .slice none 0 0] 46)).heap[w.heap.size]? = some (.cells #[.int .i64 0, .int .i64 0, .int .i64 0, .int .i64 0, .slice none 0 0] 46 (0, 0)) := Go.Deep.blk_alloc_new _ _
  have hz : (w.alloc (.cells #[.int .i64 0, .int .i64 0, .int .i64 0, .int .i64 0, .slice none 0 0] 46)).heap.size = w.heap.size + 1 := by simp
  generalize endP (atP F fuel) = en at *
  generalize atP F fuel = sN at *
  have HR := hid hrun
  have HX := hid (And.intro hW (And.intro r0 hz))
  clear hrun hW hP hP2 hc r0 hz hF hcc
  go_enter Tryz.func19, Tryz.ntmps19
  go_wp2_with fail
  refine HR.out.mono ?_
  rintro e w2 ⟨mb, rfl, hB2, A2, MV2, m2⟩
  have HO := hid (outcomeM w2 _ mb A2 sN en m2.lay hout)
  have HB2 := hid hB2
  clear hB2 m2 HR
  go_wp2_with fail
  refine HO.out.mono ?_
  rintro e w3 ⟨v, rfl, hB3, hout3⟩
  obtain ⟨p3, cp3, hv3, _⟩ := Row.any hout3
  subst hv3
  obtain ⟨hW, r0, hz⟩ := HX.out
  have hz2 := HB2.out.size
  have r2 := (HB2.out.block w.heap.size (by omega)).trans r0
  have r3 := (hB3.block w.heap.size (by omega)).trans r2
  have y0 : w3.cell? ⟨w.heap.size, 0, none⟩ = some (.int .i64 0) := (cell_heap r3).trans rfl
  have y1 : w3.cell? ⟨w.heap.size, 1, none⟩ = some (.int .i64 0) := (cell_heap r3).trans rfl
  have y2 : w3.cell? ⟨w.heap.size, 2, none⟩ = some (.int .i64 0) := (cell_heap r3).trans rfl
  have y3 : w3.cell? ⟨w.heap.size, 3, none⟩ = some (.int .i64 0) := (cell_heap r3).trans rfl
  have y4 : w3.cell? ⟨w.heap.size, 4, none⟩ = some (.slice none 0 0) := (cell_heap r3).trans rfl
  have z0 := frozen_heap (o := 0) r3
  have z1 := frozen_heap (o := 1) r3
  have z2 := frozen_heap (o := 2) r3
  have z3 := frozen_heap (o := 3) r3
  have z4 := frozen_heap (o := 4) r3
  have hB : Below w.heap.size w w3 := (hW.trans (HB2.out.mono (by omega))).trans (hB3.mono (by omega))
  have g0 : (((((w3.setCell ⟨w.heap.size, 0, none⟩ (.int .i64 en)).setCell ⟨w.heap.size, 1, none⟩ (.int .i64 sN.steps)).setCell ⟨w.heap.size, 2, none⟩ (.int .i64 sN.gives.k)).setCell ⟨w.heap.size, 3, none⟩ (.int .i64 sN.gives.n)).setCell ⟨w.heap.size, 4, none⟩ (.slice p3 sN.out.length cp3)).heap[w.heap.size]? = some (.cells #[.int .i64 en, .int .i64 sN.steps, .int .i64 sN.gives.k, .int .i64 sN.gives.n, .slice p3 sN.out.length cp3] 46 (0, 0)) := heap_set (o := 4) (heap_set (o := 3) (heap_set (o := 2) (heap_set (o := 1) (heap_set (o := 0) r3 (.int .i64 en)) (.int .i64 sN.steps)) (.int .i64 sN.gives.k)) (.int .i64 sN.gives.n)) (.slice p3 sN.out.length cp3)
  have hbl : Below w.heap.size w (((((w3.setCell ⟨w.heap.size, 0, none⟩ (.int .i64 en)).setCell ⟨w.heap.size, 1, none⟩ (.int .i64 sN.steps)).setCell ⟨w.heap.size, 2, none⟩ (.int .i64 sN.gives.k)).setCell ⟨w.heap.size, 3, none⟩ (.int .i64 sN.gives.n)).setCell ⟨w.heap.size, 4, none⟩ (.slice p3 sN.out.length cp3)) :=
    below_set (below_set (below_set (below_set (below_set hB (Nat.le_refl _) _) (Nat.le_refl _) _) (Nat.le_refl _) _) (Nat.le_refl _) _) (Nat.le_refl _) _
  have hwX : w.heap.size ≤ w2.heap.size := by omega
  have hbX : w.heap.size < w2.heap.size := by omega
  have hol := (OutL.set (OutL.set (OutL.set (OutL.set (OutL.set (o := 0) hout3 hwX hbX (.int .i64 en)).2 (o := 1) hwX hbX (.int .i64 sN.steps)).2 (o := 2) hwX hbX (.int .i64 sN.gives.k)).2 (o := 3) hwX hbX (.int .i64 sN.gives.n)).2 (o := 4) hwX hbX (.slice p3 sN.out.length cp3)).1
  have HQ := hid (And.intro g0 (And.intro hbl hol))
  clear hB3 hout3 r0 r2 r3 hW hz hz2 HX HB2 HO g0 hbl hol hB hwX hbX
  unfold OutcomeV
  go_wp2
  obtain ⟨g0, hbl, hol⟩ := HQ.out
  generalize ((((w3.setCell ⟨w.heap.size, 0, none⟩ (.int .i64 en)).setCell ⟨w.heap.size, 1, none⟩ (.int .i64 sN.steps)).setCell ⟨w.heap.size, 2, none⟩ (.int .i64 sN.gives.k)).setCell ⟨w.heap.size, 3, none⟩ (.int .i64 sN.gives.n)).setCell ⟨w.heap.size, 4, none⟩ (.slice p3 sN.out.length cp3) = V5 at *
  have y0 : V5.cell? ⟨w.heap.size, 0, none⟩ = some (.int .i64 en) := (cell_heap g0).trans rfl
  have y1 : V5.cell? ⟨w.heap.size, 1, none⟩ = some (.int .i64 sN.steps) := (cell_heap g0).trans rfl
  have y2 : V5.cell? ⟨w.heap.size, 2, none⟩ = some (.int .i64 sN.gives.k) := (cell_heap g0).trans rfl
  have y3 : V5.cell? ⟨w.heap.size, 3, none⟩ = some (.int .i64 sN.gives.n) := (cell_heap g0).trans rfl
  have y4 : V5.cell? ⟨w.heap.size, 4, none⟩ = some (.slice p3 sN.out.length cp3) := (cell_heap g0).trans rfl
  exact bodyPost_ret (v := OutcomeV en sN (.slice p3 sN.out.length cp3)) (by simp [results, Tryz.results19, go_sem, y0, y1, y2, y3, y4, OutcomeV]) rfl ⟨_, rfl, hbl, hol⟩
end Go.Proofs.YtkafkipjedpohaaGreatDoor
