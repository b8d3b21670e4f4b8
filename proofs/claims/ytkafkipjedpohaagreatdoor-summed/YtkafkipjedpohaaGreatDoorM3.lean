import Derived.Test.YtkafkipjedpohaaGreatDoorM1
import Derived.Deep.RegionHeld3
import Derived.Deep.QuietTactic

/-
  A run of the project's machine as it lies in memory.
-/
namespace Go.Proofs.YtkafkipjedpohaaGreatDoor
open Go.RowKit

/-- What of it no instruction but Call and Return turns: the program, the events, what is made, the frames' blocks, their code, the counts. -/
structure AdG where
  pv : Value
  ev : Value
  mv : Value
  FB : Nat → Nat
  CV : Nat → Value
  hi : Int
  up : Int
  dn : Int

/-- Where its parts lie. -/
structure AdM where
  tag : Nat → Nat
  g : AdG
  fv : Value
  av : Value
  ov : Value
  LV : Nat → Value
  SV : Nat → Value
  AV : Nat → Value
def AdM.FB (A : AdM) : Nat → Nat := A.g.FB

/-- The cells of a Machine, of a frame. -/
def mcells (A : AdM) (s : Mc) (en : Int) : Array Value :=
  #[A.g.pv, A.g.ev, A.g.mv, A.fv, A.av, .int .i64 (cellsP s.arr), A.ov, .int .i64 s.steps, .int .i64 A.g.hi, .int .i64 A.g.up, .int .i64 A.g.dn, .int .i64 en, .int .i64 s.gives.k, .int .i64 s.gives.n]
def frcells (f : Fr) (lv sv cv : Value) : Array Value := #[.int .i64 f.fn, .int .i64 f.pc, lv, sv, cv]

structure LayM (w : World) (B mb : Nat) (A : AdM) (s : Mc) (en : Int) : Prop where
  run : w.heap[mb]? = some (.cells (mcells A s en) 130 (0, 0))
  own : B ≤ mb ∧ A.tag mb = 0
  fr : Row w B A.tag 1 133 1 A.fv s.fr.length (pcell A.FB)
  fb : ∀ i, i < s.fr.length → w.heap[A.FB i]? = some (.cells (frcells (frAt s.fr i) (A.LV i) (A.SV i) (A.g.CV i)) 138 (0, 0)) ∧ B ≤ A.FB i ∧ A.tag (A.FB i) = 10 + 4 * i
  ar : Row w B A.tag 2 44 1 A.av s.arr.length A.AV
  out : Row w B A.tag 3 43 2 A.ov s.out.length (vcell s.out)
  loc : ∀ i, i < s.fr.length → Row w B A.tag (11 + 4 * i) 43 2 (A.LV i) (frAt s.fr i).loc.length (vcell (frAt s.fr i).loc)
  stk : ∀ i, i < s.fr.length → Row w B A.tag (12 + 4 * i) 43 2 (A.SV i) (frAt s.fr i).stk.length (vcell (frAt s.fr i).stk.reverse)
  arr : ∀ j, j < s.arr.length → Row w B A.tag (13 + 4 * j) 43 2 (A.AV j) (s.arr.getD j []).length (vcell (s.arr.getD j []))

/-- The tags of the frame k. -/
def Tk (k d : Nat) : Prop := d = 10 + 4 * k ∨ d = 11 + 4 * k ∨ d = 12 + 4 * k

theorem blk_keep {w w' : World} {B b : Nat} {tag tag' : Nat → Nat} {p : Nat → Prop} {o : Obj} (h : w.heap[b]? = some o) (k : Ch B p tag tag' w w') (hp : ¬ p (tag b)) : w'.heap[b]? = some o ∧ tag' b = tag b :=
  ⟨(k.block b (heap_lt h) (Or.inr hp)).trans h, k.tags b (heap_lt h)⟩

/-- The frame at hand has turned; nothing else has. -/
theorem LayM.top {w w' : World} {B mb : Nat} {A : AdM} {s : Mc} {en : Int} {f f' : Fr} {rest : List Fr} {tag' : Nat → Nat} {lv sv : Value} (h : LayM w B mb A s en) (hs : s.fr = f :: rest) (k : Ch B (Tk rest.length) A.tag tag' w w')
    (hfb : w'.heap[A.FB rest.length]? = some (.cells (frcells f' lv sv (A.g.CV rest.length)) 138 (0, 0)))
    (hlo : Row w' B tag' (11 + 4 * rest.length) 43 2 lv f'.loc.length (vcell f'.loc)) (hst : Row w' B tag' (12 + 4 * rest.length) 43 2 sv f'.stk.length (vcell f'.stk.reverse)) :
    LayM w' B mb { A with tag := tag', LV := upd A.LV rest.length lv, SV := upd A.SV rest.length sv } { s with fr := f' :: rest } en := by
  have hlen : s.fr.length = rest.length + 1 := by rw [hs]; rfl
  have hot : ∀ i, i < rest.length → frAt (f' :: rest) i = frAt s.fr i := fun i hi => by rw [hs, frAt_rest _ _ _ hi, frAt_rest _ _ _ hi]
  have hfbk := h.fb rest.length (by omega)
  obtain ⟨r1, r2⟩ := blk_keep h.run k (by rw [h.own.2]; unfold Tk; omega)
  refine ⟨r1, ⟨h.own.1, r2.trans h.own.2⟩, ?_, fun i hi => ?_, h.ar.keep k (by unfold Tk; omega), h.out.keep k (by unfold Tk; omega), fun i hi => ?_, fun i hi => ?_, fun j hj => (h.arr j hj).keep k (by unfold Tk; omega)⟩
  · have := h.fr.keep k (by unfold Tk; omega)
    rw [hlen] at this
    exact this
  · have hi' : i < rest.length + 1 := hi
    by_cases e : i = rest.length
    · subst e
      refine ⟨?_, hfbk.2.1, (k.tags _ (heap_lt hfbk.1)).trans hfbk.2.2⟩
      show _ = some (Obj.cells (frcells (frAt (f' :: rest) rest.length) (upd A.LV rest.length lv rest.length) (upd A.SV rest.length sv rest.length) (A.g.CV rest.length)) _ _)
      rw [frAt_top, upd_same, upd_same]
      exact hfb
    · obtain ⟨g1, g2, g3⟩ := h.fb i (by omega)
      obtain ⟨g4, g5⟩ := blk_keep g1 k (by rw [g3]; unfold Tk; omega)
      refine ⟨?_, g2, g5.trans g3⟩
      show _ = some (Obj.cells (frcells (frAt (f' :: rest) i) (upd A.LV rest.length lv i) (upd A.SV rest.length sv i) (A.g.CV i)) _ _)
      rw [hot i (by omega), upd_other _ _ _ _ e, upd_other _ _ _ _ e]
      exact g4
  · have hi' : i < rest.length + 1 := hi
    show Row w' B tag' _ _ 2 (upd A.LV rest.length lv i) (frAt (f' :: rest) i).loc.length (vcell (frAt (f' :: rest) i).loc)
    by_cases e : i = rest.length
    · subst e
      rw [frAt_top, upd_same]
      exact hlo
    · rw [hot i (by omega), upd_other _ _ _ _ e]
      exact (h.loc i (by omega)).keep k (by unfold Tk; omega)
  · have hi' : i < rest.length + 1 := hi
    show Row w' B tag' _ _ 2 (upd A.SV rest.length sv i) (frAt (f' :: rest) i).stk.length (vcell (frAt (f' :: rest) i).stk.reverse)
    by_cases e : i = rest.length
    · subst e
      rw [frAt_top, upd_same]
      exact hst
    · rw [hot i (by omega), upd_other _ _ _ _ e]
      exact (h.stk i (by omega)).keep k (by unfold Tk; omega)

/-- Nothing of the run has turned. -/
theorem LayM.keep {w w' : World} {B mb : Nat} {A : AdM} {s : Mc} {en : Int} {tag' : Nat → Nat} (h : LayM w B mb A s en) (k : Ch B (fun _ => False) A.tag tag' w w') : LayM w' B mb { A with tag := tag' } s en := by
  obtain ⟨r1, r2⟩ := blk_keep h.run k (fun h => h)
  refine ⟨r1, ⟨h.own.1, r2.trans h.own.2⟩, h.fr.keep k (fun h => h), fun i hi => ?_, h.ar.keep k (fun h => h), h.out.keep k (fun h => h), fun i hi => (h.loc i hi).keep k (fun h => h), fun i hi => (h.stk i hi).keep k (fun h => h), fun j hj => (h.arr j hj).keep k (fun h => h)⟩
  obtain ⟨g1, g2, g3⟩ := h.fb i hi
  obtain ⟨g4, g5⟩ := blk_keep g1 k (fun h => h)
  exact ⟨g4, g2, g5.trans g3⟩

theorem LayM.below {w w' : World} {B mb : Nat} {A : AdM} {s : Mc} {en : Int} (h : LayM w B mb A s en) (k : Below w.heap.size w w') : LayM w' B mb A s en := h.keep (Ch.of_below k)

/-- What a call of the machine leaves: the run s', its old parts where they were, at most the tags p turned. -/
def Aft (p : Nat → Prop) (w w' : World) (B mb : Nat) (A : AdM) (s' : Mc) (en : Int) : Prop :=
  ∃ A' : AdM, LayM w' B mb A' s' en ∧ A'.g = A.g ∧ Ch B p A.tag A'.tag w w'

theorem pushM (w : World) (B mb : Nat) (A : AdM) (s : Mc) (en : Int) (f : Fr) (rest : List Fr) (v : V) (hL : LayM w B mb A s en) (hs : s.fr = f :: rest) (hB : B ≤ w.heap.size) (hn : f.stk.length ≤ 64) :
    Calls Tryz.prog 132 #[.pointer (some ⟨A.FB rest.length, 3, none⟩), .agg #[.int .i64 v.k, .int .i64 v.n]] w fun e w' => e = .returned (.tuple #[]) ∧ Aft (Tk rest.length) w w' B mb A { s with fr := { f with stk := v :: f.stk } :: rest } en := by
  have hlen : s.fr.length = rest.length + 1 := by rw [hs]; rfl
  have e0 : frAt s.fr rest.length = f := by rw [hs]; exact frAt_top _ _
  obtain ⟨g1, g2, g3⟩ := hL.fb rest.length (by omega)
  have hrow := hL.stk rest.length (by omega)
  have hloc := hL.loc rest.length (by omega)
  rw [e0] at g1 hrow hloc
  refine (pushV w B _ 3 _ _ A.tag _ _ f.stk v g1 rfl g2 hB (by rw [g3]; omega) hrow (by omega)).mono ?_
  rintro e w' ⟨rfl, tag', sv', h1, h2, h3⟩
  have h4 : Ch B (Tk rest.length) A.tag tag' w w' := h3.mono (fun d hd => by rw [g3] at hd; unfold Tk; omega)
  exact ⟨rfl, _, hL.top hs h4 h2 (hloc.keep h3 (by rw [g3]; omega)) h1, rfl, h4⟩

theorem popM (w : World) (B mb : Nat) (A : AdM) (s : Mc) (en : Int) (f : Fr) (rest : List Fr) (v : V) (st : List V) (hL : LayM w B mb A s en) (hs : s.fr = f :: rest) (hst : f.stk = v :: st) (hn : st.length ≤ 64) :
    Calls Tryz.prog 129 #[.pointer (some ⟨A.FB rest.length, 3, none⟩)] w fun e w' => e = .returned (.agg #[.int .i64 v.k, .int .i64 v.n]) ∧ Aft (Tk rest.length) w w' B mb A { s with fr := { f with stk := st } :: rest } en := by
  have hlen : s.fr.length = rest.length + 1 := by rw [hs]; rfl
  have e0 : frAt s.fr rest.length = f := by rw [hs]; exact frAt_top _ _
  obtain ⟨g1, g2, g3⟩ := hL.fb rest.length (by omega)
  have hrow := hL.stk rest.length (by omega)
  have hloc := hL.loc rest.length (by omega)
  rw [e0] at g1 hrow hloc
  rw [hst] at hrow
  refine (popV w B _ 3 _ _ A.tag _ _ st v g1 rfl g2 (by rw [g3]; omega) hrow (by omega)).mono ?_
  rintro e w' ⟨rfl, sv', h1, h2, h3⟩
  have h4 : Ch B (Tk rest.length) A.tag A.tag w w' := h3.mono (fun d hd => by rw [g3] at hd; unfold Tk; omega)
  exact ⟨rfl, _, hL.top hs h4 h2 (hloc.keep h3 (by rw [g3]; omega)) h1, rfl, h4⟩
end Go.Proofs.YtkafkipjedpohaaGreatDoor

/-
  The project's machine: number, function, integer, truth, quotient, rule, reckoned, equal.
-/
namespace Go.Proofs.YtkafkipjedpohaaGreatDoor
open Go.RowKit

/-- A trap gives up. -/
def trapE (n : Int) : Ending := .panicked [{ v := .iface 163 (.int .i64 n), recovered := false }]

/-- A value as the program has it. -/
def vagg (v : V) : Value := .agg #[.int .i64 v.k, .int .i64 v.n]

theorem numberM (n : Int) (w : World) : Calls Tryz.prog 133 #[.int .i64 n] w fun e w' => e = .returned (.agg #[.int .i64 1, .int .i64 n]) ∧ w' = w.alloc (.cells #[.int .i64 1, .int .i64 n] 43) := by
  go_enter Tryz.func133, Tryz.ntmps133
  go_wp2
  exact bodyPost_ret (v := .agg #[.int .i64 1, .int .i64 n]) (by simp [results, Tryz.results133, go_sem]) rfl ⟨rfl, rfl⟩

theorem functionM (n : Int) (w : World) : Calls Tryz.prog 134 #[.int .i64 n] w fun e w' => e = .returned (.agg #[.int .i64 3, .int .i64 n]) ∧ w' = w.alloc (.cells #[.int .i64 3, .int .i64 n] 43) := by
  go_enter Tryz.func134, Tryz.ntmps134
  go_wp2
  exact bodyPost_ret (v := .agg #[.int .i64 3, .int .i64 n]) (by simp [results, Tryz.results134, go_sem]) rfl ⟨rfl, rfl⟩

/-- The number of a value, or TrapType. -/
theorem integerA (k n : Int) (w : World) : Calls Tryz.prog 147 #[.agg #[.int .i64 k, .int .i64 n]] w fun e w' => ((k = 1 ∧ e = .returned (.int .i64 n)) ∨ (k ≠ 1 ∧ e = trapE 3)) ∧ w' = w.alloc (.cells #[.int .i64 k, .int .i64 n] 43) := by
  by_cases hk : k = 1
  · have e1 : (k != 1) = false := by simpa using hk
    have HK := hid hk
    clear hk
    go_enter Tryz.func147, Tryz.ntmps147
    go_wp2
    go_ret
    exact ⟨Or.inl ⟨HK.out, rfl⟩, rfl⟩
  · have e1 : (k != 1) = true := by simpa using hk
    have HK := hid hk
    clear hk
    go_enter Tryz.func147, Tryz.ntmps147
    go_wp2
    exact ⟨rfl, Or.inr ⟨HK.out, rfl⟩, rfl⟩

theorem truthM (b : Bool) (w : World) : Calls Tryz.prog 153 #[.bool b] w fun e w' => e = .returned (.int .i64 (if b = true then 1 else 0)) ∧ w' = w := by
  cases b
  · go_enter Tryz.func153, Tryz.ntmps153
    go_wp2
    go_ret
    exact ⟨rfl, rfl⟩
  · go_enter Tryz.func153, Tryz.ntmps153
    go_wp2
    go_ret
    exact ⟨rfl, rfl⟩

/-- What the functions that rule answers give. -/
def resP (op a b : Int) : Int :=
  if op = 4 then w64 (a + b) else if op = 5 then w64 (a - b) else if op = 6 then w64 (a * b) else if op = 7 then w64 (a.tdiv b) else if a < b then 1 else 0

def ruleP (op : Int) : Nat := if op = 4 then 148 else if op = 5 then 149 else if op = 6 then 150 else if op = 7 then 151 else 152

/-- Reckoning, or TrapDivide. -/
theorem resultA (op a b : Int) (hop : op = 4 ∨ op = 5 ∨ op = 6 ∨ op = 7 ∨ op = 8) (w : World) : Calls Tryz.prog (ruleP op) #[.int .i64 a, .int .i64 b] w fun e w' => ((¬ (op = 7 ∧ b = 0) ∧ e = .returned (.int .i64 (resP op a b))) ∨ ((op = 7 ∧ b = 0) ∧ e = trapE 4)) ∧ w' = w := by
  rcases hop with rfl | rfl | rfl | rfl | rfl
  · show Calls Tryz.prog 148 _ _ _
    go_enter Tryz.func148, Tryz.ntmps148
    go_wp2
    go_ret
    exact ⟨Or.inl ⟨fun h => by omega, by simp [resP, w64_eq]⟩, rfl⟩
  · show Calls Tryz.prog 149 _ _ _
    go_enter Tryz.func149, Tryz.ntmps149
    go_wp2
    go_ret
    exact ⟨Or.inl ⟨fun h => by omega, by simp [resP, w64_eq]⟩, rfl⟩
  · show Calls Tryz.prog 150 _ _ _
    go_enter Tryz.func150, Tryz.ntmps150
    go_wp2
    go_ret
    exact ⟨Or.inl ⟨fun h => by omega, by simp [resP, w64_eq]⟩, rfl⟩
  · show Calls Tryz.prog 151 _ _ _
    by_cases hb : b = 0
    · subst hb
      go_enter Tryz.func151, Tryz.ntmps151
      go_wp2
      refine ⟨rfl, ?_, rfl⟩
      simp [trapE]
    · have e1 : (b == 0) = false := by simpa using hb
      have HB := hid hb
      clear hb
      go_enter Tryz.func151, Tryz.ntmps151
      go_wp2
      go_ret
      exact ⟨Or.inl ⟨fun h => HB.out h.2, by simp [resP, w64_eq]⟩, rfl⟩
  · show Calls Tryz.prog 152 _ _ _
    have hv : (if decide (a < b) = true then (1 : Int) else 0) = resP 8 a b := by simp [resP]
    have hq := truthM (decide (a < b)) w
    rw [hv] at hq
    have HQ := hid hq
    clear hq hv
    generalize resP 8 a b = x at *
    go_enter Tryz.func152, Tryz.ntmps152
    go_wp2_with fail
    refine HQ.out.mono ?_
    rintro e w' ⟨rfl, hw'⟩
    rw [hw']
    clear hw' w'
    go_wp2
    go_ret
    exact ⟨Or.inl ⟨fun h => by omega, rfl⟩, rfl⟩

theorem ruleM (op : Int) (hop : op = 4 ∨ op = 5 ∨ op = 6 ∨ op = 7 ∨ op = 8) (w : World) : Calls Tryz.prog 137 #[.int .i64 op] w fun e w' => e = .returned (.func (.func (ruleP op)) #[] #[]) ∧ w' = w := by
  rcases hop with rfl | rfl | rfl | rfl | rfl
  all_goals
    go_enter Tryz.func137, Tryz.ntmps137
    go_wp2
    go_ret
    exact ⟨rfl, rfl⟩
end Go.Proofs.YtkafkipjedpohaaGreatDoor

/-
  The project's machine: boxes.
-/
namespace Go.Proofs.YtkafkipjedpohaaGreatDoor
open Go.RowKit

theorem LayM.box {w : World} {B mb : Nat} {A : AdM} {s : Mc} {en : Int} (h : LayM w B mb A s en) (o : Obj) : LayM (w.alloc o) B mb { A with tag := upd A.tag w.heap.size 5 } s en :=
  h.keep (Ch.of_tags ((Below.refl _ _).alloc (Nat.le_refl _) o) (fun b hb => upd_other _ _ _ _ (by omega)))

theorem Aft.from {p : Nat → Prop} {W X w' : World} {B mb : Nat} {A : AdM} {s' : Mc} {en : Int} (h : Aft p X w' B mb A s' en) (hX : Below W.heap.size W X) : Aft p W w' B mb A s' en := by
  obtain ⟨A', h1, h2, h4⟩ := h
  exact ⟨A', h1, h2, (Ch.of_below hX).trans h4⟩
/-- What turns, but no box. -/
def N5 (d : Nat) : Prop := d ≠ 5 ∧ d ≠ 6
theorem tk5 (k : Nat) : ¬ Tk k 5 := by unfold Tk; omega
theorem tk_n5 {k d : Nat} (h : Tk k d) : N5 d := by unfold Tk at h; unfold N5; omega

/-- Behind a call, and one box more. -/
theorem Aft.boxed {p : Nat → Prop} {w w1 : World} {B mb : Nat} {A : AdM} {s' : Mc} {en : Int} (h : Aft p w w1 B mb A s' en) (o : Obj) :
    ∃ A' : AdM, LayM (w1.alloc o) B mb A' s' en ∧ A'.g = A.g ∧ A'.tag w1.heap.size = 5 ∧ Ch B p A.tag A'.tag w (w1.alloc o) := by
  obtain ⟨A1, h1, h2, h4⟩ := h
  exact ⟨_, h1.box o, h2, upd_same _ _ _, h4.trans (Ch.of_tags ((Below.refl _ _).alloc (Nat.le_refl _) o) (fun b hb => upd_other _ _ _ _ (by omega)))⟩

/-- Push, at a world behind W. -/
theorem pushX {W : World} {B mb : Nat} {A : AdM} {s : Mc} {en : Int} {f : Fr} {rest : List Fr} (hL : LayM W B mb A s en) (hs : s.fr = f :: rest) (hB : B ≤ W.heap.size) (hn : f.stk.length ≤ 64) {fbk : Nat} (hfb : A.FB rest.length = fbk) (v : V) (X : World) (hX : Below W.heap.size W X) :
    Calls Tryz.prog 132 #[.pointer (some ⟨fbk, 3, none⟩), .agg #[.int .i64 v.k, .int .i64 v.n]] X fun e w' => e = .returned (.tuple #[]) ∧ Aft (Tk rest.length) W w' B mb A { s with fr := { f with stk := v :: f.stk } :: rest } en := by
  subst hfb
  refine (pushM X B mb A s en f rest v (hL.below hX) hs (by have := hX.size; omega) hn).mono ?_
  rintro e w' ⟨rfl, h⟩
  exact ⟨rfl, h.from hX⟩

theorem popX {W : World} {B mb : Nat} {A : AdM} {s : Mc} {en : Int} {f : Fr} {rest : List Fr} {v : V} {st : List V} (hL : LayM W B mb A s en) (hs : s.fr = f :: rest) (hst : f.stk = v :: st) (hn : st.length ≤ 64) {fbk : Nat} (hfb : A.FB rest.length = fbk) (X : World) (hX : Below W.heap.size W X) :
    Calls Tryz.prog 129 #[.pointer (some ⟨fbk, 3, none⟩)] X fun e w' => e = .returned (.agg #[.int .i64 v.k, .int .i64 v.n]) ∧ Aft (Tk rest.length) W w' B mb A { s with fr := { f with stk := st } :: rest } en := by
  subst hfb
  refine (popM X B mb A s en f rest v st (hL.below hX) hs hst hn).mono ?_
  rintro e w' ⟨rfl, h⟩
  exact ⟨rfl, h.from hX⟩

theorem alloc_cell {w : World} {o : Obj} {a : Addr} {v : Value} (h : w.cell? a = some v) (ha : a.block < w.heap.size) : (w.alloc o).cell? a = some v :=
  (((Below.refl w.heap.size w).alloc (Nat.le_refl _) o).cell ha).trans h

end Go.Proofs.YtkafkipjedpohaaGreatDoor

/-
  A region that draws its order, walked once: what yields the same in every world that meets S is taken first, what comes up alone is done; an operation may panic.
-/
namespace Go.Proofs.YtkafkipjedpohaaGreatDoor
open Go

section
variable {P : Program} {ops : Array Oper} {Q : Exit → Act → World → Prop} {S : World → Prop}

/-- The walk: (false, i): number i is taken first; (true, i): number i is the only one that may come up. -/
def lexW (P : Program) (ops : Array Oper) (Q : Exit → Act → World → Prop) (S : World → Prop) : List (Bool × Nat) → Act → World → Prop
  | [], a, w => Q .normal a w
  | (true, i) :: r, a, w => wpOp P ops Q i (fun a' w' => S w' ∧ lexW P ops Q S r a' w') a w
  | (false, i) :: r, a, w => ∃ oi v, ops[i]? = some oi ∧ YieldsIf P ops S oi v a ∧ lexW P ops Q S r (a.put oi.dst v) w

def lexB (ops : Array Oper) : List (Bool × Nat) → Array Bool → Bool
  | [], listed => (Region.ready .any ops listed).isEmpty
  | (true, i) :: r, listed => decide (Region.ready .any ops listed = [i]) && lexB ops r (listed.setIfInBounds i true)
  | (false, i) :: r, listed => Region.free .any ops listed i && (Region.ready .any ops listed).contains i && lexB ops r (listed.setIfInBounds i true)

theorem lex_any (hs : Region.noSelect ops = true) (hQ : ∀ c a d v w, Q (.panic c) (Act.put a d v) w → Q (.panic c) a w) : ∀ (l : List (Bool × Nat)) (listed : Array Bool) (a : Act) (w : World),
    lexB ops l listed = true → S w → lexW P ops Q S l a w → wpAnyH P .any ops Q S l.length listed a w
  | [], listed, a, w, hB, _, h => ⟨by simpa [lexB] using hB, h⟩
  | (true, i) :: r, listed, a, w, hB, _, h => by
    simp only [lexB, Bool.and_eq_true, decide_eq_true_eq] at hB
    refine ⟨fun h0 => (by rw [hB.1] at h0; cases h0), fun j hj => ?_⟩
    rw [hB.1] at hj
    obtain rfl : j = i := by simpa using hj
    exact wpOp_mono (fun a' w' h' => ⟨h'.1, lex_any hs hQ r _ a' w' hB.2 h'.1 h'.2⟩) h
  | (false, i) :: r, listed, a, w, hB, hS, h => by
    simp only [lexB, Bool.and_eq_true] at hB
    obtain ⟨oi, v, hi, hy, h'⟩ := h
    exact wpAnyH_take hi hs hB.1.1 hB.1.2 (fun c a w => hQ c a _ _ w) hy hS (lex_any hs hQ r _ _ w hB.2 hS h')

/-- The walk as a goal, each operation beside its number. -/
structure LexG (P : Program) (ops : Array Oper) (Q : Exit → Act → World → Prop) (S : World → Prop) (l : List (Bool × Nat × Oper)) (a : Act) (w : World) : Prop where
  out : (∀ t, t ∈ l → ops[t.2.1]? = some t.2.2) → lexW P ops Q S (l.map fun t => (t.1, t.2.1)) a w

def lexL (l : List Oper) : List (Bool × Nat) → List (Bool × Nat × Oper)
  | [] => []
  | (b, i) :: r => match l[i]? with
    | some o => (b, i, o) :: lexL l r
    | none => lexL l r

theorem lexL_at (l : List Oper) : ∀ (k : List (Bool × Nat)) (t), t ∈ lexL l k → l.toArray[t.2.1]? = some t.2.2
  | [], t, h => by simp [lexL] at h
  | (b, i) :: r, t, h => by
    unfold lexL at h
    cases hi : l[i]? with
    | none => rw [hi] at h; exact lexL_at l r t h
    | some o =>
      rw [hi] at h
      rcases List.mem_cons.1 h with rfl | h
      · simpa using hi
      · exact lexL_at l r t h
theorem lexL_map (l : List Oper) : ∀ (k : List (Bool × Nat)), (k.all fun t => decide (t.2 < l.length)) = true → (lexL l k).map (fun t => (t.1, t.2.1)) = k
  | [], _ => rfl
  | (b, i) :: r, h => by
    simp only [List.all_cons, Bool.and_eq_true, decide_eq_true_eq] at h
    unfold lexL
    rw [List.getElem?_eq_getElem h.1]
    simp only [List.map_cons, lexL_map l r h.2]

theorem region_lex {id : Nat} {a : Act} {w : World} {l : List Oper} (S : World → Prop) (k : List (Bool × Nat)) (hm : P.follows .mixedOrders = true) (hB : (Region.noSelect l.toArray && decide (k.length = l.toArray.size) && (k.all fun t => decide (t.2 < l.length)) && lexB l.toArray k (Array.replicate l.toArray.size false)) = true)
    (hQ : ∀ c a d v w, Q (.panic c) (Act.put a d v) w → Q (.panic c) a w) (hS : S w.drew) (h : LexG P l.toArray Q S (lexL l k) a w.drew) : (Code.region id l.toArray true).wp P Q a w := by
  simp only [Bool.and_eq_true, decide_eq_true_eq] at hB
  have h1 := h.out (lexL_at l k)
  rw [lexL_map l k hB.1.2] at h1
  refine wp_region_held (S := S) hm ?_
  have := lex_any hB.1.1.1 hQ k _ a w.drew hB.2 hS h1
  rw [hB.1.1.2] at this
  exact this

theorem lexW_free {i : Nat} {o : Oper} {v : Value} {r : List (Bool × Nat × Oper)} {a : Act} {w : World} (hw : Region.wanted o (yielded ops a.tmps) = true) (hy : ∀ w', S w' → (execOp a.eval o).run P w' = .ok (.value v) w')
    (h : LexG P ops Q S r (a.put o.dst v) w) : LexG P ops Q S ((false, i, o) :: r) a w := ⟨fun hall => ⟨o, v, hall _ List.mem_cons_self, Or.inl ⟨hw, hy⟩, h.out (fun t ht => hall t (List.mem_cons_of_mem _ ht))⟩⟩
theorem lexW_sole {i : Nat} {o : Oper} {r : List (Bool × Nat × Oper)} {a : Act} {w : World}
    (h : ∀ K' : Act → World → Prop, Shut (∀ a w, S w → LexG P ops Q S r a w → K' a w) → if Region.wanted o (yielded ops a.tmps) = true then Oper.wp P o a w K' Q else K' (a.put o.dst undef) w) : LexG P ops Q S ((true, i, o) :: r) a w :=
  ⟨fun hall => wpOp_step (hall _ List.mem_cons_self) (fun K' hK => h K' (fun a w hS hW => hK a w ⟨hS, hW.out (fun t ht => hall t (List.mem_cons_of_mem _ ht))⟩))⟩
theorem lexW_done {a : Act} {w : World} (h : Q .normal a w) : LexG P ops Q S [] a w := ⟨fun _ => h⟩

theorem put_defers (a : Act) (d : Option Tmp) (v : Value) : (a.put d v).defers = a.defers := by cases d <;> rfl
/-- What a body's post says of a panic does not hang on the frame. -/
theorem panic_frame (K : Act → World → Prop) (fn : Func) (R : Ending → World → Prop) (c : _) (a : Act) (d : Option Tmp) (v : Value) (w : World) (h : Exit.then K (bodyPost P fn R) (.panic c) (Act.put a d v) w) : Exit.then K (bodyPost P fn R) (.panic c) a w := by
  have h : (Act.put a d v).defers = [] ∧ R (.panicked c) w := h
  rw [put_defers] at h
  exact h
theorem panic_block (n : Nat) (fn : Func) (R : Ending → World → Prop) (c : _) (a : Act) (d : Option Tmp) (v : Value) (w : World) (h : Exit.inBlock n (bodyPost P fn R) (.panic c) (Act.put a d v) w) : Exit.inBlock n (bodyPost P fn R) (.panic c) a w := by
  have h : (Act.put a d v).defers = [] ∧ R (.panicked c) w := h
  rw [put_defers] at h
  exact h
end
end Go.Proofs.YtkafkipjedpohaaGreatDoor
