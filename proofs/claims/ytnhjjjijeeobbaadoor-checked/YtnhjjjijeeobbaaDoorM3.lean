/-
  A run of the project's machine as it lies in memory.
-/
import Derived.Test.YtnhjjjijeeobbaaDoorM2
import Derived.Test.YtnhjjjijeeobbaaDoorR6
namespace Go.Proofs.YtnhjjjijeeobbaaDoor
open Go.RowKit

/-- Where its parts lie. -/
structure AdM where
  tag : Nat → Nat
  pv : Value
  fv : Value
  av : Value
  ov : Value
  FB : Nat → Nat
  LV : Nat → Value
  SV : Nat → Value
  AV : Nat → Value

/-- The cells of a Machine, of a frame. -/
def mcells (A : AdM) (s : Mc) (en : Int) : Array Value :=
  #[A.pv, A.fv, A.av, .int .i64 (cellsP s.arr), A.ov, .int .i64 s.steps, .int .i64 en, .int .i64 s.gives.k, .int .i64 s.gives.n]
def frcells (f : Fr) (lv sv : Value) : Array Value := #[.int .i64 f.fn, .int .i64 f.pc, lv, sv]

structure LayM (w : World) (B mb : Nat) (A : AdM) (s : Mc) (en : Int) : Prop where
  run : w.heap[mb]? = some (.cells (mcells A s en) 119 (0, 0))
  own : B ≤ mb ∧ A.tag mb = 0
  fr : Row w B A.tag 1 123 1 A.fv s.fr.length (pcell A.FB)
  fb : ∀ i, i < s.fr.length → w.heap[A.FB i]? = some (.cells (frcells (frAt s.fr i) (A.LV i) (A.SV i)) 127 (0, 0)) ∧ B ≤ A.FB i ∧ A.tag (A.FB i) = 10 + 4 * i
  ar : Row w B A.tag 2 46 1 A.av s.arr.length A.AV
  out : Row w B A.tag 3 45 2 A.ov s.out.length (vcell s.out)
  loc : ∀ i, i < s.fr.length → Row w B A.tag (11 + 4 * i) 45 2 (A.LV i) (frAt s.fr i).loc.length (vcell (frAt s.fr i).loc)
  stk : ∀ i, i < s.fr.length → Row w B A.tag (12 + 4 * i) 45 2 (A.SV i) (frAt s.fr i).stk.length (vcell (frAt s.fr i).stk.reverse)
  arr : ∀ j, j < s.arr.length → Row w B A.tag (13 + 4 * j) 45 2 (A.AV j) (s.arr.getD j []).length (vcell (s.arr.getD j []))

/-- The tags of the frame k. -/
def Tk (k d : Nat) : Prop := d = 10 + 4 * k ∨ d = 11 + 4 * k ∨ d = 12 + 4 * k

theorem blk_keep {w w' : World} {B b : Nat} {tag tag' : Nat → Nat} {p : Nat → Prop} {o : Obj} (h : w.heap[b]? = some o) (k : Ch B p tag tag' w w') (hp : ¬ p (tag b)) : w'.heap[b]? = some o ∧ tag' b = tag b :=
  ⟨(k.block b (heap_lt h) (Or.inr hp)).trans h, k.tags b (heap_lt h)⟩

/-- The frame at hand has turned; nothing else has. -/
theorem LayM.top {w w' : World} {B mb : Nat} {A : AdM} {s : Mc} {en : Int} {f f' : Fr} {rest : List Fr} {tag' : Nat → Nat} {lv sv : Value} (h : LayM w B mb A s en) (hs : s.fr = f :: rest) (k : Ch B (Tk rest.length) A.tag tag' w w')
    (hfb : w'.heap[A.FB rest.length]? = some (.cells (frcells f' lv sv) 127 (0, 0)))
    (hlo : Row w' B tag' (11 + 4 * rest.length) 45 2 lv f'.loc.length (vcell f'.loc)) (hst : Row w' B tag' (12 + 4 * rest.length) 45 2 sv f'.stk.length (vcell f'.stk.reverse)) :
    LayM w' B mb { A with tag := tag', LV := upd A.LV rest.length lv, SV := upd A.SV rest.length sv } { s with fr := f' :: rest } en := by
  have hlen : s.fr.length = rest.length + 1 := by rw [hs]; rfl
  have hot : ∀ i, i < rest.length → frAt (f' :: rest) i = frAt s.fr i := fun i hi => by rw [hs, frAt_rest _ _ _ hi, frAt_rest _ _ _ hi]
  have hfbk := h.fb rest.length (by omega)
  obtain ⟨r1, r2⟩ := blk_keep h.run k (by rw [h.own.2]; unfold Tk; omega)
  refine ⟨r1, ⟨h.own.1, r2.trans h.own.2⟩, ?_, fun i hi => ?_, h.ar.keep k (by unfold Tk; omega), h.out.keep k (by unfold Tk; omega), fun i hi => ?_, fun i hi => ?_, fun j hj => (h.arr j hj).keep k (by unfold Tk; omega)⟩
  · have := h.fr.keep k (by unfold Tk; omega)
    rw [hlen] at this
    exact this
  · have hi' : i < rest.length + 1 := hi
    by_cases e : i = rest.length
    · subst e
      refine ⟨?_, hfbk.2.1, (k.tags _ (heap_lt hfbk.1)).trans hfbk.2.2⟩
      show _ = some (Obj.cells (frcells (frAt (f' :: rest) rest.length) (upd A.LV rest.length lv rest.length) (upd A.SV rest.length sv rest.length)) _ _)
      rw [frAt_top, upd_same, upd_same]
      exact hfb
    · obtain ⟨g1, g2, g3⟩ := h.fb i (by omega)
      obtain ⟨g4, g5⟩ := blk_keep g1 k (by rw [g3]; unfold Tk; omega)
      refine ⟨?_, g2, g5.trans g3⟩
      show _ = some (Obj.cells (frcells (frAt (f' :: rest) i) (upd A.LV rest.length lv i) (upd A.SV rest.length sv i)) _ _)
      rw [hot i (by omega), upd_other _ _ _ _ e, upd_other _ _ _ _ e]
      exact g4
  · have hi' : i < rest.length + 1 := hi
    show Row w' B tag' _ _ 2 (upd A.LV rest.length lv i) (frAt (f' :: rest) i).loc.length (vcell (frAt (f' :: rest) i).loc)
    by_cases e : i = rest.length
    · subst e
      rw [frAt_top, upd_same]
      exact hlo
    · rw [hot i (by omega), upd_other _ _ _ _ e]
      exact (h.loc i (by omega)).keep k (by unfold Tk; omega)
  · have hi' : i < rest.length + 1 := hi
    show Row w' B tag' _ _ 2 (upd A.SV rest.length sv i) (frAt (f' :: rest) i).stk.length (vcell (frAt (f' :: rest) i).stk.reverse)
    by_cases e : i = rest.length
    · subst e
      rw [frAt_top, upd_same]
      exact hst
    · rw [hot i (by omega), upd_other _ _ _ _ e]
      exact (h.stk i (by omega)).keep k (by unfold Tk; omega)

/-- Nothing of the run has turned. -/
theorem LayM.keep {w w' : World} {B mb : Nat} {A : AdM} {s : Mc} {en : Int} {tag' : Nat → Nat} (h : LayM w B mb A s en) (k : Ch B (fun _ => False) A.tag tag' w w') : LayM w' B mb { A with tag := tag' } s en := by
  obtain ⟨r1, r2⟩ := blk_keep h.run k (fun h => h)
  refine ⟨r1, ⟨h.own.1, r2.trans h.own.2⟩, h.fr.keep k (fun h => h), fun i hi => ?_, h.ar.keep k (fun h => h), h.out.keep k (fun h => h), fun i hi => (h.loc i hi).keep k (fun h => h), fun i hi => (h.stk i hi).keep k (fun h => h), fun j hj => (h.arr j hj).keep k (fun h => h)⟩
  obtain ⟨g1, g2, g3⟩ := h.fb i hi
  obtain ⟨g4, g5⟩ := blk_keep g1 k (fun h => h)
  exact ⟨g4, g2, g5.trans g3⟩

theorem LayM.below {w w' : World} {B mb : Nat} {A : AdM} {s : Mc} {en : Int} (h : LayM w B mb A s en) (k : Below w.heap.size w w') : LayM w' B mb A s en := h.keep (Ch.of_below k)

/-- What a call of the machine leaves: the run s', its old parts where they were, at most the tags p turned. -/
def Aft (p : Nat → Prop) (w w' : World) (B mb : Nat) (A : AdM) (s' : Mc) (en : Int) : Prop :=
  ∃ A' : AdM, LayM w' B mb A' s' en ∧ A'.pv = A.pv ∧ A'.FB = A.FB ∧ Ch B p A.tag A'.tag w w'

theorem pushM (w : World) (B mb : Nat) (A : AdM) (s : Mc) (en : Int) (f : Fr) (rest : List Fr) (v : V) (hL : LayM w B mb A s en) (hs : s.fr = f :: rest) (hB : B ≤ w.heap.size) (hn : f.stk.length ≤ 64) :
    Calls Tryd.prog 106 #[.pointer (some ⟨A.FB rest.length, 3, none⟩), .agg #[.int .i64 v.k, .int .i64 v.n]] w fun e w' => e = .returned (.tuple #[]) ∧ Aft (Tk rest.length) w w' B mb A { s with fr := { f with stk := v :: f.stk } :: rest } en := by
  have hlen : s.fr.length = rest.length + 1 := by rw [hs]; rfl
  have e0 : frAt s.fr rest.length = f := by rw [hs]; exact frAt_top _ _
  obtain ⟨g1, g2, g3⟩ := hL.fb rest.length (by omega)
  have hrow := hL.stk rest.length (by omega)
  have hloc := hL.loc rest.length (by omega)
  rw [e0] at g1 hrow hloc
  refine (pushV w B _ 3 _ _ A.tag _ _ f.stk v g1 rfl g2 hB (by rw [g3]; omega) hrow (by omega)).mono ?_
  rintro e w' ⟨rfl, tag', sv', h1, h2, h3⟩
  have h4 : Ch B (Tk rest.length) A.tag tag' w w' := h3.mono (fun d hd => by rw [g3] at hd; unfold Tk; omega)
  exact ⟨rfl, _, hL.top hs h4 h2 (hloc.keep h3 (by rw [g3]; omega)) h1, rfl, rfl, h4⟩

theorem popM (w : World) (B mb : Nat) (A : AdM) (s : Mc) (en : Int) (f : Fr) (rest : List Fr) (v : V) (st : List V) (hL : LayM w B mb A s en) (hs : s.fr = f :: rest) (hst : f.stk = v :: st) (hn : st.length ≤ 64) :
    Calls Tryd.prog 103 #[.pointer (some ⟨A.FB rest.length, 3, none⟩)] w fun e w' => e = .returned (.agg #[.int .i64 v.k, .int .i64 v.n]) ∧ Aft (Tk rest.length) w w' B mb A { s with fr := { f with stk := st } :: rest } en := by
  have hlen : s.fr.length = rest.length + 1 := by rw [hs]; rfl
  have e0 : frAt s.fr rest.length = f := by rw [hs]; exact frAt_top _ _
  obtain ⟨g1, g2, g3⟩ := hL.fb rest.length (by omega)
  have hrow := hL.stk rest.length (by omega)
  have hloc := hL.loc rest.length (by omega)
  rw [e0] at g1 hrow hloc
  rw [hst] at hrow
  refine (popV w B _ 3 _ _ A.tag _ _ st v g1 rfl g2 (by rw [g3]; omega) hrow (by omega)).mono ?_
  rintro e w' ⟨rfl, sv', h1, h2, h3⟩
  have h4 : Ch B (Tk rest.length) A.tag A.tag w w' := h3.mono (fun d hd => by rw [g3] at hd; unfold Tk; omega)
  exact ⟨rfl, _, hL.top hs h4 h2 (hloc.keep h3 (by rw [g3]; omega)) h1, rfl, rfl, h4⟩
end Go.Proofs.YtnhjjjijeeobbaaDoor
