import Derived.Test.YtkafkipjedpohaaGreatDoorA5

/-
  The project's own stacks, of frames: Push, Pop, Top, Len.
-/
namespace Go.Proofs.YtkafkipjedpohaaGreatDoor
open Go.RowKit

/-- The cells of a list of frames: their addresses. -/
def pcell (FB : Nat → Nat) : Nat → Value := fun i => .pointer (some ⟨FB i, 0, none⟩)

theorem Tryz.infoPtr : (Tryz.prog.info? 133).map (fun i => (i.zero, i.size, i.bytes)) = some (some (.pointer none), 1, 8) := by kernel_rfl

theorem lenF (w : World) (b o n : Nat) (c : Nat) (p : Option Addr) (h : w.cell? ⟨b, o, none⟩ = some (.slice p n c)) :
    Calls Tryz.prog 92 #[.pointer (some ⟨b, o, none⟩)] w fun e w' => e = .returned (.int .i64 n) ∧ w' = w := by
  go_enter Tryz.func92, Tryz.ntmps92
  go_wp2
  go_ret
  exact ⟨rfl, rfl⟩

set_option maxRecDepth 100000 in
theorem topF (w : World) (b o n sb c : Nat) (q : Value) (h : w.cell? ⟨b, o, none⟩ = some (.slice (some ⟨sb, 0, none⟩) (n + 1) c)) (hq : w.cell? ⟨sb, n, none⟩ = some q) (hn : n ≤ 100000) :
    Calls Tryz.prog 89 #[.pointer (some ⟨b, o, none⟩)] w fun e w' => e = .returned q ∧ ∃ k, w' = w.drewN k := by
  go_enter Tryz.func89, Tryz.ntmps89
  go_wp2
  go_quiet (fail)
  go_wp2
  go_ret
  exact ⟨rfl, _, rfl⟩

set_option maxRecDepth 100000 in
set_option maxHeartbeats 1000000 in
theorem popF (w : World) (b o n sb c : Nat) (q : Value) (h : w.cell? ⟨b, o, none⟩ = some (.slice (some ⟨sb, 0, none⟩) (n + 1) c)) (hz : w.frozen? ⟨b, o, none⟩ = false) (hq : w.cell? ⟨sb, n, none⟩ = some q) (hn : n ≤ 100000) (hc : n + 1 ≤ c) :
    Calls Tryz.prog 146 #[.pointer (some ⟨b, o, none⟩)] w fun e w' => e = .returned q ∧ w' = w.setCell ⟨b, o, none⟩ (.slice (some ⟨sb, 0, none⟩) n c) := by
  go_enter Tryz.func146, Tryz.ntmps146
  go_wp2
  go_ret
  exact ⟨rfl, rfl⟩

set_option maxRecDepth 100000 in
set_option maxHeartbeats 1000000 in
theorem pushF (w : World) (B b o c : Nat) (t : TypeId) (tag : Nat → Nat) (cur : Array Value) (sv : Value) (n : Nat) (FB : Nat → Nat) (q : Nat) (hb : w.heap[b]? = some (.cells cur t (0, 0))) (ho : cur[o]? = some sv) (hBb : B ≤ b) (hB : B ≤ w.heap.size) (hne : tag b ≠ c) (hrow : Row w B tag c 133 1 sv n (pcell FB)) (hn : n ≤ 100000) :
    Calls Tryz.prog 86 #[.pointer (some ⟨b, o, none⟩), .pointer (some ⟨q, 0, none⟩)] w fun e w' => e = .returned (.tuple #[]) ∧
      ∃ tag' sv', Row w' B tag' c 133 1 sv' (n + 1) (pcell (upd FB n q)) ∧ w'.heap[b]? = some (.cells (cur.setIfInBounds o sv') t (0, 0)) ∧ Ch B (fun d => d = c ∨ d = tag b) tag tag' w w' := by
  have hbz := heap_lt hb
  obtain ⟨inf, hi, hz0, hz1, hz2⟩ : ∃ i, Tryz.prog.info? 133 = some i ∧ i.zero = some (.pointer none) ∧ i.size = 1 ∧ i.bytes = 8 := by
    obtain ⟨i, hi, hzz⟩ := Option.map_eq_some_iff.1 Tryz.infoPtr
    simp only [Prod.mk.injEq] at hzz
    exact ⟨i, hi, hzz.1, hzz.2.1, hzz.2.2⟩
  have d3 : w.cell? ⟨b, o, none⟩ = some sv := (cell_heap hb).trans ho
  have y3 : w.frozen? ⟨b, o, none⟩ = false := frozen_heap hb
  have hne1 : some b ≠ sv.ownBlock := hrow.other hne
  have HC := hid (And.intro hrow (And.intro hb hne))
  clear hrow hb ho hne
  go_enter Tryz.func86, Tryz.ntmps86
  go_wp2_with (at_builtin; refine stopHereM ?_)
  refine ⟨?_, trivial⟩
  refine wpList_append_lies _ rfl _ _ _ rfl B 133 inf _ 1 8 Tryz.underlying126 hi hz0 hz1 hz2 rfl (by decide) sv n _ rfl (HC.out.1.owns.alloc _) ⟨w.heap.size, 0, none⟩ 1 1 [.pointer (some ⟨q, 0, none⟩)] rfl rfl (World.news_of_block (Go.Deep.blk_alloc_new w _)) (by intro u hu; simp at hu; subst hu; rfl) (by omega) (by unfold maxLen; omega) (by omega) (by simp; omega) (w.heap.size + 1) (by simp) ?_
  intro g cap w1 hown hgrow hat hlt
  have hX : Ch B (fun _ => False) tag tag w (w.alloc (.cells #[.pointer (some ⟨q, 0, none⟩)] 133)) := Ch.of_below ((Below.refl _ _).alloc (Nat.le_refl _) _)
  have hblk : (w.alloc (.cells #[.pointer (some ⟨q, 0, none⟩)] 133)).heap[b]? = w.heap[b]? := Below.heap_alloc w _ b hbz
  obtain ⟨tag', hst, hgc⟩ := (HC.out.1.keep hX (fun h => h)).grew hown hgrow (by rcases hat with h | h; exact Or.inl h; right; rw [h]; simp) rfl
  have hlx : b < (w.alloc (.cells #[.pointer (some ⟨q, 0, none⟩)] 133)).heap.size := by simp; omega
  have htf : tag' b = tag b := hgc.tags b hlx
  have hb1 : w1.heap[b]? = some (.cells cur t (0, 0)) := (hgc.block b hlx (Or.inr HC.out.2.2)).trans (hblk.trans HC.out.2.1)
  have hb2 := heap_set (o := o) hb1 (.slice (some ⟨g, 0, none⟩) (n + 1) cap)
  have hcs : Ch B (fun d => d = tag b) tag' tag' w1 (w1.setCell ⟨b, o, none⟩ (.slice (some ⟨g, 0, none⟩) (n + 1) cap)) := Ch.set w1 b _ _ hBb htf
  have hst2 := (hst.keep hcs (fun h => HC.out.2.2 h.symm)).congr (g := pcell (upd FB n q)) (fun i hi => by
    unfold pcell
    by_cases h : i < n * 1
    · rw [if_pos h, upd_other _ _ _ _ (by omega)]
    · obtain rfl : i = n := by omega
      rw [if_neg h, upd_same]
      simp)
  have hall : Ch B (fun d => d = c ∨ d = tag b) tag tag' w (w1.setCell ⟨b, o, none⟩ (.slice (some ⟨g, 0, none⟩) (n + 1) cap)) :=
    ((hX.mono (fun _ h => h.elim)).trans (hgc.mono (fun _ h => Or.inl h))).trans (hcs.mono (fun _ h => Or.inr h))
  have q0 : w1.cell? ⟨b, o, none⟩ = some sv := (cell_heap hb1).trans ((cell_heap HC.out.2.1).symm.trans d3)
  have q1 : w1.frozen? ⟨b, o, none⟩ = false := frozen_heap hb1
  have HQ := hid (And.intro hst2 (And.intro hb2 hall))
  clear hall hst2 hcs hst hgc hX hown hgrow hb1 hb2 hblk
  go_wp2
  go_end0
  exact ⟨rfl, tag', _, HQ.out⟩
end Go.Proofs.YtkafkipjedpohaaGreatDoor

/-
  upshiftref's number, two, where, cells.
-/
namespace Go.Proofs.YtkafkipjedpohaaGreatDoor
open Go.RowKit

theorem w64_eq (n : Int) : wrap64 n = w64 n := by unfold wrap64 w64; rfl

/-- What upshiftref.two answers. -/
def twoV (x : V × Int) : Value := .tuple #[.agg #[.int .i64 x.1.k, .int .i64 x.1.n], .int .i64 x.2]

end Go.Proofs.YtkafkipjedpohaaGreatDoor

/-
  upshiftref's where, cells.
-/
namespace Go.Proofs.YtkafkipjedpohaaGreatDoor
open Go.RowKit

theorem Row.any {w : World} {B : Nat} {tag : Nat → Nat} {c : Nat} {e : TypeId} {sz : Nat} {v : Value} {n : Nat} {f : Nat → Value} (h : Row w B tag c e sz v n f) : ∃ p cap, v = .slice p n cap ∧ n ≤ cap := by
  rcases h with ⟨h, h2⟩ | ⟨b, cap, cur, hv, hb, ht, hh, hc, _⟩
  · exact ⟨none, 0, by rw [h, h2], by omega⟩
  · exact ⟨_, cap, hv, hc⟩

theorem cells_nonneg (arr : List (List V)) : 0 ≤ cellsP arr := by
  induction arr with
  | nil => simp [cellsP]
  | cons a r ih => simp only [cellsP, List.map_cons, List.sum_cons] at ih ⊢; omega
end Go.Proofs.YtkafkipjedpohaaGreatDoor

/-
  A run of upshiftref in memory: its addresses in one bundle; upshiftref's arrays: Len, Get.
-/
namespace Go.Proofs.YtkafkipjedpohaaGreatDoor
open Go.RowKit

/-- Where a run lies. -/
structure Ad where
  tag : Nat → Nat
  pv : Value
  fv : Value
  av : Value
  ov : Value
  hv : Value
  LV : Nat → Value
  SV : Nat → Value
  AV : Nat → Value

def LayA (w : World) (B rb : Nat) (A : Ad) (s : Mc) : Prop := Lay w B rb A.tag A.pv A.fv A.av A.ov A.hv A.LV A.SV A.AV s

theorem Row.below {w w' : World} {B : Nat} {tag : Nat → Nat} {c : Nat} {e : TypeId} {sz : Nat} {v : Value} {n : Nat} {f : Nat → Value} (h : Row w B tag c e sz v n f) (k : Below w.heap.size w w') : Row w' B tag c e sz v n f :=
  h.keep (Ch.of_below (p := fun _ => False) k) (fun h => h)
/-- All but boxes may turn. -/
def Five : Nat → Prop := fun c => c ≠ 5

theorem Ch.cell {B : Nat} {p : Nat → Prop} {t1 t2 : Nat → Nat} {u w : World} (h : Ch B p t1 t2 u w) {a : Addr} (ha : a.block < u.heap.size) (hp : ¬ p (t1 a.block)) : w.cell? a = u.cell? a := World.cell?_of_block (h.block a.block ha (Or.inr hp))
theorem Ch.of_tags {B : Nat} {p : Nat → Prop} {t1 t2 : Nat → Nat} {u w : World} (h : Below u.heap.size u w) (ht : ∀ b, b < u.heap.size → t2 b = t1 b) : Ch B p t1 t2 u w :=
  ⟨h.os, h.tape, h.output, h.size, fun b hb _ => h.block b hb, ht⟩

/-- What upshiftref's calls leave of a run. -/
def After (w w' : World) (B rb : Nat) (A : Ad) (s' : Mc) : Prop := ∃ A', LayA w' B rb A' s' ∧ A'.pv = A.pv ∧ A'.fv = A.fv ∧ Ch B Five A.tag A'.tag w w'

end Go.Proofs.YtkafkipjedpohaaGreatDoor

/-
  A run of the project's machine as it lies in memory.
-/
namespace Go.Proofs.YtkafkipjedpohaaGreatDoor
open Go.RowKit

/-- What of it no instruction but Call and Return turns: the program, the events, what is made, the frames' blocks, their code, the counts. -/
structure AdG where
  pv : Value
  ev : Value
  mv : Value
  FB : Nat → Nat
  CV : Nat → Value
  hi : Int
  up : Int
  dn : Int

/-- Where its parts lie. -/
structure AdM where
  tag : Nat → Nat
  g : AdG
  fv : Value
  av : Value
  ov : Value
  LV : Nat → Value
  SV : Nat → Value
  AV : Nat → Value
def AdM.FB (A : AdM) : Nat → Nat := A.g.FB

/-- The cells of a Machine, of a frame. -/
def mcells (A : AdM) (s : Mc) (en : Int) : Array Value :=
  #[A.g.pv, A.g.ev, A.g.mv, A.fv, A.av, .int .i64 (cellsP s.arr), A.ov, .int .i64 s.steps, .int .i64 A.g.hi, .int .i64 A.g.up, .int .i64 A.g.dn, .int .i64 en, .int .i64 s.gives.k, .int .i64 s.gives.n]
def frcells (f : Fr) (lv sv cv : Value) : Array Value := #[.int .i64 f.fn, .int .i64 f.pc, lv, sv, cv]

structure LayM (w : World) (B mb : Nat) (A : AdM) (s : Mc) (en : Int) : Prop where
  run : w.heap[mb]? = some (.cells (mcells A s en) 130 (0, 0))
  own : B ≤ mb ∧ A.tag mb = 0
  fr : Row w B A.tag 1 133 1 A.fv s.fr.length (pcell A.FB)
  fb : ∀ i, i < s.fr.length → w.heap[A.FB i]? = some (.cells (frcells (frAt s.fr i) (A.LV i) (A.SV i) (A.g.CV i)) 138 (0, 0)) ∧ B ≤ A.FB i ∧ A.tag (A.FB i) = 10 + 4 * i
  ar : Row w B A.tag 2 44 1 A.av s.arr.length A.AV
  out : Row w B A.tag 3 43 2 A.ov s.out.length (vcell s.out)
  loc : ∀ i, i < s.fr.length → Row w B A.tag (11 + 4 * i) 43 2 (A.LV i) (frAt s.fr i).loc.length (vcell (frAt s.fr i).loc)
  stk : ∀ i, i < s.fr.length → Row w B A.tag (12 + 4 * i) 43 2 (A.SV i) (frAt s.fr i).stk.length (vcell (frAt s.fr i).stk.reverse)
  arr : ∀ j, j < s.arr.length → Row w B A.tag (13 + 4 * j) 43 2 (A.AV j) (s.arr.getD j []).length (vcell (s.arr.getD j []))

/-- The tags of the frame k. -/
def Tk (k d : Nat) : Prop := d = 10 + 4 * k ∨ d = 11 + 4 * k ∨ d = 12 + 4 * k

theorem blk_keep {w w' : World} {B b : Nat} {tag tag' : Nat → Nat} {p : Nat → Prop} {o : Obj} (h : w.heap[b]? = some o) (k : Ch B p tag tag' w w') (hp : ¬ p (tag b)) : w'.heap[b]? = some o ∧ tag' b = tag b :=
  ⟨(k.block b (heap_lt h) (Or.inr hp)).trans h, k.tags b (heap_lt h)⟩

/-- The frame at hand has turned; nothing else has. -/
theorem LayM.top {w w' : World} {B mb : Nat} {A : AdM} {s : Mc} {en : Int} {f f' : Fr} {rest : List Fr} {tag' : Nat → Nat} {lv sv : Value} (h : LayM w B mb A s en) (hs : s.fr = f :: rest) (k : Ch B (Tk rest.length) A.tag tag' w w')
    (hfb : w'.heap[A.FB rest.length]? = some (.cells (frcells f' lv sv (A.g.CV rest.length)) 138 (0, 0)))
    (hlo : Row w' B tag' (11 + 4 * rest.length) 43 2 lv f'.loc.length (vcell f'.loc)) (hst : Row w' B tag' (12 + 4 * rest.length) 43 2 sv f'.stk.length (vcell f'.stk.reverse)) :
    LayM w' B mb { A with tag := tag', LV := upd A.LV rest.length lv, SV := upd A.SV rest.length sv } { s with fr := f' :: rest } en := by
  have hlen : s.fr.length = rest.length + 1 := by rw [hs]; rfl
  have hot : ∀ i, i < rest.length → frAt (f' :: rest) i = frAt s.fr i := fun i hi => by rw [hs, frAt_rest _ _ _ hi, frAt_rest _ _ _ hi]
  have hfbk := h.fb rest.length (by omega)
  obtain ⟨r1, r2⟩ := blk_keep h.run k (by rw [h.own.2]; unfold Tk; omega)
  refine ⟨r1, ⟨h.own.1, r2.trans h.own.2⟩, ?_, fun i hi => ?_, h.ar.keep k (by unfold Tk; omega), h.out.keep k (by unfold Tk; omega), fun i hi => ?_, fun i hi => ?_, fun j hj => (h.arr j hj).keep k (by unfold Tk; omega)⟩
  · have := h.fr.keep k (by unfold Tk; omega)
    rw [hlen] at this
    exact this
  · have hi' : i < rest.length + 1 := hi
    by_cases e : i = rest.length
    · subst e
      refine ⟨?_, hfbk.2.1, (k.tags _ (heap_lt hfbk.1)).trans hfbk.2.2⟩
      show _ = some (Obj.cells (frcells (frAt (f' :: rest) rest.length) (upd A.LV rest.length lv rest.length) (upd A.SV rest.length sv rest.length) (A.g.CV rest.length)) _ _)
      rw [frAt_top, upd_same, upd_same]
      exact hfb
    · obtain ⟨g1, g2, g3⟩ := h.fb i (by omega)
      obtain ⟨g4, g5⟩ := blk_keep g1 k (by rw [g3]; unfold Tk; omega)
      refine ⟨?_, g2, g5.trans g3⟩
      show _ = some (Obj.cells (frcells (frAt (f' :: rest) i) (upd A.LV rest.length lv i) (upd A.SV rest.length sv i) (A.g.CV i)) _ _)
      rw [hot i (by omega), upd_other _ _ _ _ e, upd_other _ _ _ _ e]
      exact g4
  · have hi' : i < rest.length + 1 := hi
    show Row w' B tag' _ _ 2 (upd A.LV rest.length lv i) (frAt (f' :: rest) i).loc.length (vcell (frAt (f' :: rest) i).loc)
    by_cases e : i = rest.length
    · subst e
      rw [frAt_top, upd_same]
      exact hlo
    · rw [hot i (by omega), upd_other _ _ _ _ e]
      exact (h.loc i (by omega)).keep k (by unfold Tk; omega)
  · have hi' : i < rest.length + 1 := hi
    show Row w' B tag' _ _ 2 (upd A.SV rest.length sv i) (frAt (f' :: rest) i).stk.length (vcell (frAt (f' :: rest) i).stk.reverse)
    by_cases e : i = rest.length
    · subst e
      rw [frAt_top, upd_same]
      exact hst
    · rw [hot i (by omega), upd_other _ _ _ _ e]
      exact (h.stk i (by omega)).keep k (by unfold Tk; omega)

/-- Nothing of the run has turned. -/
theorem LayM.keep {w w' : World} {B mb : Nat} {A : AdM} {s : Mc} {en : Int} {tag' : Nat → Nat} (h : LayM w B mb A s en) (k : Ch B (fun _ => False) A.tag tag' w w') : LayM w' B mb { A with tag := tag' } s en := by
  obtain ⟨r1, r2⟩ := blk_keep h.run k (fun h => h)
  refine ⟨r1, ⟨h.own.1, r2.trans h.own.2⟩, h.fr.keep k (fun h => h), fun i hi => ?_, h.ar.keep k (fun h => h), h.out.keep k (fun h => h), fun i hi => (h.loc i hi).keep k (fun h => h), fun i hi => (h.stk i hi).keep k (fun h => h), fun j hj => (h.arr j hj).keep k (fun h => h)⟩
  obtain ⟨g1, g2, g3⟩ := h.fb i hi
  obtain ⟨g4, g5⟩ := blk_keep g1 k (fun h => h)
  exact ⟨g4, g2, g5.trans g3⟩

theorem LayM.below {w w' : World} {B mb : Nat} {A : AdM} {s : Mc} {en : Int} (h : LayM w B mb A s en) (k : Below w.heap.size w w') : LayM w' B mb A s en := h.keep (Ch.of_below k)

/-- What a call of the machine leaves: the run s', its old parts where they were, at most the tags p turned. -/
def Aft (p : Nat → Prop) (w w' : World) (B mb : Nat) (A : AdM) (s' : Mc) (en : Int) : Prop :=
  ∃ A' : AdM, LayM w' B mb A' s' en ∧ A'.g = A.g ∧ Ch B p A.tag A'.tag w w'

theorem pushM (w : World) (B mb : Nat) (A : AdM) (s : Mc) (en : Int) (f : Fr) (rest : List Fr) (v : V) (hL : LayM w B mb A s en) (hs : s.fr = f :: rest) (hB : B ≤ w.heap.size) (hn : f.stk.length ≤ 64) :
    Calls Tryz.prog 132 #[.pointer (some ⟨A.FB rest.length, 3, none⟩), .agg #[.int .i64 v.k, .int .i64 v.n]] w fun e w' => e = .returned (.tuple #[]) ∧ Aft (Tk rest.length) w w' B mb A { s with fr := { f with stk := v :: f.stk } :: rest } en := by
  have hlen : s.fr.length = rest.length + 1 := by rw [hs]; rfl
  have e0 : frAt s.fr rest.length = f := by rw [hs]; exact frAt_top _ _
  obtain ⟨g1, g2, g3⟩ := hL.fb rest.length (by omega)
  have hrow := hL.stk rest.length (by omega)
  have hloc := hL.loc rest.length (by omega)
  rw [e0] at g1 hrow hloc
  refine (pushV w B _ 3 _ _ A.tag _ _ f.stk v g1 rfl g2 hB (by rw [g3]; omega) hrow (by omega)).mono ?_
  rintro e w' ⟨rfl, tag', sv', h1, h2, h3⟩
  have h4 : Ch B (Tk rest.length) A.tag tag' w w' := h3.mono (fun d hd => by rw [g3] at hd; unfold Tk; omega)
  exact ⟨rfl, _, hL.top hs h4 h2 (hloc.keep h3 (by rw [g3]; omega)) h1, rfl, h4⟩

theorem popM (w : World) (B mb : Nat) (A : AdM) (s : Mc) (en : Int) (f : Fr) (rest : List Fr) (v : V) (st : List V) (hL : LayM w B mb A s en) (hs : s.fr = f :: rest) (hst : f.stk = v :: st) (hn : st.length ≤ 64) :
    Calls Tryz.prog 129 #[.pointer (some ⟨A.FB rest.length, 3, none⟩)] w fun e w' => e = .returned (.agg #[.int .i64 v.k, .int .i64 v.n]) ∧ Aft (Tk rest.length) w w' B mb A { s with fr := { f with stk := st } :: rest } en := by
  have hlen : s.fr.length = rest.length + 1 := by rw [hs]; rfl
  have e0 : frAt s.fr rest.length = f := by rw [hs]; exact frAt_top _ _
  obtain ⟨g1, g2, g3⟩ := hL.fb rest.length (by omega)
  have hrow := hL.stk rest.length (by omega)
  have hloc := hL.loc rest.length (by omega)
  rw [e0] at g1 hrow hloc
  rw [hst] at hrow
  refine (popV w B _ 3 _ _ A.tag _ _ st v g1 rfl g2 (by rw [g3]; omega) hrow (by omega)).mono ?_
  rintro e w' ⟨rfl, sv', h1, h2, h3⟩
  have h4 : Ch B (Tk rest.length) A.tag A.tag w w' := h3.mono (fun d hd => by rw [g3] at hd; unfold Tk; omega)
  exact ⟨rfl, _, hL.top hs h4 h2 (hloc.keep h3 (by rw [g3]; omega)) h1, rfl, h4⟩
end Go.Proofs.YtkafkipjedpohaaGreatDoor

/-
  The project's machine: number, function, integer, truth, quotient, rule, reckoned, equal.
-/
namespace Go.Proofs.YtkafkipjedpohaaGreatDoor
open Go.RowKit

/-- A trap gives up. -/
def trapE (n : Int) : Ending := .panicked [{ v := .iface 163 (.int .i64 n), recovered := false }]

/-- A value as the program has it. -/
def vagg (v : V) : Value := .agg #[.int .i64 v.k, .int .i64 v.n]

theorem numberM (n : Int) (w : World) : Calls Tryz.prog 133 #[.int .i64 n] w fun e w' => e = .returned (.agg #[.int .i64 1, .int .i64 n]) ∧ w' = w.alloc (.cells #[.int .i64 1, .int .i64 n] 43) := by
  go_enter Tryz.func133, Tryz.ntmps133
  go_wp2
  exact bodyPost_ret (v := .agg #[.int .i64 1, .int .i64 n]) (by simp [results, Tryz.results133, go_sem]) rfl ⟨rfl, rfl⟩

theorem functionM (n : Int) (w : World) : Calls Tryz.prog 134 #[.int .i64 n] w fun e w' => e = .returned (.agg #[.int .i64 3, .int .i64 n]) ∧ w' = w.alloc (.cells #[.int .i64 3, .int .i64 n] 43) := by
  go_enter Tryz.func134, Tryz.ntmps134
  go_wp2
  exact bodyPost_ret (v := .agg #[.int .i64 3, .int .i64 n]) (by simp [results, Tryz.results134, go_sem]) rfl ⟨rfl, rfl⟩

/-- The number of a value, or TrapType. -/
theorem integerA (k n : Int) (w : World) : Calls Tryz.prog 147 #[.agg #[.int .i64 k, .int .i64 n]] w fun e w' => ((k = 1 ∧ e = .returned (.int .i64 n)) ∨ (k ≠ 1 ∧ e = trapE 3)) ∧ w' = w.alloc (.cells #[.int .i64 k, .int .i64 n] 43) := by
  by_cases hk : k = 1
  · have e1 : (k != 1) = false := by simpa using hk
    have HK := hid hk
    clear hk
    go_enter Tryz.func147, Tryz.ntmps147
    go_wp2
    go_ret
    exact ⟨Or.inl ⟨HK.out, rfl⟩, rfl⟩
  · have e1 : (k != 1) = true := by simpa using hk
    have HK := hid hk
    clear hk
    go_enter Tryz.func147, Tryz.ntmps147
    go_wp2
    exact ⟨rfl, Or.inr ⟨HK.out, rfl⟩, rfl⟩

theorem truthM (b : Bool) (w : World) : Calls Tryz.prog 153 #[.bool b] w fun e w' => e = .returned (.int .i64 (if b = true then 1 else 0)) ∧ w' = w := by
  cases b
  · go_enter Tryz.func153, Tryz.ntmps153
    go_wp2
    go_ret
    exact ⟨rfl, rfl⟩
  · go_enter Tryz.func153, Tryz.ntmps153
    go_wp2
    go_ret
    exact ⟨rfl, rfl⟩

/-- What the functions that rule answers give. -/
def resP (op a b : Int) : Int :=
  if op = 4 then w64 (a + b) else if op = 5 then w64 (a - b) else if op = 6 then w64 (a * b) else if op = 7 then w64 (a.tdiv b) else if a < b then 1 else 0

def ruleP (op : Int) : Nat := if op = 4 then 148 else if op = 5 then 149 else if op = 6 then 150 else if op = 7 then 151 else 152

/-- Reckoning, or TrapDivide. -/
theorem resultA (op a b : Int) (hop : op = 4 ∨ op = 5 ∨ op = 6 ∨ op = 7 ∨ op = 8) (w : World) : Calls Tryz.prog (ruleP op) #[.int .i64 a, .int .i64 b] w fun e w' => ((¬ (op = 7 ∧ b = 0) ∧ e = .returned (.int .i64 (resP op a b))) ∨ ((op = 7 ∧ b = 0) ∧ e = trapE 4)) ∧ w' = w := by
  rcases hop with rfl | rfl | rfl | rfl | rfl
  · show Calls Tryz.prog 148 _ _ _
    go_enter Tryz.func148, Tryz.ntmps148
    go_wp2
    go_ret
    exact ⟨Or.inl ⟨fun h => by omega, by simp [resP, w64_eq]⟩, rfl⟩
  · show Calls Tryz.prog 149 _ _ _
    go_enter Tryz.func149, Tryz.ntmps149
    go_wp2
    go_ret
    exact ⟨Or.inl ⟨fun h => by omega, by simp [resP, w64_eq]⟩, rfl⟩
  · show Calls Tryz.prog 150 _ _ _
    go_enter Tryz.func150, Tryz.ntmps150
    go_wp2
    go_ret
    exact ⟨Or.inl ⟨fun h => by omega, by simp [resP, w64_eq]⟩, rfl⟩
  · show Calls Tryz.prog 151 _ _ _
    by_cases hb : b = 0
    · subst hb
      go_enter Tryz.func151, Tryz.ntmps151
      go_wp2
      refine ⟨rfl, ?_, rfl⟩
      simp [trapE]
    · have e1 : (b == 0) = false := by simpa using hb
      have HB := hid hb
      clear hb
      go_enter Tryz.func151, Tryz.ntmps151
      go_wp2
      go_ret
      exact ⟨Or.inl ⟨fun h => HB.out h.2, by simp [resP, w64_eq]⟩, rfl⟩
  · show Calls Tryz.prog 152 _ _ _
    have hv : (if decide (a < b) = true then (1 : Int) else 0) = resP 8 a b := by simp [resP]
    have hq := truthM (decide (a < b)) w
    rw [hv] at hq
    have HQ := hid hq
    clear hq hv
    generalize resP 8 a b = x at *
    go_enter Tryz.func152, Tryz.ntmps152
    go_wp2_with fail
    refine HQ.out.mono ?_
    rintro e w' ⟨rfl, hw'⟩
    rw [hw']
    clear hw' w'
    go_wp2
    go_ret
    exact ⟨Or.inl ⟨fun h => by omega, rfl⟩, rfl⟩

theorem ruleM (op : Int) (hop : op = 4 ∨ op = 5 ∨ op = 6 ∨ op = 7 ∨ op = 8) (w : World) : Calls Tryz.prog 137 #[.int .i64 op] w fun e w' => e = .returned (.func (.func (ruleP op)) #[] #[]) ∧ w' = w := by
  rcases hop with rfl | rfl | rfl | rfl | rfl
  all_goals
    go_enter Tryz.func137, Tryz.ntmps137
    go_wp2
    go_ret
    exact ⟨rfl, rfl⟩
end Go.Proofs.YtkafkipjedpohaaGreatDoor
