import Derived.Test.YtkafkipjedpohaaGreatDoorM3
import Derived.Test.YtkafkipjedpohaaGreatDoorM30
import Derived.Test.YtkafkipjedpohaaGreatDoorPureA

/-
  As Lx, for a region whose last operation waits for all others (a store into what was read): behind that one S need not hold.
-/
namespace Go.Proofs.YtkafkipjedpohaaGreatDoor
open Go

section
variable {P : Program} {ops : Array Oper} {Q : Exit → Act → World → Prop} {S : World → Prop} {z : Nat}

/-- Number z waits for all others. -/
def waitsAll (ops : Array Oper) (z : Nat) : Bool := match ops[z]? with
  | none => false
  | some o => (List.range ops.size).all fun i => i == z || o.after.any fun e => Region.binds .any e && e.on == i

theorem waits_not {listed : Array Bool} {i : Nat} (hw : waitsAll ops z = true) (hi : i ∈ Region.ready .any ops listed) (hne : i ≠ z) : ¬ z ∈ Region.ready .any ops listed := by
  intro hz
  obtain ⟨u0, oi, hoi, _⟩ := mem_ready.1 hi
  obtain ⟨_, oz, hoz, hall⟩ := mem_ready.1 hz
  unfold waitsAll at hw
  rw [hoz] at hw
  have h1 := List.all_eq_true.1 hw i (List.mem_range.2 (Array.getElem?_eq_some_iff.1 hoi).1)
  simp only [Bool.or_eq_true, beq_iff_eq, hne, false_or, Array.any_eq_true', Bool.and_eq_true] at h1
  obtain ⟨e, he, hb, rfl⟩ := h1
  have h2 := hall e he hb
  rcases Nat.lt_or_ge e.on listed.size with h | h
  · simp [h] at u0 h2; rw [u0] at h2; cases h2
  · simp [Array.getElem?_eq_none h] at h2

/-- Whatever order is picked: S holds behind each but z. -/
def anyZ (P : Program) (ops : Array Oper) (Q : Exit → Act → World → Prop) (S : World → Prop) (z : Nat) : Nat → Array Bool → Act → World → Prop
  | 0, listed, a, w => Region.ready .any ops listed = [] ∧ Q .normal a w
  | n + 1, listed, a, w => (Region.ready .any ops listed = [] → Q .normal a w) ∧
      ∀ i ∈ Region.ready .any ops listed, wpOp P ops Q i (fun a' w' => (i ≠ z → S w') ∧ anyZ P ops Q S z n (listed.setIfInBounds i true) a' w') a w

theorem anyZ.any : ∀ (n : Nat) (listed : Array Bool) (a : Act) (w : World), anyZ P ops Q S z n listed a w → wpAny P .any ops Q n listed a w
  | 0, _, _, _, h => h
  | n + 1, _, _, _, h => ⟨h.1, fun i hi => wpOp_mono (fun a' w' h' => anyZ.any n _ a' w' h'.2) (h.2 i hi)⟩

theorem anyZ.take {i : Nat} {oi : Oper} {v : Value} (hi : ops[i]? = some oi) (hs : Region.noSelect ops = true) (hw : waitsAll ops z = true) (hiz : i ≠ z) (hQ : ∀ c a w, Q (.panic c) (a.put oi.dst v) w → Q (.panic c) a w) :
    ∀ (n : Nat) (listed : Array Bool) (a : Act) (w : World),
      (∀ j oj, ops[j]? = some oj → j ≠ i → listed.getD j true = false → (∀ e ∈ oj.after, Region.binds .any e = true → e.on ≠ i) → oi.apart ops oj = true) →
      i ∈ Region.ready .any ops listed → YieldsIf P ops S oi v a → S w → anyZ P ops Q S z n (listed.setIfInBounds i true) (a.put oi.dst v) w → anyZ P ops Q S z (n + 1) listed a w
  | n, listed, a, w, hfree, hr, hy, hS, H => by
    refine ⟨fun h => (by rw [h] at hr; cases hr), fun j hj => ?_⟩
    by_cases hji : j = i
    · rw [hji]
      exact hy.wpOp hi hS ⟨fun _ => hS, H⟩
    have hjr := ready_mono hj hji
    have hjz : j ≠ z := fun e => waits_not hw hr hiz (e ▸ hj)
    cases n with
    | zero => rw [H.1] at hjr; cases hjr
    | succ n =>
      have h1 := H.2 j hjr
      obtain ⟨hjun, oj, hoj, hall⟩ := mem_ready.1 hj
      have hsel := Region.noSelect_spec hs
      have hnot : ∀ e ∈ oj.after, Region.binds .any e = true → e.on ≠ i := fun e he hb heq => by
        have h2 := hall e he hb
        have h0 := (mem_ready.1 hr).1
        rw [heq] at h2
        rcases Nat.lt_or_ge i listed.size with h' | h'
        · simp [h'] at h0 h2; rw [h0] at h2; cases h2
        · simp [Array.getElem?_eq_none h'] at h2
      have h2 := wpOp_putIf hoj (hfree j oj hoj hji hjun hnot) (fun cs b => hsel i oi cs b hi) (fun cs b => hsel j oj cs b hoj) hQ hy h1
      refine wpOp_mono (fun a' w' h3 => ⟨h3.2.1, anyZ.take hi hs hw hiz hQ n _ a' w' (fun k ok hk hki hun hno => hfree k ok hk hki ?_ hno) (ready_mono hr (Ne.symm hji)) h3.1 (h3.2.1 hjz) ?_⟩) h2
      · by_cases hjk : j = k
        · rw [← hjk]; exact hjun
        · rw [getD_set_ne true hjk] at hun; exact hun
      · rw [Array.setIfInBounds_comm _ _ hji]
        exact h3.2.2

/-- The walk, as lexW. -/
def lexZ (P : Program) (ops : Array Oper) (Q : Exit → Act → World → Prop) (S : World → Prop) (z : Nat) : List (Bool × Nat) → Act → World → Prop
  | [], a, w => Q .normal a w
  | (true, i) :: r, a, w => wpOp P ops Q i (fun a' w' => (i ≠ z → S w') ∧ lexZ P ops Q S z r a' w') a w
  | (false, i) :: r, a, w => ∃ oi v, ops[i]? = some oi ∧ YieldsIf P ops S oi v a ∧ lexZ P ops Q S z r (a.put oi.dst v) w

/-- Number z is the last one, if it is there. -/
def zLast (z : Nat) : List (Bool × Nat) → Bool
  | [] => true
  | (b, i) :: r => (i != z || (b && r.isEmpty)) && zLast z r

theorem lexZ_any (hs : Region.noSelect ops = true) (hw : waitsAll ops z = true) (hQ : ∀ c a d v w, Q (.panic c) (Act.put a d v) w → Q (.panic c) a w) : ∀ (l : List (Bool × Nat)) (listed : Array Bool) (a : Act) (w : World),
    lexB ops l listed = true → zLast z l = true → (l ≠ [] → S w) → lexZ P ops Q S z l a w → anyZ P ops Q S z l.length listed a w
  | [], listed, a, w, hB, _, _, h => ⟨by simpa [lexB] using hB, h⟩
  | (true, i) :: r, listed, a, w, hB, hA, _, h => by
    simp only [lexB, Bool.and_eq_true, decide_eq_true_eq] at hB
    simp only [zLast, Bool.and_eq_true, Bool.or_eq_true, bne_iff_ne, ne_eq, true_and, List.isEmpty_iff] at hA
    refine ⟨fun h0 => (by rw [hB.1] at h0; cases h0), fun j hj => ?_⟩
    rw [hB.1] at hj
    obtain rfl : j = i := by simpa using hj
    refine wpOp_mono (fun a' w' h' => ⟨h'.1, lexZ_any hs hw hQ r _ a' w' hB.2 hA.2 (fun hr => h'.1 (fun e => ?_)) h'.2⟩) h
    rcases hA.1 with h1 | h1
    · exact h1 e
    · exact hr h1
  | (false, i) :: r, listed, a, w, hB, hA, hS, h => by
    simp only [lexB, Bool.and_eq_true] at hB
    simp only [zLast, Bool.and_eq_true, Bool.or_eq_true, bne_iff_ne, ne_eq, Bool.false_eq_true, false_and, or_false] at hA
    obtain ⟨oi, v, hi, hy, h'⟩ := h
    exact anyZ.take hi hs hw hA.1 (fun c a w => hQ c a _ _ w) _ listed a w (Region.free_spec hi hB.1.1) (by simpa using hB.1.2) hy (hS (by simp)) (lexZ_any hs hw hQ r _ _ w hB.2 hA.2 (fun _ => hS (by simp)) h')

/-- The walk as a goal, each operation beside its number. -/
structure LexZ (P : Program) (ops : Array Oper) (Q : Exit → Act → World → Prop) (S : World → Prop) (z : Nat) (l : List (Bool × Nat × Oper)) (a : Act) (w : World) : Prop where
  out : (∀ t, t ∈ l → ops[t.2.1]? = some t.2.2) → lexZ P ops Q S z (l.map fun t => (t.1, t.2.1)) a w

theorem region_lexZ {id : Nat} {a : Act} {w : World} {l : List Oper} (S : World → Prop) (z : Nat) (k : List (Bool × Nat)) (hm : P.follows .mixedOrders = true)
    (hB : (Region.noSelect l.toArray && waitsAll l.toArray z && zLast z k && decide (k.length = l.toArray.size) && (k.all fun t => decide (t.2 < l.length)) && lexB l.toArray k (Array.replicate l.toArray.size false)) = true)
    (hQ : ∀ c a d v w, Q (.panic c) (Act.put a d v) w → Q (.panic c) a w) (hS : S w.drew) (h : LexZ P l.toArray Q S z (lexL l k) a w.drew) : (Code.region id l.toArray true).wp P Q a w := by
  simp only [Bool.and_eq_true, decide_eq_true_eq] at hB
  obtain ⟨⟨⟨⟨⟨b1, b2⟩, b3⟩, b4⟩, b5⟩, b6⟩ := hB
  have h1 := h.out (lexL_at l k)
  rw [lexL_map l k b5] at h1
  refine wp_region_any hm ?_
  have := (lexZ_any b1 b2 hQ k _ a w.drew b6 b3 (fun _ => hS) h1).any
  rw [b4] at this
  exact this

theorem lexZ_free {i : Nat} {o : Oper} {v : Value} {r : List (Bool × Nat × Oper)} {a : Act} {w : World} (hw : Region.wanted o (yielded ops a.tmps) = true) (hy : ∀ w', S w' → (execOp a.eval o).run P w' = .ok (.value v) w')
    (h : LexZ P ops Q S z r (a.put o.dst v) w) : LexZ P ops Q S z ((false, i, o) :: r) a w := ⟨fun hall => ⟨o, v, hall _ List.mem_cons_self, Or.inl ⟨hw, hy⟩, h.out (fun t ht => hall t (List.mem_cons_of_mem _ ht))⟩⟩
theorem lexZ_sole {i : Nat} {o : Oper} {r : List (Bool × Nat × Oper)} {a : Act} {w : World}
    (h : ∀ K' : Act → World → Prop, Shut (∀ a w, S w → LexZ P ops Q S z r a w → K' a w) → if Region.wanted o (yielded ops a.tmps) = true then Oper.wp P o a w K' Q else K' (a.put o.dst undef) w) : LexZ P ops Q S z ((true, i, o) :: r) a w :=
  ⟨fun hall => wpOp_step (hall _ List.mem_cons_self) (fun K' hK => h K' (fun a w hS hW => hK a w ⟨fun _ => hS, hW.out (fun t ht => hall t (List.mem_cons_of_mem _ ht))⟩))⟩
theorem lexZ_last {o : Oper} {a : Act} {w : World}
    (h : ∀ K' : Act → World → Prop, Shut (∀ a w, Q .normal a w → K' a w) → if Region.wanted o (yielded ops a.tmps) = true then Oper.wp P o a w K' Q else K' (a.put o.dst undef) w) : LexZ P ops Q S z [(true, z, o)] a w :=
  ⟨fun hall => wpOp_step (hall _ List.mem_cons_self) (fun K' hK => h K' (fun a w hW => hK a w ⟨fun h0 => absurd rfl h0, hW⟩))⟩
end
end Go.Proofs.YtkafkipjedpohaaGreatDoor

/-
  The project's machine: State.
-/
namespace Go.Proofs.YtkafkipjedpohaaGreatDoor
open Go.RowKit

theorem Tryz.infoFrame : (Tryz.prog.info? 73).map (fun i => (i.zero, i.size, i.bytes)) = some (some (.agg #[.int .i64 0, .int .i64 0, .slice none 0 0, .slice none 0 0]), 4, 64) := by kernel_rfl

theorem Tryz.infoVals : (Tryz.prog.info? 44).map (fun i => (i.zero, i.size, i.bytes)) = some (some (.slice none 0 0), 1, 24) := by kernel_rfl

/-- A state that has gone out. -/
def StOut (w w' : World) (fr : List Fr) (arr : List (List V)) (e : Ending) : Prop :=
  ∃ fv av LV SV AV tag, e = .returned (.agg #[fv, av]) ∧ Below w.heap.size w w' ∧ FrsOut w' w.heap.size tag fv LV SV (frAt fr) fr.length ∧ ArsOut w' w.heap.size tag av AV arr arr.length

/-- While the frames are told. -/
structure ToldR (w wr : World) (fl : Value) (n : Nat) (fr : Nat → Fr) (FB : Nat → Nat) (tag : Nat → Nat) (v : Value) (LV SV : Nat → Value) (k : Nat) : Prop where
  bl : Below w.heap.size w wr
  res : wr.heap[w.heap.size]? = some (.cells #[.slice none 0 0, .slice none 0 0] 53 (0, 0))
  st : wr.heap[w.heap.size + 1]? = some (.cells #[v, .slice none 0 0] 53 (0, 0))
  t9 : tag w.heap.size = 9
  t0 : tag (w.heap.size + 1) = 0
  list : Row wr w.heap.size tag 7 133 1 fl n (pcell FB)
  out : FrsOut wr w.heap.size tag v LV SV fr k
def Told (w wr : World) (fl : Value) (fr : List Fr) (FB : Nat → Nat) (k : Nat) : Prop := ∃ tag v LV SV, ToldR w wr fl fr.length (frAt fr) FB tag v LV SV k

theorem ToldR.keep {w wr wx : World} {fl : Value} {n : Nat} {fr : Nat → Fr} {FB : Nat → Nat} {tag tag' : Nat → Nat} {v : Value} {LV SV : Nat → Value} {k : Nat} (h : ToldR w wr fl n fr FB tag v LV SV k) (c : Ch w.heap.size (fun _ => False) tag tag' wr wx) : ToldR w wx fl n fr FB tag' v LV SV k := by
  obtain ⟨r1, r2⟩ := blk_keep h.res c (fun h => h)
  obtain ⟨s1, s2⟩ := blk_keep h.st c (fun h => h)
  exact ⟨h.bl.trans (c.below h.bl.size), r1, s1, r2.trans h.t9, s2.trans h.t0, h.list.keep c (fun h => h), h.out.keep c (fun h => h) (fun _ _ => ⟨fun h => h, fun h => h⟩)⟩

/-- Behind the two copies. -/
theorem ToldR.copied {w wr w3 w4 : World} {fl : Value} {n : Nat} {fr : Nat → Fr} {FB : Nat → Nat} {tag : Nat → Nat} {v : Value} {LV SV : Nat → Value} {k : Nat} (h : ToldR w wr fl n fr FB tag v LV SV k) {lv sv : Value} {l1 l2 : List V} (hB3 : Below wr.heap.size wr w3) (hO3 : OutL wr w3 lv l1) (hB4 : Below w3.heap.size w3 w4) (hO4 : OutL w3 w4 sv l2) :
    ∃ tag', ToldR w w4 fl n fr FB tag' v LV SV k ∧ Row w4 w.heap.size tag' (11 + 4 * k) 43 2 lv l1.length (vcell l1) ∧ Row w4 w.heap.size tag' (12 + 4 * k) 43 2 sv l2.length (vcell l2) := by
  have hs := h.bl.size
  have hs3 := hB3.size
  have c3 := Ch.tagged (B := w.heap.size) hB3 (fun _ => False) tag (11 + 4 * k)
  have c4 := Ch.tagged (B := w.heap.size) hB4 (fun _ => False) (fun b => if b < wr.heap.size then tag b else 11 + 4 * k) (12 + 4 * k)
  exact ⟨_, (h.keep c3).keep c4, (hO3.tagged hs tag (11 + 4 * k)).keep c4 (fun h => h), hO4.tagged (by omega) _ _⟩

/-- Behind the append and the store. -/
theorem ToldR.more {w w4 w5 : World} {fl : Value} {n : Nat} {fr : Nat → Fr} {FB : Nat → Nat} {tag : Nat → Nat} {v : Value} {LV SV : Nat → Value} {k : Nat} (h : ToldR w w4 fl n fr FB tag v LV SV k) {lv sv : Value} (hl : Row w4 w.heap.size tag (11 + 4 * k) 43 2 lv (fr k).loc.length (vcell (fr k).loc)) (hs : Row w4 w.heap.size tag (12 + 4 * k) 43 2 sv (fr k).stk.length (vcell (fr k).stk.reverse)) {g cap : Nat} (o : Obj)
    (hown : w5.ownsRow w.heap.size 73 4 (.slice (some ⟨g, 0, none⟩) (k + 1) cap) (k + 1) ((List.range (k * 4)).map (gcell fr LV SV) ++ [.int .i64 (fr k).fn, .int .i64 (fr k).pc, lv, sv])) (hgrow : (w4.alloc o).grownBy w5 v.ownBlock) (hat : v.ownBlock = some g ∨ g = w4.heap.size + 1) :
    Below w.heap.size w w5 ∧ w5.heap[w.heap.size + 1]? = some (.cells #[v, .slice none 0 0] 53 (0, 0)) ∧ ∃ tag', ToldR w (w5.setCell ⟨w.heap.size + 1, 0, none⟩ (.slice (some ⟨g, 0, none⟩) (k + 1) cap)) fl n fr FB tag' (.slice (some ⟨g, 0, none⟩) (k + 1) cap) (upd LV k lv) (upd SV k sv) (k + 1) := by
  have hX : Ch w.heap.size (fun _ => False) tag tag w4 (w4.alloc o) := Ch.of_below ((Below.refl _ _).alloc (Nat.le_refl _) _)
  have h1 := h.keep hX
  obtain ⟨tag', hfo, hch⟩ := h1.out.add (hl.keep hX (fun h => h)) (hs.keep hX (fun h => h)) hown hgrow (by rcases hat with h | h; exact Or.inl h; right; rw [h]; simp)
  obtain ⟨r1, r2⟩ := blk_keep h1.res hch (by rw [h1.t9]; omega)
  obtain ⟨s1, s2⟩ := blk_keep h1.st hch (by rw [h1.t0]; omega)
  have hcs : Ch w.heap.size (fun d => d = 0) tag' tag' w5 (w5.setCell ⟨w.heap.size + 1, 0, none⟩ (.slice (some ⟨g, 0, none⟩) (k + 1) cap)) := Ch.set w5 _ _ _ (by omega) (s2.trans h1.t0)
  obtain ⟨q1, q2⟩ := blk_keep r1 hcs (by rw [r2, h1.t9]; omega)
  refine ⟨h1.bl.trans (hch.below h1.bl.size), s1, tag', (h1.bl.trans (hch.below h1.bl.size)).trans (hcs.below (by have := h1.bl.size; have := hch.size; omega)), q1, ?_, q2.trans (r2.trans h1.t9), s2.trans h1.t0, (h1.list.keep hch (by omega)).keep hcs (by omega), hfo.keep hcs (by omega) (fun i _ => ⟨by omega, by omega⟩)⟩
  exact heap_set (o := 0) s1 _

theorem Told.first {w W w2 : World} {fp : Option Addr} {fc : Nat} {fr : List Fr} {FB : Nat → Nat} (hW : Below w.heap.size w W) (hz : W.heap.size = w.heap.size + 2) (b0 : W.heap[w.heap.size]? = some (.cells #[.slice none 0 0, .slice none 0 0] 53 (0, 0))) (b1 : W.heap[w.heap.size + 1]? = some (.cells #[.slice none 0 0, .slice none 0 0] 53 (0, 0)))
    (hB : Below W.heap.size W w2) (hO : OutF W w2 (.slice fp fr.length fc) fr.length FB) : Told w w2 (.slice fp fr.length fc) fr FB 0 := by
  refine ⟨fun b => if b = w.heap.size then 9 else if b = w.heap.size + 1 then 0 else 7, .slice none 0 0, fun _ => .slice none 0 0, fun _ => .slice none 0 0, ⟨hW.trans (hB.mono (by omega)), (hB.block _ (by omega)).trans b0, (hB.block _ (by omega)).trans b1, ?_, ?_, ?_, ⟨Row.nil _ _ _ _ _ _ _, fun i hi => by omega, fun i hi => by omega⟩⟩⟩
  · show (if w.heap.size = w.heap.size then 9 else _) = 9
    rw [if_pos rfl]
  · show (if w.heap.size + 1 = w.heap.size then 9 else if w.heap.size + 1 = w.heap.size + 1 then 0 else 7) = 0
    rw [if_neg (by omega), if_pos rfl]
  · rcases hO with h | ⟨g, cap, cur, hv, hg, _, hr⟩
    · exact Or.inl h
    · refine Or.inr ⟨g, cap, cur, hv, by omega, ?_, hr⟩
      show (if g = w.heap.size then 9 else if g = w.heap.size + 1 then 0 else 7) = 7
      rw [if_neg (by omega), if_neg (by omega)]

/-- While the arrays are told. -/
structure ToldS (w wr : World) (n : Nat) (fr : Nat → Fr) (arr : List (List V)) (tag : Nat → Nat) (v : Value) (LV SV : Nat → Value) (av : Value) (AV : Nat → Value) (k : Nat) : Prop where
  bl : Below w.heap.size w wr
  res : wr.heap[w.heap.size]? = some (.cells #[.slice none 0 0, .slice none 0 0] 53 (0, 0))
  st : wr.heap[w.heap.size + 1]? = some (.cells #[v, av] 53 (0, 0))
  t9 : tag w.heap.size = 9
  t0 : tag (w.heap.size + 1) = 0
  out : FrsOut wr w.heap.size tag v LV SV fr n
  ars : ArsOut wr w.heap.size tag av AV arr k

theorem ToldS.keep {w wr wx : World} {n : Nat} {fr : Nat → Fr} {arr : List (List V)} {tag tag' : Nat → Nat} {v av : Value} {LV SV AV : Nat → Value} {k : Nat} (h : ToldS w wr n fr arr tag v LV SV av AV k) (c : Ch w.heap.size (fun _ => False) tag tag' wr wx) : ToldS w wx n fr arr tag' v LV SV av AV k := by
  obtain ⟨r1, r2⟩ := blk_keep h.res c (fun h => h)
  obtain ⟨s1, s2⟩ := blk_keep h.st c (fun h => h)
  exact ⟨h.bl.trans (c.below h.bl.size), r1, s1, r2.trans h.t9, s2.trans h.t0, h.out.keep c (fun h => h) (fun _ _ => ⟨fun h => h, fun h => h⟩), h.ars.keep c (fun h => h) (fun _ _ h => h)⟩

theorem ToldS.copied {w wr w3 : World} {n : Nat} {fr : Nat → Fr} {arr : List (List V)} {tag : Nat → Nat} {v av : Value} {LV SV AV : Nat → Value} {k : Nat} (h : ToldS w wr n fr arr tag v LV SV av AV k) {lv : Value} {l1 : List V} (hB3 : Below wr.heap.size wr w3) (hO3 : OutL wr w3 lv l1) :
    ∃ tag', ToldS w w3 n fr arr tag' v LV SV av AV k ∧ Row w3 w.heap.size tag' (13 + 4 * k) 43 2 lv l1.length (vcell l1) :=
  ⟨_, h.keep (Ch.tagged (B := w.heap.size) hB3 (fun _ => False) tag (13 + 4 * k)), hO3.tagged h.bl.size tag (13 + 4 * k)⟩

theorem ToldS.more {w w4 w5 : World} {n : Nat} {fr : Nat → Fr} {arr : List (List V)} {tag : Nat → Nat} {v av : Value} {LV SV AV : Nat → Value} {k : Nat} (h : ToldS w w4 n fr arr tag v LV SV av AV k) {lv : Value} (hl : Row w4 w.heap.size tag (13 + 4 * k) 43 2 lv (arr.getD k []).length (vcell (arr.getD k []))) {g cap : Nat} (o : Obj)
    (hown : w5.ownsRow w.heap.size 44 1 (.slice (some ⟨g, 0, none⟩) (k + 1) cap) (k + 1) ((List.range (k * 1)).map AV ++ [lv])) (hgrow : (w4.alloc o).grownBy w5 av.ownBlock) (hat : av.ownBlock = some g ∨ g = w4.heap.size + 1) :
    Below w.heap.size w w5 ∧ w5.heap[w.heap.size + 1]? = some (.cells #[v, av] 53 (0, 0)) ∧ ∃ tag', ToldS w (w5.setCell ⟨w.heap.size + 1, 1, none⟩ (.slice (some ⟨g, 0, none⟩) (k + 1) cap)) n fr arr tag' v LV SV (.slice (some ⟨g, 0, none⟩) (k + 1) cap) (upd AV k lv) (k + 1) := by
  have hX : Ch w.heap.size (fun _ => False) tag tag w4 (w4.alloc o) := Ch.of_below ((Below.refl _ _).alloc (Nat.le_refl _) _)
  have h1 := h.keep hX
  obtain ⟨tag', hfo, hch⟩ := h1.ars.add (hl.keep hX (fun h => h)) hown hgrow (by rcases hat with h | h; exact Or.inl h; right; rw [h]; simp)
  obtain ⟨r1, r2⟩ := blk_keep h1.res hch (by rw [h1.t9]; omega)
  obtain ⟨s1, s2⟩ := blk_keep h1.st hch (by rw [h1.t0]; omega)
  have hcs : Ch w.heap.size (fun d => d = 0) tag' tag' w5 (w5.setCell ⟨w.heap.size + 1, 1, none⟩ (.slice (some ⟨g, 0, none⟩) (k + 1) cap)) := Ch.set w5 _ _ _ (by omega) (s2.trans h1.t0)
  obtain ⟨q1, q2⟩ := blk_keep r1 hcs (by rw [r2, h1.t9]; omega)
  refine ⟨h1.bl.trans (hch.below h1.bl.size), s1, tag', (h1.bl.trans (hch.below h1.bl.size)).trans (hcs.below (by have := h1.bl.size; have := hch.size; omega)), q1, ?_, q2.trans (r2.trans h1.t9), s2.trans h1.t0, (h1.out.keep hch (by omega) (fun i _ => ⟨by omega, by omega⟩)).keep hcs (by omega) (fun i _ => ⟨by omega, by omega⟩), hfo.keep hcs (by omega) (fun i _ => by omega)⟩
  exact heap_set (o := 1) s1 _

set_option maxRecDepth 100000 in
set_option maxHeartbeats 2000000 in
theorem stateM (w : World) (B mb : Nat) (A : AdM) (s : Mc) (en : Int) (hL : LayM w B mb A s en) (hfr : s.fr.length ≤ 1000) (har : s.arr.length ≤ 200000) (hls : ∀ i, i < s.fr.length → (frAt s.fr i).loc.length ≤ 200000 ∧ (frAt s.fr i).stk.length ≤ 200000) (hal : ∀ j, j < s.arr.length → (s.arr.getD j []).length ≤ 200000) :
    Calls Tryz.prog 42 #[.pointer (some ⟨mb, 0, none⟩)] w fun e w' => StOut w w' s.fr s.arr e := by
  obtain ⟨inf, hi, hz0, hz1, hz2⟩ : ∃ i, Tryz.prog.info? 73 = some i ∧ i.zero = some (.agg #[.int .i64 0, .int .i64 0, .slice none 0 0, .slice none 0 0]) ∧ i.size = 4 ∧ i.bytes = 64 := by
    obtain ⟨i, hi, hzz⟩ := Option.map_eq_some_iff.1 Tryz.infoFrame
    simp only [Prod.mk.injEq] at hzz
    exact ⟨i, hi, hzz.1, hzz.2.1, hzz.2.2⟩
  obtain ⟨inf2, hi2, hz02, hz12, hz22⟩ : ∃ i, Tryz.prog.info? 44 = some i ∧ i.zero = some (.slice none 0 0) ∧ i.size = 1 ∧ i.bytes = 24 := by
    obtain ⟨i, hi, hzz⟩ := Option.map_eq_some_iff.1 Tryz.infoVals
    simp only [Prod.mk.injEq] at hzz
    exact ⟨i, hi, hzz.1, hzz.2.1, hzz.2.2⟩
  obtain ⟨W, hWd⟩ : ∃ W, W = (w.alloc (.cells #[.slice none 0 0, .slice none 0 0] 53)).alloc (.cells #[.slice none 0 0, .slice none 0 0] 53) := ⟨_, rfl⟩
  have hW : Below w.heap.size w W := by rw [hWd]; exact ((Below.refl _ _).alloc (Nat.le_refl _) _).alloc (by simp) _
  have l1 := hL.below hW
  have hz : W.heap.size = w.heap.size + 2 := by rw [hWd]; simp
  have hlist := listF W mb 3 B A.tag 1 A.fv s.fr.length A.FB ((cell_heap l1.run).trans rfl) l1.fr (by omega)
  have b0 : W.heap[w.heap.size]? = some (.cells #[.slice none 0 0, .slice none 0 0] 53 (0, 0)) := by
    rw [hWd]; exact (Below.heap_alloc _ _ _ (by simp)).trans (Go.Deep.blk_alloc_new _ _)
  have b1 : W.heap[w.heap.size + 1]? = some (.cells #[.slice none 0 0, .slice none 0 0] 53 (0, 0)) := by
    rw [hWd]
    have := Go.Deep.blk_alloc_new (w.alloc (.cells #[.slice none 0 0, .slice none 0 0] 53)) (.cells #[.slice none 0 0, .slice none 0 0] 53)
    simpa using this
  have HL := hid hL
  have HI := hid hlist
  have HW := hid (And.intro hW (And.intro hz (And.intro b0 b1)))
  have hmz := heap_lt hL.run
  have HH := hid (And.intro hfr (And.intro har (And.intro hls hal)))
  have HD := hid hWd
  clear l1 hW hz hlist b0 b1 hL hfr har hls hal hWd
  go_enter Tryz.func42, Tryz.ntmps42
  go_wp2_with fail
  rw [← HD.out]
  refine HI.out.mono ?_
  rintro e w2 ⟨fl, rfl, hB2, hO2⟩
  obtain ⟨fp, fc, hfl, _⟩ := Row.any hO2
  subst hfl
  have ht0 : Told w w2 (.slice fp s.fr.length fc) s.fr A.FB 0 := Told.first HW.out.1 HW.out.2.1 HW.out.2.2.1 HW.out.2.2.2 hB2 hO2
  have HT := hid ht0
  clear ht0 HI hB2 hO2 HW HD
  generalize hnf : s.fr.length = nf at *
  have HN := hid hnf
  clear hnf
  go_wp2_with fail
  go_loopw [13] (fun v wr => ∃ j : Nat, j ≤ nf ∧ v = .int .i64 j ∧ Told w wr (.slice fp nf fc) s.fr A.FB j) (fun v _ => nf - (intOf v).toNat)
  case atStart => exact ⟨0, by omega, rfl, HT.out⟩
  case round =>
    obtain ⟨j, hj, rfl, tag, v, LV, SV, hT⟩ := hrel
    have hBr := hT.bl
    have hS := hT.st
    have hfl := hT.list
    have hfo := hT.out
    have hn1000 : nf ≤ 1000 := HH.out.1
    by_cases hlt : j < nf
    · have hdec : decide ((j : Int) < (nf : Int)) = true := by simp; omega
      rw [HN.out] at hfl
      obtain ⟨flb, flc, efl, _, hflz, _, _⟩ := hfl.form (by omega)
      injection efl with e1 e2 e3
      subst e1 e3
      have hcj := hfl.cell (i := j) (by omega)
      obtain ⟨g1, g2, g3⟩ := HL.out.fb j (by rw [HN.out]; exact hlt)
      have hfz := heap_lt g1
      have g1r := (hBr.block _ hfz).trans g1
      have hlo := (HL.out.loc j (by rw [HN.out]; exact hlt)).below hBr
      have hst := (HL.out.stk j (by rw [HN.out]; exact hlt)).below hBr
      unfold pcell at hcj
      obtain ⟨hl1, hl2⟩ := HH.out.2.2.1 j hlt
      obtain ⟨vp, vc, hv, _⟩ := hfo.row.any
      subst hv
      obtain ⟨lp, lc, hlv, _⟩ := hlo.any
      generalize A.FB j = fb at *
      generalize A.LV j = lv at *
      generalize A.SV j = sv at *
      subst hlv
      have r0 : wr.cell? ⟨fb, 0, none⟩ = some (.int .i64 (frAt s.fr j).fn) := (cell_heap g1r).trans rfl
      have r1 : wr.cell? ⟨fb, 1, none⟩ = some (.int .i64 (frAt s.fr j).pc) := (cell_heap g1r).trans rfl
      have r2 : wr.cell? ⟨fb, 2, none⟩ = some (.slice lp (frAt s.fr j).loc.length lc) := (cell_heap g1r).trans rfl
      have r3 : wr.cell? ⟨fb, 3, none⟩ = some sv := (cell_heap g1r).trans rfl
      have s0 : wr.cell? ⟨w.heap.size + 1, 0, none⟩ = some (.slice vp j vc) := (cell_heap hS).trans rfl
      have i0 : (0 : Int) ≤ (j : Int) := by omega
      have i1 : (j : Int) < (nf : Int) := by omega
      have HX := hid (And.intro hT (And.intro hlo (And.intro hst (And.intro g1r r3))))
      have hwz : w.heap.size + 1 < wr.heap.size := heap_lt hS
      have hfzr : fb < wr.heap.size := by have := hBr.size; omega
      clear hBr hS hT hfl hfo hlo hst g1r g1 g2 g3 r3 HT
      generalize hff : frAt s.fr j = f at *
      have HF := hid hff
      clear hff
      go_wp2_with fail
      refine region_lexZ (fun w' => w'.cell? ⟨w.heap.size + 1, 0, none⟩ = some (.slice vp j vc) ∧ w'.cell? ⟨fb, 0, none⟩ = some (.int .i64 f.fn) ∧ w'.cell? ⟨fb, 1, none⟩ = some (.int .i64 f.pc) ∧ w'.cell? ⟨fb, 2, none⟩ = some (.slice lp f.loc.length lc)) 23 [(false, 0), (false, 1), (false, 2), (false, 3), (false, 4), (false, 5), (false, 6), (false, 7), (false, 8), (false, 9), (false, 10), (false, 11), (false, 12), (false, 13), (false, 15), (false, 16), (false, 17), (true, 14), (true, 18), (false, 19), (true, 20), (true, 21), (false, 22), (true, 23)] (by kernel_rfl) (by kernel_rfl) (fun c0 a0 d0 v0 x0 h0 => panic_body (P := Tryz.prog) Tryz.f42 (fun e w' => StOut w w' s.fr s.arr e) c0 a0 d0 v0 x0 h0) ⟨s0, r0, r1, r2⟩ ?_
      simp only [lexL, List.getElem?_cons_zero, List.getElem?_cons_succ]
      have HS := hid (And.intro s0 (And.intro r0 (And.intro r1 r2)))
      clear s0 r0 r1 r2
      iterate 17 (refine lexZ_free (by rfl) (by intro w' hS'; obtain ⟨q0, q1, q2, q3⟩ := hS'; go_simp; exact rfl) ?_; simp only [Act.put, List.setIfInBounds_toArray, List.set_cons_zero, List.set_cons_succ])
      refine lexZ_sole (fun K hK => ?_)
      go_simp
      refine (cloneV wr.drew B A.tag (11 + 4 * j) _ f.loc (HX.out.2.1.below (Below.refl _ _).drew) hl1).mono ?_
      rintro e w3 ⟨lv3, rfl, hB3, hO3⟩
      obtain ⟨p3, c3, e3, _⟩ := Row.any hO3
      subst e3
      refine hK.out _ _ ⟨(hB3.cell (p := ⟨w.heap.size + 1, 0, none⟩) hwz).trans HS.out.1, (hB3.cell (p := ⟨fb, 0, none⟩) hfzr).trans HS.out.2.1, (hB3.cell (p := ⟨fb, 1, none⟩) hfzr).trans HS.out.2.2.1, (hB3.cell (p := ⟨fb, 2, none⟩) hfzr).trans HS.out.2.2.2⟩ ?_
      clear hK K
      refine lexZ_sole (fun K hK => ?_)
      go_simp
      have hz3 : wr.heap.size ≤ w3.heap.size := hB3.size
      have hwz3 : w.heap.size + 1 < w3.heap.size := by omega
      have hfz3 : fb < w3.heap.size := by omega
      have hst3 := (HX.out.2.2.1.below (Below.refl _ _).drew).below hB3
      have hlr : f.stk.length = f.stk.reverse.length := by simp
      rw [hlr] at hst3
      clear hlr
      refine (listV w3 fb 3 B A.tag (12 + 4 * j) sv f.stk.reverse ((hB3.cell (p := ⟨fb, 3, none⟩) hfzr).trans HX.out.2.2.2.2) hst3 (by rw [List.length_reverse]; exact hl2)).mono ?_
      rintro e w4 ⟨lv4, rfl, hB4, hO4⟩
      obtain ⟨p4, c4, e4, _⟩ := Row.any hO4
      subst e4
      have s4 : w4.cell? ⟨w.heap.size + 1, 0, none⟩ = some (.slice vp j vc) := (hB4.cell (p := ⟨w.heap.size + 1, 0, none⟩) hwz3).trans ((hB3.cell (p := ⟨w.heap.size + 1, 0, none⟩) hwz).trans HS.out.1)
      have u0 : w4.cell? ⟨fb, 0, none⟩ = some (.int .i64 f.fn) := (hB4.cell (p := ⟨fb, 0, none⟩) hfz3).trans ((hB3.cell (p := ⟨fb, 0, none⟩) hfzr).trans HS.out.2.1)
      have u1 : w4.cell? ⟨fb, 1, none⟩ = some (.int .i64 f.pc) := (hB4.cell (p := ⟨fb, 1, none⟩) hfz3).trans ((hB3.cell (p := ⟨fb, 1, none⟩) hfzr).trans HS.out.2.2.1)
      have u2 : w4.cell? ⟨fb, 2, none⟩ = some (.slice lp f.loc.length lc) := (hB4.cell (p := ⟨fb, 2, none⟩) hfz3).trans ((hB3.cell (p := ⟨fb, 2, none⟩) hfzr).trans HS.out.2.2.2)
      have hz4 : w3.heap.size ≤ w4.heap.size := hB4.size
      obtain ⟨tag4, T4, L4, S4⟩ := (HX.out.1.keep (Ch.of_below (Below.refl _ _).drew)).copied hB3 hO3 hB4 hO4
      simp only [List.length_reverse] at S4
      have H4 := hid (And.intro T4 (And.intro L4 S4))
      refine hK.out _ _ ⟨s4, u0, u1, u2⟩ ?_
      have HU := hid (And.intro s4 (And.intro u0 (And.intro u1 u2)))
      clear hK K T4 L4 S4 hst3 hB3 hO3 hB4 hO4 s4 u0 u1 u2 HS
      refine lexZ_free (by rfl) (by intro w' hS'; go_simp; exact rfl) ?_
      simp only [Act.put, List.setIfInBounds_toArray, List.set_cons_zero, List.set_cons_succ]
      refine lexZ_sole (fun K hK => ?_)
      go_simp
      have hwz4 : w.heap.size + 1 < w4.heap.size := by omega
      have hfz4 : fb < w4.heap.size := by omega
      refine hK.out _ _ ⟨alloc_cell HU.out.1 hwz4, alloc_cell HU.out.2.1 hfz4, alloc_cell HU.out.2.2.1 hfz4, alloc_cell HU.out.2.2.2 hfz4⟩ ?_
      clear hK K
      refine lexZ_sole (fun K hK => ?_)
      refine step_append_lies _ (by rfl) _ _ _ (by rfl) w.heap.size 73 inf _ 4 64 Tryz.underlying50 hi hz0 hz1 hz2 rfl (by decide) (.slice vp j vc) j _ (by rfl) (by exact H4.out.1.out.row.owns.alloc _) ⟨w4.heap.size, 0, none⟩ 1 1 [.int .i64 f.fn, .int .i64 f.pc, .slice p3 f.loc.length c3, .slice p4 f.stk.length c4] (by rfl) (by rfl) (by exact World.news_of_block (Go.Deep.blk_alloc_new w4 _)) (by intro u hu; simp at hu; rcases hu with rfl | rfl | rfl | rfl <;> rfl) (by omega) (by unfold maxLen; have := HH.out.1; omega) (by have := HH.out.1; omega) (by simp; omega) (w4.heap.size + 1) (by simp) ?_
      intro g cap w5 hown hgrow hat hlt
      obtain ⟨hb5, st5, tag5, T5⟩ := H4.out.1.more (by rw [HF.out]; exact H4.out.2.1) (by rw [HF.out]; exact H4.out.2.2) _ (by rw [HF.out]; exact hown) hgrow hat
      have q0 : w5.cell? ⟨w.heap.size + 1, 0, none⟩ = some (.slice vp j vc) := (cell_heap st5).trans rfl
      have z0 : w5.frozen? ⟨w.heap.size + 1, 0, none⟩ = false := frozen_heap st5
      have k0 := (hb5.cell (p := ⟨fb, 0, none⟩) hfz).trans ((H4.out.1.bl.cell (p := ⟨fb, 0, none⟩) hfz).symm.trans HU.out.2.1)
      have k1 := (hb5.cell (p := ⟨fb, 1, none⟩) hfz).trans ((H4.out.1.bl.cell (p := ⟨fb, 1, none⟩) hfz).symm.trans HU.out.2.2.1)
      have k2 := (hb5.cell (p := ⟨fb, 2, none⟩) hfz).trans ((H4.out.1.bl.cell (p := ⟨fb, 2, none⟩) hfz).symm.trans HU.out.2.2.2)
      have HT5 := hid T5
      refine hK.out _ _ ⟨q0, k0, k1, k2⟩ ?_
      clear hK K hown hgrow hat T5 hb5 st5 k0 k1 k2
      simp only [Act.put, List.setIfInBounds_toArray, List.set_cons_zero, List.set_cons_succ]
      refine lexZ_free (by rfl) (by intro w' hS'; go_simp; exact rfl) ?_
      simp only [Act.put, List.setIfInBounds_toArray, List.set_cons_zero, List.set_cons_succ]
      refine lexZ_last (fun K hK => ?_)
      go_simp
      refine hK.out _ _ ?_
      clear hK K
      go_wp2
      exact ⟨⟨j + 1, by omega, by go_num, tag5, _, _, _, HT5.out⟩, by simp [intOf]; omega⟩
    · have hdec : decide ((j : Int) < (nf : Int)) = false := by simp; omega
      obtain rfl : j = nf := by omega
      have hT1 : ToldS w wr j (frAt s.fr) s.arr tag v LV SV (.slice none 0 0) (fun _ => .slice none 0 0) 0 := ⟨hBr, hT.res, hS, hT.t9, hT.t0, hfo, Row.nil _ _ _ _ _ _ _, fun j hj => by omega⟩
      have HT1 := hid hT1
      obtain ⟨ap, ac, hav, _⟩ := HL.out.ar.any
      have x4 : wr.cell? ⟨mb, 4, none⟩ = some (.slice ap s.arr.length ac) := by
        rw [← hav]
        exact (hBr.cell (p := ⟨mb, 4, none⟩) hmz).trans ((cell_heap HL.out.run).trans rfl)
      have HAV := hid hav
      have HFN := hid (show j ≤ 1000 from hn1000)
      clear hT1 hT hBr hS hfl hfo HT hav hn1000
      obtain ⟨vp, vc, hv, _⟩ := HT1.out.out.row.any
      subst hv
      generalize hna : s.arr.length = na at *
      have HNA := hid hna
      have hnal : na ≤ 200000 := HH.out.2.1
      clear hna
      go_wp2_with fail
      go_loopw [46] (fun v wr => ∃ i : Nat, i ≤ na ∧ v = .int .i64 i ∧ ∃ tag av AV, ToldS w wr j (frAt s.fr) s.arr tag (.slice vp j vc) LV SV av AV i) (fun v _ => na - (intOf v).toNat)
      case atStart => exact ⟨0, by omega, rfl, _, _, _, HT1.out⟩
      case round =>
        obtain ⟨i, hi1, rfl, tg, av, AV, hT⟩ := hrel
        have hBr := hT.bl
        have hS := hT.st
        by_cases hlt2 : i < na
        · have hdec2 : decide ((i : Int) < (na : Int)) = true := by simp; omega
          have har := HL.out.ar
          rw [HNA.out, HAV.out] at har
          obtain ⟨ab, ac', ear, _, habz, _, _⟩ := har.form (by omega)
          injection ear with e1 e2 e3
          subst e1 e3
          have hci := (hBr.cell (p := ⟨ab, i, none⟩) habz).trans (har.cell (i := i) (by omega))
          have hai := (HL.out.arr i (by rw [HNA.out]; exact hlt2)).below hBr
          have hl1 := HH.out.2.2.2 i hlt2
          obtain ⟨vp2, vc2, hv2, _⟩ := hT.ars.row.any
          subst hv2
          obtain ⟨lp, lc, hlv, _⟩ := hai.any
          generalize A.AV i = lv at *
          subst hlv
          have s0 : wr.cell? ⟨w.heap.size + 1, 1, none⟩ = some (.slice vp2 i vc2) := (cell_heap hS).trans rfl
          have i0 : (0 : Int) ≤ (i : Int) := by omega
          have i1 : (i : Int) < (na : Int) := by omega
          have HX := hid (And.intro hT hai)
          have hwz : w.heap.size + 1 < wr.heap.size := heap_lt hS
          clear hBr hS hT hai har HT1
          generalize hff : s.arr.getD i [] = l at *
          have HF := hid hff
          clear hff
          go_wp2_with fail
          refine region_lexZ (fun w' => w'.cell? ⟨w.heap.size + 1, 1, none⟩ = some (.slice vp2 i vc2)) 7 [(false, 0), (false, 1), (false, 2), (true, 3), (true, 4), (true, 5), (false, 6), (true, 7)] (by kernel_rfl) (by kernel_rfl) (fun c0 a0 d0 v0 x0 h0 => panic_body (P := Tryz.prog) Tryz.f42 (fun e w' => StOut w w' s.fr s.arr e) c0 a0 d0 v0 x0 h0) s0 ?_
          simp only [lexL, List.getElem?_cons_zero, List.getElem?_cons_succ]
          have HS := hid s0
          clear s0
          iterate 3 (refine lexZ_free (by rfl) (by intro w' hS'; go_simp; exact rfl) ?_; simp only [Act.put, List.setIfInBounds_toArray, List.set_cons_zero, List.set_cons_succ])
          refine lexZ_sole (fun K hK => ?_)
          go_simp
          refine (cloneV wr.drew B A.tag (13 + 4 * i) _ l (HX.out.2.below (Below.refl _ _).drew) hl1).mono ?_
          rintro e w3 ⟨lv3, rfl, hB3, hO3⟩
          obtain ⟨p3, c3, e3, _⟩ := Row.any hO3
          subst e3
          have s3 := (hB3.cell (p := ⟨w.heap.size + 1, 1, none⟩) hwz).trans HS.out
          have hz3 : wr.heap.size ≤ w3.heap.size := hB3.size
          obtain ⟨tag3, T3, L3⟩ := (HX.out.1.keep (Ch.of_below (Below.refl _ _).drew)).copied hB3 hO3
          have H3 := hid (And.intro T3 L3)
          refine hK.out _ _ s3 ?_
          have HU := hid s3
          clear hK K T3 L3 hB3 hO3 s3 HS
          have hwz3 : w.heap.size + 1 < w3.heap.size := by omega
          refine lexZ_sole (fun K hK => ?_)
          go_simp
          refine hK.out _ _ (alloc_cell HU.out hwz3) ?_
          clear hK K
          refine lexZ_sole (fun K hK => ?_)
          refine step_append_lies _ (by rfl) _ _ _ (by rfl) w.heap.size 44 inf2 _ 1 24 Tryz.underlying51 hi2 hz02 hz12 hz22 rfl (by decide) (.slice vp2 i vc2) i _ (by rfl) (by exact H3.out.1.ars.row.owns.alloc _) ⟨w3.heap.size, 0, none⟩ 1 1 [.slice p3 l.length c3] (by rfl) (by rfl) (by exact World.news_of_block (Go.Deep.blk_alloc_new w3 _)) (by intro u hu; simp at hu; subst hu; rfl) (by omega) (by unfold maxLen; omega) (by omega) (by simp; omega) (w3.heap.size + 1) (by simp) ?_
          intro g cap w5 hown hgrow hat hlt
          obtain ⟨hb5, st5, tag5, T5⟩ := H3.out.1.more (by rw [HF.out]; exact H3.out.2) _ hown hgrow hat
          have q0 : w5.cell? ⟨w.heap.size + 1, 1, none⟩ = some (.slice vp2 i vc2) := (cell_heap st5).trans rfl
          have z0 : w5.frozen? ⟨w.heap.size + 1, 1, none⟩ = false := frozen_heap st5
          have HT5 := hid T5
          refine hK.out _ _ q0 ?_
          clear hK K hown hgrow hat T5 hb5 st5
          simp only [Act.put, List.setIfInBounds_toArray, List.set_cons_zero, List.set_cons_succ]
          refine lexZ_free (by rfl) (by intro w' hS'; go_simp; exact rfl) ?_
          simp only [Act.put, List.setIfInBounds_toArray, List.set_cons_zero, List.set_cons_succ]
          refine lexZ_last (fun K hK => ?_)
          go_simp
          refine hK.out _ _ ?_
          clear hK K
          go_wp2
          exact ⟨⟨i + 1, by omega, by go_num, tag5, _, _, HT5.out⟩, by simp [intOf]; omega⟩
        · have hdec2 : decide ((i : Int) < (na : Int)) = false := by simp; omega
          obtain rfl : i = na := by omega
          obtain ⟨vp2, vc2, hv2, _⟩ := hT.ars.row.any
          subst hv2
          have hR := hT.res
          have y0 : wr.cell? ⟨w.heap.size + 1, 0, none⟩ = some (.slice vp j vc) := (cell_heap hS).trans rfl
          have y1 : wr.cell? ⟨w.heap.size + 1, 1, none⟩ = some (.slice vp2 i vc2) := (cell_heap hS).trans rfl
          have x0 : wr.cell? ⟨w.heap.size, 0, none⟩ = some (.slice none 0 0) := (cell_heap hR).trans rfl
          have x1 : wr.cell? ⟨w.heap.size, 1, none⟩ = some (.slice none 0 0) := (cell_heap hR).trans rfl
          have z0 : wr.frozen? ⟨w.heap.size, 0, none⟩ = false := frozen_heap hR
          have z1 : wr.frozen? ⟨w.heap.size, 1, none⟩ = false := frozen_heap hR
          have hcs : Ch w.heap.size (fun d => d = 9) tg tg wr ((wr.setCell ⟨w.heap.size, 0, none⟩ (.slice vp j vc)).setCell ⟨w.heap.size, 1, none⟩ (.slice vp2 i vc2)) := (Ch.set wr _ _ _ (Nat.le_refl _) hT.t9).trans (Ch.set _ _ _ _ (Nat.le_refl _) hT.t9)
          have g0 := heap_set (o := 1) (heap_set (o := 0) hR (.slice vp j vc)) (.slice vp2 i vc2)
          have hfin : StOut w ((wr.setCell ⟨w.heap.size, 0, none⟩ (.slice vp j vc)).setCell ⟨w.heap.size, 1, none⟩ (.slice vp2 i vc2)) s.fr s.arr (.returned (.agg #[.slice vp j vc, .slice vp2 i vc2])) := by
            refine ⟨_, _, LV, SV, AV, tg, rfl, hBr.trans (hcs.below hBr.size), ?_, ?_⟩
            · rw [HN.out]
              exact hT.out.keep hcs (by omega) (fun i _ => ⟨by omega, by omega⟩)
            · rw [HNA.out]
              exact hT.ars.keep hcs (by omega) (fun i _ => by omega)
          have HQ := hid (And.intro g0 hfin)
          clear hT hBr hS hR hcs g0 hfin HT1 x4
          go_wp2
          obtain ⟨g0, hfin⟩ := HQ.out
          generalize (wr.setCell ⟨w.heap.size, 0, none⟩ (.slice vp j vc)).setCell ⟨w.heap.size, 1, none⟩ (.slice vp2 i vc2) = V at *
          have v0 : V.cell? ⟨w.heap.size, 0, none⟩ = some (.slice vp j vc) := (cell_heap g0).trans rfl
          have v1 : V.cell? ⟨w.heap.size, 1, none⟩ = some (.slice vp2 i vc2) := (cell_heap g0).trans rfl
          exact bodyPost_ret (v := .agg #[.slice vp j vc, .slice vp2 i vc2]) (by simp [results, Tryz.results42, go_sem, v0, v1]) rfl hfin
end Go.Proofs.YtkafkipjedpohaaGreatDoor

/-
  Package upshiftkeep: values, alike, stands: of what is the same.
-/
namespace Go.Proofs.YtkafkipjedpohaaGreatDoor
open Go.RowKit

theorem Row.args {w : World} {B : Nat} {tag : Nat → Nat} {c : Nat} {v : Value} {l : List V} (h : Row w B tag c 43 2 v l.length (vcell l)) : ArgsIn w v l := by
  rcases h with ⟨rfl, h0⟩ | ⟨b, cap, cur, rfl, hb, ht, hh, hc, hm, hs, hf⟩
  · exact Or.inl ⟨List.length_eq_zero_iff.1 h0, none, 0, rfl⟩
  · exact Or.inr ⟨b, cap, rfl, heap_lt hh, fun i hi => (cell_heap hh).trans (hf i hi)⟩

theorem ArgsIn.any {w : World} {v : Value} {l : List V} (h : ArgsIn w v l) : ∃ p c, v = .slice p l.length c := by
  rcases h with ⟨rfl, a, c, rfl⟩ | ⟨ab, c, rfl, _⟩
  · exact ⟨a, c, rfl⟩
  · exact ⟨_, c, rfl⟩
theorem ArgsIn.at_ {w : World} {p : Option Addr} {c n : Nat} {l : List V} (h : ArgsIn w (.slice p n c) l) {i : Nat} (hi : i < l.length) : ∃ b, p = some ⟨b, 0, none⟩ ∧ w.cell? ⟨b, i * 2, none⟩ = some (.int .i64 (l.getD i vnil).k) ∧ w.cell? ⟨b, i * 2 + 1, none⟩ = some (.int .i64 (l.getD i vnil).n) := by
  rcases h with ⟨rfl, _⟩ | ⟨ab, c, e, _, hf⟩
  · simp at hi
  · injection e with e1 e2 e3
    refine ⟨ab, e1, (hf (i * 2) (by omega)).trans ?_, (hf (i * 2 + 1) (by omega)).trans ?_⟩
    · unfold vcell
      rw [if_pos (by omega), show i * 2 / 2 = i by omega]
    · unfold vcell
      rw [if_neg (by omega), show (i * 2 + 1) / 2 = i by omega]
theorem ArgsIn.below {w w' : World} {v : Value} {l : List V} (h : ArgsIn w v l) (k : Below w.heap.size w w') : ArgsIn w' v l := by
  rcases h with h | ⟨ab, c, rfl, hab, hf⟩
  · exact Or.inl h
  · exact Or.inr ⟨ab, c, rfl, by have := k.size; omega, fun i hi => (k.cell (p := ⟨ab, i, none⟩) hab).trans (hf i hi)⟩

theorem neqVal (a : V) (X : World) : (binOp .neq 43 (.agg #[.int .i64 a.k, .int .i64 a.n]) (.agg #[.int .i64 a.k, .int .i64 a.n])).run Tryz.prog X = .ok (.bool false) X := by
  have e1 : (a.k == a.k) = true := by simp
  have e2 : (a.n == a.n) = true := by simp
  go_simp

set_option maxRecDepth 100000 in
set_option maxHeartbeats 1000000 in
theorem valuesT (w : World) (v u : Value) (l : List V) (h1 : ArgsIn w v l) (h2 : ArgsIn w u l) (hl : l.length ≤ 200000) :
    Calls Tryz.prog 20 #[v, u] w fun e w' => e = .returned (.bool true) ∧ ∃ k, w' = w.drewN k := by
  obtain ⟨p1, c1, rfl⟩ := h1.any
  obtain ⟨p2, c2, rfl⟩ := h2.any
  have HA := hid (And.intro h1 h2)
  clear h1 h2
  generalize hn : l.length = n at *
  have HN := hid hn
  clear hn
  go_enter Tryz.func20, Tryz.ntmps20
  go_wp2
  go_loopw [5] (fun v wr => ∃ j : Nat, j ≤ n ∧ v = .int .i64 j ∧ ∃ k, wr = w.drewN k) (fun v _ => n - (intOf v).toNat)
  case atStart => exact ⟨0, by omega, rfl, 0, rfl⟩
  case round =>
    obtain ⟨j, hj, rfl, k, hk⟩ := hrel
    subst hk
    by_cases hlt : j < n
    · have hdec : decide ((j : Int) < (n : Int)) = true := by simp; omega
      obtain ⟨b1, e1, x0, x1⟩ := HA.out.1.at_ (i := j) (by rw [HN.out]; exact hlt)
      obtain ⟨b2, e2, y0, y1⟩ := HA.out.2.at_ (i := j) (by rw [HN.out]; exact hlt)
      subst e1 e2
      have i0 : (0 : Int) ≤ (j : Int) := by omega
      have i1 : (j : Int) < (n : Int) := by omega
      generalize l.getD j vnil = x at *
      have hne := neqVal x
      go_wp2_with fail
      go_quiet (fail)
      go_wp2
      exact ⟨⟨j + 1, by omega, by go_num, _, rfl⟩, by simp [intOf]; omega⟩
    · have hdec : decide ((j : Int) < (n : Int)) = false := by simp; omega
      go_wp2
      go_ret
      exact ⟨rfl, k, rfl⟩

theorem valuesB (w : World) (v u : Value) (l : List V) (h1 : ArgsIn w v l) (h2 : ArgsIn w u l) (hl : l.length ≤ 200000) :
    Calls Tryz.prog 20 #[v, u] w fun e w' => e = .returned (.bool true) ∧ Below w.heap.size w w' := by
  refine (valuesT w v u l h1 h2 hl).mono ?_
  rintro e w' ⟨rfl, k, rfl⟩
  exact ⟨rfl, below_drewN (Below.refl _ _) _⟩

set_option maxRecDepth 100000 in
set_option maxHeartbeats 1000000 in
theorem alikeT (w : World) (en st : Int) (g : V) (v u : Value) (l : List V) (h1 : ArgsIn w v l) (h2 : ArgsIn w u l) (hl : l.length ≤ 200000) :
    Calls Tryz.prog 21 #[.agg #[.int .i64 en, .int .i64 st, .int .i64 g.k, .int .i64 g.n, v], .agg #[.int .i64 en, .int .i64 st, .int .i64 g.k, .int .i64 g.n, u]] w fun e w' => e = .returned (.bool true) ∧ Below w.heap.size w w' := by
  obtain ⟨p1, c1, rfl⟩ := h1.any
  obtain ⟨p2, c2, rfl⟩ := h2.any
  have e1 : (en == en) = true := by simp
  have e2 : (st == st) = true := by simp
  have e3 := eqlVal g g true (by simp)
  obtain ⟨W, hWd⟩ : ∃ W, W = (w.alloc (.cells #[.int .i64 en, .int .i64 st, .int .i64 g.k, .int .i64 g.n, .slice p1 l.length c1] 46)).alloc (.cells #[.int .i64 en, .int .i64 st, .int .i64 g.k, .int .i64 g.n, .slice p2 l.length c2] 46) := ⟨_, rfl⟩
  have hW : Below w.heap.size w W := by rw [hWd]; exact ((Below.refl _ _).alloc (Nat.le_refl _) _).alloc (by simp) _
  have r1 : W.heap[w.heap.size]? = some (.cells #[.int .i64 en, .int .i64 st, .int .i64 g.k, .int .i64 g.n, .slice p1 l.length c1] 46 (0, 0)) := by
    rw [hWd]; exact (Below.heap_alloc _ _ _ (by simp)).trans (Go.Deep.blk_alloc_new _ _)
  have r2 : W.heap[w.heap.size + 1]? = some (.cells #[.int .i64 en, .int .i64 st, .int .i64 g.k, .int .i64 g.n, .slice p2 l.length c2] 46 (0, 0)) := by
    rw [hWd]
    have := Go.Deep.blk_alloc_new (w.alloc (.cells #[.int .i64 en, .int .i64 st, .int .i64 g.k, .int .i64 g.n, .slice p1 l.length c1] 46)) (.cells #[.int .i64 en, .int .i64 st, .int .i64 g.k, .int .i64 g.n, .slice p2 l.length c2] 46)
    simpa using this
  have HV := hid (valuesB _ _ _ l (h1.below hW) (h2.below hW) hl)
  have HW := hid (And.intro hW (And.intro r1 r2))
  have HD := hid hWd
  clear h1 h2 hW hWd r1 r2
  generalize l.length = n at *
  go_enter Tryz.func21, Tryz.ntmps21
  go_wp2_with fail
  rw [← HD.out]
  refine HV.out.mono ?_
  rintro e w2 ⟨rfl, hB2⟩
  obtain ⟨hW, r1, r2⟩ := HW.out
  have q1 := (hB2.block _ (heap_lt r1)).trans r1
  have q2 := (hB2.block _ (heap_lt r2)).trans r2
  have HB := hid (hW.trans (hB2.mono hW.size))
  have x0 : w2.cell? ⟨w.heap.size, 0, none⟩ = some (.int .i64 en) := (cell_heap q1).trans rfl
  have x1 : w2.cell? ⟨w.heap.size, 1, none⟩ = some (.int .i64 st) := (cell_heap q1).trans rfl
  have x2 : w2.cell? ⟨w.heap.size, 2, none⟩ = some (.int .i64 g.k) := (cell_heap q1).trans rfl
  have x3 : w2.cell? ⟨w.heap.size, 3, none⟩ = some (.int .i64 g.n) := (cell_heap q1).trans rfl
  have y0 : w2.cell? ⟨w.heap.size + 1, 0, none⟩ = some (.int .i64 en) := (cell_heap q2).trans rfl
  have y1 : w2.cell? ⟨w.heap.size + 1, 1, none⟩ = some (.int .i64 st) := (cell_heap q2).trans rfl
  have y2 : w2.cell? ⟨w.heap.size + 1, 2, none⟩ = some (.int .i64 g.k) := (cell_heap q2).trans rfl
  have y3 : w2.cell? ⟨w.heap.size + 1, 3, none⟩ = some (.int .i64 g.n) := (cell_heap q2).trans rfl
  clear hW r1 r2 q1 q2 hB2 HW HV HD
  go_wp2
  go_ret
  exact ⟨rfl, HB.out⟩

/-- What is read of a frame that went out. -/
theorem FrsOut.at_ {w : World} {B k : Nat} {tag : Nat → Nat} {p : Option Addr} {n c : Nat} {LV SV : Nat → Value} {fr : Nat → Fr} (h : FrsOut w B tag (.slice p n c) LV SV fr k) {i : Nat} (hi : i < k) :
    ∃ b, p = some ⟨b, 0, none⟩ ∧ b < w.heap.size ∧ w.cell? ⟨b, i * 4, none⟩ = some (.int .i64 (fr i).fn) ∧ w.cell? ⟨b, i * 4 + 1, none⟩ = some (.int .i64 (fr i).pc) ∧ w.cell? ⟨b, i * 4 + 2, none⟩ = some (LV i) ∧ w.cell? ⟨b, i * 4 + 3, none⟩ = some (SV i) := by
  have hr := h.row
  obtain ⟨b, cap, e, _, hz, _, _⟩ := hr.form (by omega)
  injection e with e1 e2 e3
  subst e1 e2 e3
  refine ⟨b, rfl, hz, (hr.cell (i := i * 4) (by omega)).trans ?_, (hr.cell (i := i * 4 + 1) (by omega)).trans ?_, (hr.cell (i := i * 4 + 2) (by omega)).trans ?_, (hr.cell (i := i * 4 + 3) (by omega)).trans ?_⟩
  · unfold gcell; rw [if_pos (by omega), show i * 4 / 4 = i by omega]
  · unfold gcell; rw [if_neg (by omega), if_pos (by omega), show (i * 4 + 1) / 4 = i by omega]
  · unfold gcell; rw [if_neg (by omega), if_neg (by omega), if_pos (by omega), show (i * 4 + 2) / 4 = i by omega]
  · unfold gcell; rw [if_neg (by omega), if_neg (by omega), if_neg (by omega), show (i * 4 + 3) / 4 = i by omega]
theorem ArsOut.at_ {w : World} {B k : Nat} {tag : Nat → Nat} {p : Option Addr} {n c : Nat} {AV : Nat → Value} {arr : List (List V)} (h : ArsOut w B tag (.slice p n c) AV arr k) {i : Nat} (hi : i < k) :
    ∃ b, p = some ⟨b, 0, none⟩ ∧ b < w.heap.size ∧ w.cell? ⟨b, i, none⟩ = some (AV i) := by
  have hr := h.row
  obtain ⟨b, cap, e, _, hz, _, _⟩ := hr.form (by omega)
  injection e with e1 e2 e3
  subst e1 e2 e3
  exact ⟨b, rfl, hz, hr.cell (i := i) (by omega)⟩

set_option maxRecDepth 100000 in
set_option maxHeartbeats 2000000 in
theorem standsT (w : World) (B1 B2 : Nat) (t1 t2 : Nat → Nat) (f1 f2 a1 a2 : Value) (L1 S1 V1 L2 S2 V2 : Nat → Value) (fr : Nat → Fr) (n : Nat) (arr : List (List V)) (hf1 : FrsOut w B1 t1 f1 L1 S1 fr n) (hf2 : FrsOut w B2 t2 f2 L2 S2 fr n) (ha1 : ArsOut w B1 t1 a1 V1 arr arr.length) (ha2 : ArsOut w B2 t2 a2 V2 arr arr.length)
    (hn : n ≤ 1000) (har : arr.length ≤ 200000) (hls : ∀ i, i < n → (fr i).loc.length ≤ 200000 ∧ (fr i).stk.length ≤ 200000) (hal : ∀ j, j < arr.length → (arr.getD j []).length ≤ 200000) :
    Calls Tryz.prog 23 #[.agg #[f1, a1], .agg #[f2, a2]] w fun e w' => e = .returned (.bool true) ∧ Below w.heap.size w w' := by
  obtain ⟨fp1, fc1, rfl, _⟩ := hf1.row.any
  obtain ⟨fp2, fc2, rfl, _⟩ := hf2.row.any
  obtain ⟨ap1, ac1, rfl, _⟩ := ha1.row.any
  obtain ⟨ap2, ac2, rfl, _⟩ := ha2.row.any
  generalize hna : arr.length = na at *
  obtain ⟨W, hWd⟩ : ∃ W, W = (w.alloc (.cells #[.slice fp1 n fc1, .slice ap1 na ac1] 53)).alloc (.cells #[.slice fp2 n fc2, .slice ap2 na ac2] 53) := ⟨_, rfl⟩
  have hW : Below w.heap.size w W := by rw [hWd]; exact ((Below.refl _ _).alloc (Nat.le_refl _) _).alloc (by simp) _
  have r1 : W.heap[w.heap.size]? = some (.cells #[.slice fp1 n fc1, .slice ap1 na ac1] 53 (0, 0)) := by
    rw [hWd]; exact (Below.heap_alloc _ _ _ (by simp)).trans (Go.Deep.blk_alloc_new _ _)
  have r2 : W.heap[w.heap.size + 1]? = some (.cells #[.slice fp2 n fc2, .slice ap2 na ac2] 53 (0, 0)) := by
    rw [hWd]
    have := Go.Deep.blk_alloc_new (w.alloc (.cells #[.slice fp1 n fc1, .slice ap1 na ac1] 53)) (.cells #[.slice fp2 n fc2, .slice ap2 na ac2] 53)
    simpa using this
  have HW := hid (And.intro hW (And.intro r1 r2))
  have HD := hid hWd
  have HF := hid (And.intro hf1 (And.intro hf2 (And.intro ha1 (And.intro ha2 (And.intro hls hal)))))
  have HNA := hid hna
  have k1 : (n != n) = false := by simp
  have k2 : (na != na) = false := by simp
  clear hf1 hf2 ha1 ha2 hW hWd r1 r2 hls hal hna
  go_enter Tryz.func23, Tryz.ntmps23
  go_wp2_with fail
  rw [← HD.out]
  go_loopw [5] (fun v wr => ∃ j : Nat, j ≤ n ∧ v = .int .i64 j ∧ Below W.heap.size W wr) (fun v _ => n - (intOf v).toNat)
  case atStart => exact ⟨0, by omega, rfl, Below.refl _ _⟩
  case round =>
    obtain ⟨j, hj, rfl, hBr⟩ := hrel
    obtain ⟨hW, r1, r2⟩ := HW.out
    have q1 := (hBr.block _ (heap_lt r1)).trans r1
    have q2 := (hBr.block _ (heap_lt r2)).trans r2
    have s1 : wr.cell? ⟨w.heap.size, 0, none⟩ = some (.slice fp1 n fc1) := (cell_heap q1).trans rfl
    have s2 : wr.cell? ⟨w.heap.size + 1, 0, none⟩ = some (.slice fp2 n fc2) := (cell_heap q2).trans rfl
    have hWr : Below w.heap.size w wr := hW.trans (hBr.mono hW.size)
    have hz1 := heap_lt q1
    have hz2 := heap_lt q2
    by_cases hlt : j < n
    · have hdec : decide ((j : Int) < (n : Int)) = true := by simp; omega
      obtain ⟨b1, e1, bz1, x0, x1, x2, x3⟩ := HF.out.1.at_ hlt
      obtain ⟨b2, e2, bz2, y0, y1, y2, y3⟩ := HF.out.2.1.at_ hlt
      subst e1 e2
      have g1 := ((HF.out.1.loc j hlt).args).below hWr
      have g2 := ((HF.out.2.1.loc j hlt).args).below hWr
      have g3 := (HF.out.1.stk j hlt).below hWr
      have g4 := (HF.out.2.1.stk j hlt).below hWr
      obtain ⟨hl1, hl2⟩ := HF.out.2.2.2.2.1 j hlt
      have hlr : (fr j).stk.length = (fr j).stk.reverse.length := by simp
      rw [hlr] at g3 g4
      have g3 := g3.args
      have g4 := g4.args
      replace x0 := (hWr.cell (p := ⟨b1, j * 4, none⟩) bz1).trans x0
      replace x1 := (hWr.cell (p := ⟨b1, j * 4 + 1, none⟩) bz1).trans x1
      replace x2 := (hWr.cell (p := ⟨b1, j * 4 + 2, none⟩) bz1).trans x2
      replace x3 := (hWr.cell (p := ⟨b1, j * 4 + 3, none⟩) bz1).trans x3
      replace y0 := (hWr.cell (p := ⟨b2, j * 4, none⟩) bz2).trans y0
      replace y1 := (hWr.cell (p := ⟨b2, j * 4 + 1, none⟩) bz2).trans y1
      replace y2 := (hWr.cell (p := ⟨b2, j * 4 + 2, none⟩) bz2).trans y2
      replace y3 := (hWr.cell (p := ⟨b2, j * 4 + 3, none⟩) bz2).trans y3
      have bw1 : b1 < wr.heap.size := by have := hWr.size; omega
      have bw2 : b2 < wr.heap.size := by have := hWr.size; omega
      obtain ⟨lp1, lc1, el1⟩ := g1.any
      obtain ⟨lp2, lc2, el2⟩ := g2.any
      obtain ⟨sp1, sc1, es1⟩ := g3.any
      obtain ⟨sp2, sc2, es2⟩ := g4.any
      rw [el1] at x2 g1
      rw [el2] at y2 g2
      rw [es1, List.length_reverse] at x3
      rw [es2, List.length_reverse] at y3
      rw [es1] at g3
      rw [es2] at g4
      have i0 : (0 : Int) ≤ (j : Int) := by omega
      have i1 : (j : Int) < (n : Int) := by omega
      have HG := hid (And.intro g1 (And.intro g2 (And.intro g3 g4)))
      have HX := hid (And.intro x0 (And.intro x1 (And.intro x3 (And.intro y0 (And.intro y1 (And.intro y3 (And.intro s1 (And.intro s2 (And.intro x2 y2)))))))))
      have HBr := hid hBr
      clear g1 g2 g3 g4 x0 x1 x3 y0 y1 y3 hW r1 r2 q1 q2 hWr el1 el2 es1 es2 hBr hlr
      generalize hfj : fr j = f at *
      clear hfj
      go_wp2_with fail
      refine region_lex (fun w' => w'.cell? ⟨w.heap.size, 0, none⟩ = some (.slice (some ⟨b1, 0, none⟩) n fc1) ∧ w'.cell? ⟨w.heap.size + 1, 0, none⟩ = some (.slice (some ⟨b2, 0, none⟩) n fc2) ∧ w'.cell? ⟨b1, j * 4 + 2, none⟩ = some (.slice lp1 f.loc.length lc1) ∧ w'.cell? ⟨b2, j * 4 + 2, none⟩ = some (.slice lp2 f.loc.length lc2)) [(false, 0), (false, 1), (false, 2), (false, 3), (false, 4), (false, 5), (false, 6), (false, 7), (false, 8), (false, 9), (false, 10), (false, 11), (true, 12), (false, 13)] (by kernel_rfl) (by kernel_rfl) (fun c0 a0 d0 v0 x0 h0 => panic_body (P := Tryz.prog) Tryz.f23 (fun e w' => e = .returned (.bool true) ∧ Below w.heap.size w w') c0 a0 d0 v0 x0 h0) ⟨s1, s2, x2, y2⟩ ?_
      simp only [lexL, List.getElem?_cons_zero, List.getElem?_cons_succ]
      clear s1 s2 x2 y2
      iterate 12 (refine lexW_free (by rfl) (by intro w' hS'; obtain ⟨o0, o1, o2, o3⟩ := hS'; go_simp; exact rfl) ?_; simp only [Act.put, List.setIfInBounds_toArray, List.set_cons_zero, List.set_cons_succ])
      refine lexW_sole (fun K hK => ?_)
      go_simp
      refine (valuesB wr.drew _ _ f.loc (HG.out.1.below (Below.refl _ _).drew) (HG.out.2.1.below (Below.refl _ _).drew) hl1).mono ?_
      rintro e w3 ⟨rfl, hB3⟩
      obtain ⟨x0, x1, x3, y0, y1, y3, s1, s2, x2, y2⟩ := HX.out
      have cc : ∀ a : Addr, a.block < wr.heap.size → w3.cell? a = wr.cell? a := fun a ha => hB3.cell (p := a) ha
      have hz3 : wr.heap.size ≤ w3.heap.size := hB3.size
      replace x0 := (cc ⟨b1, _, none⟩ bw1).trans x0
      replace x1 := (cc ⟨b1, _, none⟩ bw1).trans x1
      replace x2 := (cc ⟨b1, _, none⟩ bw1).trans x2
      replace x3 := (cc ⟨b1, _, none⟩ bw1).trans x3
      replace y0 := (cc ⟨b2, _, none⟩ bw2).trans y0
      replace y1 := (cc ⟨b2, _, none⟩ bw2).trans y1
      replace y2 := (cc ⟨b2, _, none⟩ bw2).trans y2
      replace y3 := (cc ⟨b2, _, none⟩ bw2).trans y3
      replace s1 := (cc ⟨w.heap.size, _, none⟩ hz1).trans s1
      replace s2 := (cc ⟨w.heap.size + 1, _, none⟩ hz2).trans s2
      refine hK.out _ _ ⟨s1, s2, x2, y2⟩ ?_
      clear hK K HX cc
      have HX := hid (And.intro x0 (And.intro x1 (And.intro y0 (And.intro y1 (And.intro s1 (And.intro s2 (And.intro x3 y3)))))))
      have HB3 := hid (HBr.out.drew.trans (hB3.mono (by exact HBr.out.size)))
      clear x0 x1 x2 x3 y0 y1 y2 y3 s1 s2 HBr
      have HG2 := hid (And.intro ((HG.out.2.2.1.below (Below.refl _ _).drew).below hB3) ((HG.out.2.2.2.below (Below.refl _ _).drew).below hB3))
      clear hB3 HG
      refine lexW_free (by rfl) (by intro w' hS'; go_simp; exact rfl) ?_
      simp only [Act.put, List.setIfInBounds_toArray, List.set_cons_zero, List.set_cons_succ]
      refine lexW_done ?_
      go_wp2_with fail
      obtain ⟨x0, x1, y0, y1, s1, s2, x3, y3⟩ := HX.out
      refine region_lex (fun w' => w'.cell? ⟨w.heap.size, 0, none⟩ = some (.slice (some ⟨b1, 0, none⟩) n fc1) ∧ w'.cell? ⟨w.heap.size + 1, 0, none⟩ = some (.slice (some ⟨b2, 0, none⟩) n fc2) ∧ w'.cell? ⟨b1, j * 4 + 3, none⟩ = some (.slice sp1 f.stk.length sc1) ∧ w'.cell? ⟨b2, j * 4 + 3, none⟩ = some (.slice sp2 f.stk.length sc2)) [(false, 0), (false, 1), (false, 2), (false, 3), (false, 4), (false, 5), (false, 6), (false, 7), (false, 8), (false, 9), (false, 10), (false, 11), (true, 12), (false, 13)] (by kernel_rfl) (by kernel_rfl) (fun c0 a0 d0 v0 x0 h0 => panic_body (P := Tryz.prog) Tryz.f23 (fun e w' => e = .returned (.bool true) ∧ Below w.heap.size w w') c0 a0 d0 v0 x0 h0) ⟨s1, s2, x3, y3⟩ ?_
      simp only [lexL, List.getElem?_cons_zero, List.getElem?_cons_succ]
      clear x0 x1 y0 y1 s1 s2 x3 y3
      iterate 12 (refine lexW_free (by rfl) (by intro w' hS'; obtain ⟨o0, o1, o2, o3⟩ := hS'; go_simp; exact rfl) ?_; simp only [Act.put, List.setIfInBounds_toArray, List.set_cons_zero, List.set_cons_succ])
      refine lexW_sole (fun K hK => ?_)
      go_simp
      have hv := valuesB w3.drew _ _ f.stk.reverse (HG2.out.1.below (Below.refl _ _).drew) (HG2.out.2.below (Below.refl _ _).drew) (by rw [List.length_reverse]; exact hl2)
      rw [List.length_reverse] at hv
      refine hv.mono ?_
      clear hv
      rintro e w4 ⟨rfl, hB4⟩
      obtain ⟨x0, x1, y0, y1, s1, s2, x3, y3⟩ := HX.out
      have cc : ∀ a : Addr, a.block < w3.heap.size → w4.cell? a = w3.cell? a := fun a ha => hB4.cell (p := a) ha
      replace x0 := (cc ⟨b1, _, none⟩ (Nat.lt_of_lt_of_le bw1 hz3)).trans x0
      replace x1 := (cc ⟨b1, _, none⟩ (Nat.lt_of_lt_of_le bw1 hz3)).trans x1
      replace x3 := (cc ⟨b1, _, none⟩ (Nat.lt_of_lt_of_le bw1 hz3)).trans x3
      replace y0 := (cc ⟨b2, _, none⟩ (Nat.lt_of_lt_of_le bw2 hz3)).trans y0
      replace y1 := (cc ⟨b2, _, none⟩ (Nat.lt_of_lt_of_le bw2 hz3)).trans y1
      replace y3 := (cc ⟨b2, _, none⟩ (Nat.lt_of_lt_of_le bw2 hz3)).trans y3
      replace s1 := (cc ⟨w.heap.size, _, none⟩ (Nat.lt_of_lt_of_le hz1 hz3)).trans s1
      replace s2 := (cc ⟨w.heap.size + 1, _, none⟩ (Nat.lt_of_lt_of_le hz2 hz3)).trans s2
      refine hK.out _ _ ⟨s1, s2, x3, y3⟩ ?_
      clear hK K HX cc x3 y3
      have HB4 := hid (HB3.out.drew.trans (hB4.mono (by exact HB3.out.size)))
      clear hB4 HB3 HG2
      refine lexW_free (by rfl) (by intro w' hS'; go_simp; exact rfl) ?_
      simp only [Act.put, List.setIfInBounds_toArray, List.set_cons_zero, List.set_cons_succ]
      refine lexW_done ?_
      generalize hfn : (f.fn : Int) = ffn at *
      generalize hpc : (f.pc : Int) = fpc at *
      clear hfn hpc
      have e0 : (ffn != ffn) = false := by simp
      have e0' : (fpc != fpc) = false := by simp
      go_wp2_with fail
      go_quiet (fail)
      go_wp2
      exact ⟨⟨j + 1, by omega, by go_num, below_drewN HB4.out _⟩, by simp [intOf]; omega⟩
    · have hdec : decide ((j : Int) < (n : Int)) = false := by simp; omega
      have HB0 := hid hBr
      clear hBr hW r1 r2 q1 q2 hWr hz1 hz2
      go_wp2_with fail
      clear s1 s2
      go_loopw [8] (fun v wr => ∃ i : Nat, i ≤ na ∧ v = .int .i64 i ∧ Below W.heap.size W wr) (fun v _ => na - (intOf v).toNat)
      case atStart => exact ⟨0, by omega, rfl, HB0.out⟩
      case round =>
        obtain ⟨i, hi, rfl, hBr⟩ := hrel
        obtain ⟨hW, r1, r2⟩ := HW.out
        have q1 := (hBr.block _ (heap_lt r1)).trans r1
        have q2 := (hBr.block _ (heap_lt r2)).trans r2
        have s1 : wr.cell? ⟨w.heap.size, 1, none⟩ = some (.slice ap1 na ac1) := (cell_heap q1).trans rfl
        have s2 : wr.cell? ⟨w.heap.size + 1, 1, none⟩ = some (.slice ap2 na ac2) := (cell_heap q2).trans rfl
        have hWr : Below w.heap.size w wr := hW.trans (hBr.mono hW.size)
        have hz1 := heap_lt q1
        have hz2 := heap_lt q2
        have HBr := hid hBr
        by_cases hlt2 : i < na
        · have hdec2 : decide ((i : Int) < (na : Int)) = true := by simp; omega
          obtain ⟨b1, e1, bz1, x0⟩ := HF.out.2.2.1.at_ hlt2
          obtain ⟨b2, e2, bz2, y0⟩ := HF.out.2.2.2.1.at_ hlt2
          subst e1 e2
          have g1 := ((HF.out.2.2.1.arr i hlt2).args).below hWr
          have g2 := ((HF.out.2.2.2.1.arr i hlt2).args).below hWr
          have hl1 := HF.out.2.2.2.2.2 i hlt2
          replace x0 := (hWr.cell (p := ⟨b1, i, none⟩) bz1).trans x0
          replace y0 := (hWr.cell (p := ⟨b2, i, none⟩) bz2).trans y0
          have bw1 : b1 < wr.heap.size := by have := hWr.size; omega
          have bw2 : b2 < wr.heap.size := by have := hWr.size; omega
          obtain ⟨lp1, lc1, el1⟩ := g1.any
          obtain ⟨lp2, lc2, el2⟩ := g2.any
          rw [el1] at x0 g1
          rw [el2] at y0 g2
          have i0 : (0 : Int) ≤ (i : Int) := by omega
          have i1 : (i : Int) < (na : Int) := by omega
          have HG := hid (And.intro g1 g2)
          have HX := hid (And.intro s1 (And.intro s2 (And.intro x0 y0)))
          clear g1 g2 hW r1 r2 q1 q2 hWr el1 el2 hBr
          generalize hfj : arr.getD i [] = l at *
          clear hfj
          go_wp2_with fail
          refine region_lex (fun w' => w'.cell? ⟨w.heap.size, 1, none⟩ = some (.slice (some ⟨b1, 0, none⟩) na ac1) ∧ w'.cell? ⟨w.heap.size + 1, 1, none⟩ = some (.slice (some ⟨b2, 0, none⟩) na ac2) ∧ w'.cell? ⟨b1, i, none⟩ = some (.slice lp1 l.length lc1) ∧ w'.cell? ⟨b2, i, none⟩ = some (.slice lp2 l.length lc2)) [(false, 0), (false, 1), (false, 2), (false, 3), (false, 4), (false, 5), (false, 6), (false, 7), (false, 8), (false, 9), (true, 10), (false, 11)] (by kernel_rfl) (by kernel_rfl) (fun c0 a0 d0 v0 x0 h0 => panic_body (P := Tryz.prog) Tryz.f23 (fun e w' => e = .returned (.bool true) ∧ Below w.heap.size w w') c0 a0 d0 v0 x0 h0) ⟨s1, s2, x0, y0⟩ ?_
          simp only [lexL, List.getElem?_cons_zero, List.getElem?_cons_succ]
          clear s1 s2 x0 y0
          iterate 10 (refine lexW_free (by rfl) (by intro w' hS'; obtain ⟨o0, o1, o2, o3⟩ := hS'; go_simp; exact rfl) ?_; simp only [Act.put, List.setIfInBounds_toArray, List.set_cons_zero, List.set_cons_succ])
          refine lexW_sole (fun K hK => ?_)
          go_simp
          refine (valuesB wr.drew _ _ l (HG.out.1.below (Below.refl _ _).drew) (HG.out.2.below (Below.refl _ _).drew) hl1).mono ?_
          rintro e w3 ⟨rfl, hB3⟩
          obtain ⟨s1, s2, x0, y0⟩ := HX.out
          refine hK.out _ _ ⟨(hB3.cell (p := ⟨w.heap.size, 1, none⟩) hz1).trans s1, (hB3.cell (p := ⟨w.heap.size + 1, 1, none⟩) hz2).trans s2, (hB3.cell (p := ⟨b1, i, none⟩) bw1).trans x0, (hB3.cell (p := ⟨b2, i, none⟩) bw2).trans y0⟩ ?_
          clear hK K s1 s2 x0 y0
          have HB3 := hid (HBr.out.drew.trans (hB3.mono (by exact HBr.out.size)))
          clear hB3 HBr HG
          refine lexW_free (by rfl) (by intro w' hS'; go_simp; exact rfl) ?_
          simp only [Act.put, List.setIfInBounds_toArray, List.set_cons_zero, List.set_cons_succ]
          refine lexW_done ?_
          go_wp2
          exact ⟨⟨i + 1, by omega, by go_num, HB3.out⟩, by simp [intOf]; omega⟩
        · have hdec2 : decide ((i : Int) < (na : Int)) = false := by simp; omega
          have HQ := hid hWr
          clear hBr hW r1 r2 q1 q2 hWr
          go_wp2
          go_ret
          exact ⟨rfl, HQ.out⟩
end Go.Proofs.YtkafkipjedpohaaGreatDoor

/-
  upshift's Look.
-/
namespace Go.Proofs.YtkafkipjedpohaaGreatDoor
open Go.RowKit

theorem Row.lower {w : World} {B B' : Nat} {tag tag' : Nat → Nat} {c : Nat} {e : TypeId} {sz : Nat} {v : Value} {n : Nat} {f : Nat → Value} (h : Row w B' tag c e sz v n f) (hB : B ≤ B') (ht : ∀ x, B' ≤ x → tag' x = tag x) : Row w B tag' c e sz v n f := by
  rcases h with h | ⟨b, cap, cur, hv, hb, hc, hr⟩
  · exact Or.inl h
  · exact Or.inr ⟨b, cap, cur, hv, by omega, (ht b hb).trans hc, hr⟩

/-- A state that went out of a callee, stored into a block that was there. -/
theorem StOut.stored {w w2 w3 : World} {fr : List Fr} {arr : List (List V)} {e : Ending} (hB : Below w.heap.size w w2) (hr : w2.heap[w.heap.size]? = some (.cells #[.slice none 0 0, .slice none 0 0] 53 (0, 0))) (h : StOut w2 w3 fr arr e) :
    ∃ p1 c1 p2 c2, e = .returned (.agg #[.slice p1 fr.length c1, .slice p2 arr.length c2]) ∧ w3.heap[w.heap.size]? = some (.cells #[.slice none 0 0, .slice none 0 0] 53 (0, 0)) ∧ StOut w ((w3.setCell ⟨w.heap.size, 0, none⟩ (.slice p1 fr.length c1)).setCell ⟨w.heap.size, 1, none⟩ (.slice p2 arr.length c2)) fr arr e := by
  obtain ⟨fv, av, LV, SV, AV, tag, rfl, hb, hf, ha⟩ := h
  obtain ⟨p1, c1, h1, _⟩ := hf.row.any
  obtain ⟨p2, c2, h2, _⟩ := ha.row.any
  subst h1 h2
  have hz := heap_lt hr
  refine ⟨p1, c1, p2, c2, rfl, (hb.block _ hz).trans hr, ?_⟩
  have ht : ∀ x, w2.heap.size ≤ x → (fun x => if x < w2.heap.size then 9 else tag x) x = tag x := fun x hx => if_neg (by omega)
  have h9 : (fun x => if x < w2.heap.size then 9 else tag x) w.heap.size = 9 := if_pos hz
  have hle : w.heap.size ≤ w2.heap.size := hB.size
  have hcs : Ch w.heap.size (fun d => d = 9) (fun x => if x < w2.heap.size then 9 else tag x) (fun x => if x < w2.heap.size then 9 else tag x) w3 ((w3.setCell ⟨w.heap.size, 0, none⟩ (.slice p1 fr.length c1)).setCell ⟨w.heap.size, 1, none⟩ (.slice p2 arr.length c2)) := (Ch.set w3 _ _ _ (Nat.le_refl _) h9).trans (Ch.set _ _ _ _ (Nat.le_refl _) h9)
  have hf2 : FrsOut w3 w.heap.size (fun x => if x < w2.heap.size then 9 else tag x) (.slice p1 fr.length c1) LV SV (frAt fr) fr.length := ⟨hf.row.lower hle ht, fun i hi => (hf.loc i hi).lower hle ht, fun i hi => (hf.stk i hi).lower hle ht⟩
  have ha2 : ArsOut w3 w.heap.size (fun x => if x < w2.heap.size then 9 else tag x) (.slice p2 arr.length c2) AV arr arr.length := ⟨ha.row.lower hle ht, fun i hi => (ha.arr i hi).lower hle ht⟩
  exact ⟨_, _, LV, SV, AV, _, rfl, (hB.trans (hb.mono hle)).trans (hcs.below (by have := hb.size; omega)), hf2.keep hcs (by omega) (fun i _ => ⟨by omega, by omega⟩), ha2.keep hcs (by omega) (fun i _ => by omega)⟩

theorem frAt_mem {fr : List Fr} {i : Nat} (h : i < fr.length) : frAt fr i ∈ fr := by
  unfold frAt
  have hl : i < fr.reverse.length := by simpa using h
  rw [List.getD_eq_getElem?_getD, List.getElem?_eq_getElem hl]
  exact List.mem_reverse.1 (List.getElem_mem hl)
theorem getD_mem {arr : List (List V)} {j : Nat} (h : j < arr.length) : arr.getD j [] ∈ arr := by
  rw [List.getD_eq_getElem?_getD, List.getElem?_eq_getElem h]
  exact List.getElem_mem h

set_option maxRecDepth 100000 in
set_option maxHeartbeats 1000000 in
theorem codeLook (w : World) (cb pb po pc m : Nat) (F : Nat → PF) (K : Nat → Nat → Bool) (H : Nat → Nat → Int) (CA : Nat → Option Addr) (CC : Nat → Nat) (fuel : Int) (hc : w.cell? ⟨cb, 0, none⟩ = some (.slice (some ⟨pb, po, none⟩) m pc)) (hP : ProgAt w pb po m F CA CC) (hF : Fine m F K H) :
    Calls Tryz.prog 22 #[.pointer (some ⟨cb, 0, none⟩), .int .i64 fuel] w fun e w' => StOut w w' (atP F fuel).fr (atP F fuel).arr e := by
  have hcz := World.block_lt_of_cell? w _ hc
  have hW : Below w.heap.size w (w.alloc (.cells #[.slice none 0 0, .slice none 0 0] 53)) := (Below.refl _ _).alloc (Nat.le_refl _) _
  have hP2 := hP.below hW (Nat.le_refl _)
  have hrun := runsM _ m _ F K H fuel (Pg.of_prog (pc := pc) hP2) hF
  have c0 := (hW.cell (p := ⟨cb, 0, none⟩) hcz).trans hc
  have r0 : (w.alloc (.cells #[.slice none 0 0, .slice none 0 0] 53)).heap[w.heap.size]? = some (.cells #[.slice none 0 0, .slice none 0 0] 53 (0, 0)) := Go.Deep.blk_alloc_new _ _
  have hz : (w.alloc (.cells #[.slice none 0 0, .slice none 0 0] 53)).heap.size = w.heap.size + 1 := by simp
  obtain ⟨hsz, har, _⟩ := road_szs hF (fuelP fuel)
  have hfl := fuel_le fuel
  have h1 : (atP F fuel).fr.length ≤ 1000 := by have := hsz.fr; show (nthP F (startP F) (fuelP fuel)).fr.length ≤ 1000; omega
  have h2 : (atP F fuel).arr.length ≤ 200000 := by show (nthP F (startP F) (fuelP fuel)).arr.length ≤ 200000; omega
  have h3 : ∀ i, i < (atP F fuel).fr.length → (frAt (atP F fuel).fr i).loc.length ≤ 200000 ∧ (frAt (atP F fuel).fr i).stk.length ≤ 200000 := fun i hi => by have := hsz.ls _ (frAt_mem hi); show (frAt (nthP F (startP F) (fuelP fuel)).fr i).loc.length ≤ 200000 ∧ (frAt (nthP F (startP F) (fuelP fuel)).fr i).stk.length ≤ 200000; omega
  have h4 : ∀ j, j < (atP F fuel).arr.length → ((atP F fuel).arr.getD j []).length ≤ 200000 := fun j hj => by have := hsz.al _ (getD_mem hj); show ((nthP F (startP F) (fuelP fuel)).arr.getD j []).length ≤ 200000; omega
  generalize endP (atP F fuel) = en at *
  generalize atP F fuel = sN at *
  have HR := hid hrun
  have HX := hid (And.intro hW (And.intro r0 hz))
  have HZ := hid (And.intro h1 (And.intro h2 (And.intro h3 h4)))
  clear hrun hW hP hP2 hc r0 hz hF hsz har hfl h1 h2 h3 h4
  go_enter Tryz.func22, Tryz.ntmps22
  go_wp2_with fail
  refine HR.out.mono ?_
  rintro e w2 ⟨mb, rfl, hB2, A2, m2⟩
  have HO := hid (stateM w2 _ mb A2 sN en m2.lay HZ.out.1 HZ.out.2.1 HZ.out.2.2.1 HZ.out.2.2.2)
  have HB2 := hid hB2
  clear hB2 m2 HR
  go_wp2_with fail
  refine HO.out.mono ?_
  intro e w3 hst
  obtain ⟨hW, r0, hz⟩ := HX.out
  have hz2 := HB2.out.size
  have r2 := (HB2.out.block w.heap.size (by omega)).trans r0
  obtain ⟨p1, c1, p2, c2, rfl, r3, hfin⟩ := StOut.stored (hW.trans (HB2.out.mono (by omega))) r2 hst
  have y0 : w3.cell? ⟨w.heap.size, 0, none⟩ = some (.slice none 0 0) := (cell_heap r3).trans rfl
  have y1 : w3.cell? ⟨w.heap.size, 1, none⟩ = some (.slice none 0 0) := (cell_heap r3).trans rfl
  have z0 := frozen_heap (o := 0) r3
  have z1 := frozen_heap (o := 1) r3
  have g0 := heap_set (o := 1) (heap_set (o := 0) r3 (.slice p1 sN.fr.length c1)) (.slice p2 sN.arr.length c2)
  have HQ := hid (And.intro g0 hfin)
  clear hst r0 r2 r3 hW hz hz2 HX HB2 HO g0 hfin HZ
  go_wp2
  obtain ⟨g0, hfin⟩ := HQ.out
  generalize (w3.setCell ⟨w.heap.size, 0, none⟩ (.slice p1 sN.fr.length c1)).setCell ⟨w.heap.size, 1, none⟩ (.slice p2 sN.arr.length c2) = V at *
  have v0 : V.cell? ⟨w.heap.size, 0, none⟩ = some (.slice p1 sN.fr.length c1) := (cell_heap g0).trans rfl
  have v1 : V.cell? ⟨w.heap.size, 1, none⟩ = some (.slice p2 sN.arr.length c2) := (cell_heap g0).trans rfl
  exact bodyPost_ret (v := .agg #[.slice p1 sN.fr.length c1, .slice p2 sN.arr.length c2]) (by simp [results, Tryz.results22, go_sem, v0, v1]) rfl hfin
end Go.Proofs.YtkafkipjedpohaaGreatDoor
