import Derived.Test.YtkafkipjedpohaaGreatDoorM26
import Derived.Test.YtkafkipjedpohaaGreatDoorM27
import Derived.Test.YtkafkipjedpohaaGreatDoorM5

/-
  A state that goes out: its lists in memory.
-/
namespace Go.Proofs.YtkafkipjedpohaaGreatDoor
open Go.RowKit

/-- The cells of frames that go out. -/
def gcell (fr : Nat → Fr) (LV SV : Nat → Value) : Nat → Value := fun i =>
  if i % 4 = 0 then .int .i64 (fr (i / 4)).fn else if i % 4 = 1 then .int .i64 (fr (i / 4)).pc else if i % 4 = 2 then LV (i / 4) else SV (i / 4)

/-- k frames that have gone out. -/
structure FrsOut (w : World) (B : Nat) (tag : Nat → Nat) (v : Value) (LV SV : Nat → Value) (fr : Nat → Fr) (k : Nat) : Prop where
  row : Row w B tag 1 73 4 v k (gcell fr LV SV)
  loc : ∀ i, i < k → Row w B tag (11 + 4 * i) 43 2 (LV i) (fr i).loc.length (vcell (fr i).loc)
  stk : ∀ i, i < k → Row w B tag (12 + 4 * i) 43 2 (SV i) (fr i).stk.length (vcell (fr i).stk.reverse)

/-- k arrays that have gone out. -/
structure ArsOut (w : World) (B : Nat) (tag : Nat → Nat) (v : Value) (AV : Nat → Value) (arr : List (List V)) (k : Nat) : Prop where
  row : Row w B tag 2 44 1 v k AV
  arr : ∀ j, j < k → Row w B tag (13 + 4 * j) 43 2 (AV j) (arr.getD j []).length (vcell (arr.getD j []))

theorem FrsOut.keep {w w' : World} {B k : Nat} {tag tag' : Nat → Nat} {v : Value} {LV SV : Nat → Value} {fr : Nat → Fr} {p : Nat → Prop} (h : FrsOut w B tag v LV SV fr k) (c : Ch B p tag tag' w w') (h1 : ¬ p 1) (h2 : ∀ i, i < k → ¬ p (11 + 4 * i) ∧ ¬ p (12 + 4 * i)) : FrsOut w' B tag' v LV SV fr k :=
  ⟨h.row.keep c h1, fun i hi => (h.loc i hi).keep c (h2 i hi).1, fun i hi => (h.stk i hi).keep c (h2 i hi).2⟩
theorem ArsOut.keep {w w' : World} {B k : Nat} {tag tag' : Nat → Nat} {v : Value} {AV : Nat → Value} {arr : List (List V)} {p : Nat → Prop} (h : ArsOut w B tag v AV arr k) (c : Ch B p tag tag' w w') (h1 : ¬ p 2) (h2 : ∀ j, j < k → ¬ p (13 + 4 * j)) : ArsOut w' B tag' v AV arr k :=
  ⟨h.row.keep c h1, fun j hj => (h.arr j hj).keep c (h2 j hj)⟩

/-- A list that a callee has made gets its tag. -/
theorem OutL.tagged {X w' : World} {v : Value} {l : List V} (h : OutL X w' v l) {B : Nat} (hB : B ≤ X.heap.size) (tag : Nat → Nat) (c : Nat) : Row w' B (fun b => if b < X.heap.size then tag b else c) c 43 2 v l.length (vcell l) := by
  rcases h with h | ⟨g, cap, cur, hv, hg, _, hh, hr⟩
  · exact Or.inl h
  · exact Or.inr ⟨g, cap, cur, hv, by omega, by show (if g < X.heap.size then tag g else c) = c; rw [if_neg (by omega)], hh, hr⟩
theorem Ch.tagged {X w' : World} {B : Nat} (h : Below X.heap.size X w') (p : Nat → Prop) (tag : Nat → Nat) (c : Nat) : Ch B p tag (fun b => if b < X.heap.size then tag b else c) X w' :=
  ⟨h.os, h.tape, h.output, h.size, fun b hb _ => h.block b hb, fun b hb => by show (if b < X.heap.size then tag b else c) = tag b; rw [if_pos hb]⟩

theorem FrsOut.add {w w1 : World} {B k : Nat} {tag : Nat → Nat} {v : Value} {LV SV : Nat → Value} {fr : Nat → Fr} {lv sv : Value} (h : FrsOut w B tag v LV SV fr k)
    (hl : Row w B tag (11 + 4 * k) 43 2 lv (fr k).loc.length (vcell (fr k).loc)) (hs : Row w B tag (12 + 4 * k) 43 2 sv (fr k).stk.length (vcell (fr k).stk.reverse)) {g cap : Nat}
    (hown : w1.ownsRow B 73 4 (.slice (some ⟨g, 0, none⟩) (k + 1) cap) (k + 1) ((List.range (k * 4)).map (gcell fr LV SV) ++ [.int .i64 (fr k).fn, .int .i64 (fr k).pc, lv, sv])) (hgrow : w.grownBy w1 v.ownBlock) (hat : v.ownBlock = some g ∨ g = w.heap.size) :
    ∃ tag', FrsOut w1 B tag' (.slice (some ⟨g, 0, none⟩) (k + 1) cap) (upd LV k lv) (upd SV k sv) fr (k + 1) ∧ Ch B (· = 1) tag tag' w w1 := by
  obtain ⟨tag', h1, h2⟩ := h.row.grew hown hgrow hat rfl
  refine ⟨tag', ⟨h1.congr (fun i hi => ?_), fun i hi => ?_, fun i hi => ?_⟩, h2⟩
  · by_cases hlt : i < k * 4
    · rw [if_pos hlt]
      unfold gcell
      rw [upd_other _ _ _ _ (by omega), upd_other _ _ _ _ (by omega)]
    · rw [if_neg hlt]
      have e4 : i / 4 = k := by omega
      have : i - k * 4 = 0 ∨ i - k * 4 = 1 ∨ i - k * 4 = 2 ∨ i - k * 4 = 3 := by omega
      unfold gcell
      rw [e4, upd_same, upd_same]
      rcases this with e | e | e | e
      · rw [if_pos (by omega), e]; rfl
      · rw [if_neg (by omega), if_pos (by omega), e]; rfl
      · rw [if_neg (by omega), if_neg (by omega), if_pos (by omega), e]; rfl
      · rw [if_neg (by omega), if_neg (by omega), if_neg (by omega), e]; rfl
  · by_cases e : i = k
    · subst e
      rw [upd_same]
      exact hl.keep h2 (by omega)
    · rw [upd_other _ _ _ _ e]
      exact (h.loc i (by omega)).keep h2 (by omega)
  · by_cases e : i = k
    · subst e
      rw [upd_same]
      exact hs.keep h2 (by omega)
    · rw [upd_other _ _ _ _ e]
      exact (h.stk i (by omega)).keep h2 (by omega)

theorem ArsOut.add {w w1 : World} {B k : Nat} {tag : Nat → Nat} {v : Value} {AV : Nat → Value} {arr : List (List V)} {av : Value} (h : ArsOut w B tag v AV arr k)
    (hl : Row w B tag (13 + 4 * k) 43 2 av (arr.getD k []).length (vcell (arr.getD k []))) {g cap : Nat}
    (hown : w1.ownsRow B 44 1 (.slice (some ⟨g, 0, none⟩) (k + 1) cap) (k + 1) ((List.range (k * 1)).map AV ++ [av])) (hgrow : w.grownBy w1 v.ownBlock) (hat : v.ownBlock = some g ∨ g = w.heap.size) :
    ∃ tag', ArsOut w1 B tag' (.slice (some ⟨g, 0, none⟩) (k + 1) cap) (upd AV k av) arr (k + 1) ∧ Ch B (· = 2) tag tag' w w1 := by
  obtain ⟨tag', h1, h2⟩ := h.row.grew hown hgrow hat rfl
  refine ⟨tag', ⟨h1.congr (fun i hi => ?_), fun j hj => ?_⟩, h2⟩
  · by_cases hlt : i < k * 1
    · rw [if_pos hlt, upd_other _ _ _ _ (by omega)]
    · obtain rfl : i = k := by omega
      rw [if_neg hlt, upd_same]
      simp
  · by_cases e : j = k
    · subst e
      rw [upd_same]
      exact hl.keep h2 (by omega)
    · rw [upd_other _ _ _ _ e]
      exact (h.arr j (by omega)).keep h2 (by omega)
end Go.Proofs.YtkafkipjedpohaaGreatDoor

/-
  As Lx, for a region whose last operation waits for all others (a store into what was read): behind that one S need not hold.
-/
namespace Go.Proofs.YtkafkipjedpohaaGreatDoor
open Go

section
variable {P : Program} {ops : Array Oper} {Q : Exit → Act → World → Prop} {S : World → Prop} {z : Nat}

/-- Number z waits for all others. -/
def waitsAll (ops : Array Oper) (z : Nat) : Bool := match ops[z]? with
  | none => false
  | some o => (List.range ops.size).all fun i => i == z || o.after.any fun e => Region.binds .any e && e.on == i

theorem waits_not {listed : Array Bool} {i : Nat} (hw : waitsAll ops z = true) (hi : i ∈ Region.ready .any ops listed) (hne : i ≠ z) : ¬ z ∈ Region.ready .any ops listed := by
  intro hz
  obtain ⟨u0, oi, hoi, _⟩ := mem_ready.1 hi
  obtain ⟨_, oz, hoz, hall⟩ := mem_ready.1 hz
  unfold waitsAll at hw
  rw [hoz] at hw
  have h1 := List.all_eq_true.1 hw i (List.mem_range.2 (Array.getElem?_eq_some_iff.1 hoi).1)
  simp only [Bool.or_eq_true, beq_iff_eq, hne, false_or, Array.any_eq_true', Bool.and_eq_true] at h1
  obtain ⟨e, he, hb, rfl⟩ := h1
  have h2 := hall e he hb
  rcases Nat.lt_or_ge e.on listed.size with h | h
  · simp [h] at u0 h2; rw [u0] at h2; cases h2
  · simp [Array.getElem?_eq_none h] at h2

/-- Whatever order is picked: S holds behind each but z. -/
def anyZ (P : Program) (ops : Array Oper) (Q : Exit → Act → World → Prop) (S : World → Prop) (z : Nat) : Nat → Array Bool → Act → World → Prop
  | 0, listed, a, w => Region.ready .any ops listed = [] ∧ Q .normal a w
  | n + 1, listed, a, w => (Region.ready .any ops listed = [] → Q .normal a w) ∧
      ∀ i ∈ Region.ready .any ops listed, wpOp P ops Q i (fun a' w' => (i ≠ z → S w') ∧ anyZ P ops Q S z n (listed.setIfInBounds i true) a' w') a w

theorem anyZ.any : ∀ (n : Nat) (listed : Array Bool) (a : Act) (w : World), anyZ P ops Q S z n listed a w → wpAny P .any ops Q n listed a w
  | 0, _, _, _, h => h
  | n + 1, _, _, _, h => ⟨h.1, fun i hi => wpOp_mono (fun a' w' h' => anyZ.any n _ a' w' h'.2) (h.2 i hi)⟩

theorem anyZ.take {i : Nat} {oi : Oper} {v : Value} (hi : ops[i]? = some oi) (hs : Region.noSelect ops = true) (hw : waitsAll ops z = true) (hiz : i ≠ z) (hQ : ∀ c a w, Q (.panic c) (a.put oi.dst v) w → Q (.panic c) a w) :
    ∀ (n : Nat) (listed : Array Bool) (a : Act) (w : World),
      (∀ j oj, ops[j]? = some oj → j ≠ i → listed.getD j true = false → (∀ e ∈ oj.after, Region.binds .any e = true → e.on ≠ i) → oi.apart ops oj = true) →
      i ∈ Region.ready .any ops listed → YieldsIf P ops S oi v a → S w → anyZ P ops Q S z n (listed.setIfInBounds i true) (a.put oi.dst v) w → anyZ P ops Q S z (n + 1) listed a w
  | n, listed, a, w, hfree, hr, hy, hS, H => by
    refine ⟨fun h => (by rw [h] at hr; cases hr), fun j hj => ?_⟩
    by_cases hji : j = i
    · rw [hji]
      exact hy.wpOp hi hS ⟨fun _ => hS, H⟩
    have hjr := ready_mono hj hji
    have hjz : j ≠ z := fun e => waits_not hw hr hiz (e ▸ hj)
    cases n with
    | zero => rw [H.1] at hjr; cases hjr
    | succ n =>
      have h1 := H.2 j hjr
      obtain ⟨hjun, oj, hoj, hall⟩ := mem_ready.1 hj
      have hsel := Region.noSelect_spec hs
      have hnot : ∀ e ∈ oj.after, Region.binds .any e = true → e.on ≠ i := fun e he hb heq => by
        have h2 := hall e he hb
        have h0 := (mem_ready.1 hr).1
        rw [heq] at h2
        rcases Nat.lt_or_ge i listed.size with h' | h'
        · simp [h'] at h0 h2; rw [h0] at h2; cases h2
        · simp [Array.getElem?_eq_none h'] at h2
      have h2 := wpOp_putIf hoj (hfree j oj hoj hji hjun hnot) (fun cs b => hsel i oi cs b hi) (fun cs b => hsel j oj cs b hoj) hQ hy h1
      refine wpOp_mono (fun a' w' h3 => ⟨h3.2.1, anyZ.take hi hs hw hiz hQ n _ a' w' (fun k ok hk hki hun hno => hfree k ok hk hki ?_ hno) (ready_mono hr (Ne.symm hji)) h3.1 (h3.2.1 hjz) ?_⟩) h2
      · by_cases hjk : j = k
        · rw [← hjk]; exact hjun
        · rw [getD_set_ne true hjk] at hun; exact hun
      · rw [Array.setIfInBounds_comm _ _ hji]
        exact h3.2.2

/-- The walk, as lexW. -/
def lexZ (P : Program) (ops : Array Oper) (Q : Exit → Act → World → Prop) (S : World → Prop) (z : Nat) : List (Bool × Nat) → Act → World → Prop
  | [], a, w => Q .normal a w
  | (true, i) :: r, a, w => wpOp P ops Q i (fun a' w' => (i ≠ z → S w') ∧ lexZ P ops Q S z r a' w') a w
  | (false, i) :: r, a, w => ∃ oi v, ops[i]? = some oi ∧ YieldsIf P ops S oi v a ∧ lexZ P ops Q S z r (a.put oi.dst v) w

/-- Number z is the last one, if it is there. -/
def zLast (z : Nat) : List (Bool × Nat) → Bool
  | [] => true
  | (b, i) :: r => (i != z || (b && r.isEmpty)) && zLast z r

theorem lexZ_any (hs : Region.noSelect ops = true) (hw : waitsAll ops z = true) (hQ : ∀ c a d v w, Q (.panic c) (Act.put a d v) w → Q (.panic c) a w) : ∀ (l : List (Bool × Nat)) (listed : Array Bool) (a : Act) (w : World),
    lexB ops l listed = true → zLast z l = true → (l ≠ [] → S w) → lexZ P ops Q S z l a w → anyZ P ops Q S z l.length listed a w
  | [], listed, a, w, hB, _, _, h => ⟨by simpa [lexB] using hB, h⟩
  | (true, i) :: r, listed, a, w, hB, hA, _, h => by
    simp only [lexB, Bool.and_eq_true, decide_eq_true_eq] at hB
    simp only [zLast, Bool.and_eq_true, Bool.or_eq_true, bne_iff_ne, ne_eq, true_and, List.isEmpty_iff] at hA
    refine ⟨fun h0 => (by rw [hB.1] at h0; cases h0), fun j hj => ?_⟩
    rw [hB.1] at hj
    obtain rfl : j = i := by simpa using hj
    refine wpOp_mono (fun a' w' h' => ⟨h'.1, lexZ_any hs hw hQ r _ a' w' hB.2 hA.2 (fun hr => h'.1 (fun e => ?_)) h'.2⟩) h
    rcases hA.1 with h1 | h1
    · exact h1 e
    · exact hr h1
  | (false, i) :: r, listed, a, w, hB, hA, hS, h => by
    simp only [lexB, Bool.and_eq_true] at hB
    simp only [zLast, Bool.and_eq_true, Bool.or_eq_true, bne_iff_ne, ne_eq, Bool.false_eq_true, false_and, or_false] at hA
    obtain ⟨oi, v, hi, hy, h'⟩ := h
    exact anyZ.take hi hs hw hA.1 (fun c a w => hQ c a _ _ w) _ listed a w (Region.free_spec hi hB.1.1) (by simpa using hB.1.2) hy (hS (by simp)) (lexZ_any hs hw hQ r _ _ w hB.2 hA.2 (fun _ => hS (by simp)) h')

/-- The walk as a goal, each operation beside its number. -/
structure LexZ (P : Program) (ops : Array Oper) (Q : Exit → Act → World → Prop) (S : World → Prop) (z : Nat) (l : List (Bool × Nat × Oper)) (a : Act) (w : World) : Prop where
  out : (∀ t, t ∈ l → ops[t.2.1]? = some t.2.2) → lexZ P ops Q S z (l.map fun t => (t.1, t.2.1)) a w

theorem region_lexZ {id : Nat} {a : Act} {w : World} {l : List Oper} (S : World → Prop) (z : Nat) (k : List (Bool × Nat)) (hm : P.follows .mixedOrders = true)
    (hB : (Region.noSelect l.toArray && waitsAll l.toArray z && zLast z k && decide (k.length = l.toArray.size) && (k.all fun t => decide (t.2 < l.length)) && lexB l.toArray k (Array.replicate l.toArray.size false)) = true)
    (hQ : ∀ c a d v w, Q (.panic c) (Act.put a d v) w → Q (.panic c) a w) (hS : S w.drew) (h : LexZ P l.toArray Q S z (lexL l k) a w.drew) : (Code.region id l.toArray true).wp P Q a w := by
  simp only [Bool.and_eq_true, decide_eq_true_eq] at hB
  obtain ⟨⟨⟨⟨⟨b1, b2⟩, b3⟩, b4⟩, b5⟩, b6⟩ := hB
  have h1 := h.out (lexL_at l k)
  rw [lexL_map l k b5] at h1
  refine wp_region_any hm ?_
  have := (lexZ_any b1 b2 hQ k _ a w.drew b6 b3 (fun _ => hS) h1).any
  rw [b4] at this
  exact this

theorem lexZ_free {i : Nat} {o : Oper} {v : Value} {r : List (Bool × Nat × Oper)} {a : Act} {w : World} (hw : Region.wanted o (yielded ops a.tmps) = true) (hy : ∀ w', S w' → (execOp a.eval o).run P w' = .ok (.value v) w')
    (h : LexZ P ops Q S z r (a.put o.dst v) w) : LexZ P ops Q S z ((false, i, o) :: r) a w := ⟨fun hall => ⟨o, v, hall _ List.mem_cons_self, Or.inl ⟨hw, hy⟩, h.out (fun t ht => hall t (List.mem_cons_of_mem _ ht))⟩⟩
theorem lexZ_sole {i : Nat} {o : Oper} {r : List (Bool × Nat × Oper)} {a : Act} {w : World}
    (h : ∀ K' : Act → World → Prop, Shut (∀ a w, S w → LexZ P ops Q S z r a w → K' a w) → if Region.wanted o (yielded ops a.tmps) = true then Oper.wp P o a w K' Q else K' (a.put o.dst undef) w) : LexZ P ops Q S z ((true, i, o) :: r) a w :=
  ⟨fun hall => wpOp_step (hall _ List.mem_cons_self) (fun K' hK => h K' (fun a w hS hW => hK a w ⟨fun _ => hS, hW.out (fun t ht => hall t (List.mem_cons_of_mem _ ht))⟩))⟩
theorem lexZ_last {o : Oper} {a : Act} {w : World}
    (h : ∀ K' : Act → World → Prop, Shut (∀ a w, Q .normal a w → K' a w) → if Region.wanted o (yielded ops a.tmps) = true then Oper.wp P o a w K' Q else K' (a.put o.dst undef) w) : LexZ P ops Q S z [(true, z, o)] a w :=
  ⟨fun hall => wpOp_step (hall _ List.mem_cons_self) (fun K' hK => h K' (fun a w hW => hK a w ⟨fun h0 => absurd rfl h0, hW⟩))⟩
end
end Go.Proofs.YtkafkipjedpohaaGreatDoor
