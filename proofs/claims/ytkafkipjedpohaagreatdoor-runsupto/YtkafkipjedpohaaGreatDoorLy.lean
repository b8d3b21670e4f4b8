import Derived.Test.YtkafkipjedpohaaGreatDoorM3
import Derived.Test.YtkafkipjedpohaaGreatDoorU3
import Derived.Test.YtkafkipjedpohaaGreatDoorM30
import Derived.Deep.CutRange

/-
  As Lz, for a region whose last operation waits for all others by ways of several.
-/
namespace Go.Proofs.YtkafkipjedpohaaGreatDoor
open Go

section
variable {P : Program} {ops : Array Oper} {Q : Exit → Act → World → Prop} {S : World → Prop} {z : Nat}

/-- There is a way of waiting from a to b. -/
def waitsF (ops : Array Oper) : Nat → Nat → Nat → Bool
  | 0, _, _ => false
  | n + 1, a, b => match ops[a]? with
    | none => false
    | some o => o.after.any fun e => Region.binds .any e && (e.on == b || waitsF ops n e.on b)
/-- Number z waits for all others, by ways of at most six. -/
def waitsT (ops : Array Oper) (z : Nat) : Bool := (List.range ops.size).all fun i => i == z || waitsF ops 6 z i

/-- What is listed, all is listed that it waits for. -/
def CL (ops : Array Oper) (listed : Array Bool) : Prop := ∀ a o, ops[a]? = some o → listed.getD a false = true → ∀ e ∈ o.after, Region.binds .any e = true → listed.getD e.on false = true

theorem waitsF_listed {listed : Array Bool} (hc : CL ops listed) : ∀ (n a b : Nat) (o : Oper), ops[a]? = some o → (∀ e ∈ o.after, Region.binds .any e = true → listed.getD e.on false = true) → waitsF ops n a b = true → listed.getD b false = true
  | 0, _, _, _, _, _, h => by cases h
  | n + 1, a, b, o, ho, hall, h => by
    unfold waitsF at h
    rw [ho] at h
    simp only [Array.any_eq_true', Bool.and_eq_true, Bool.or_eq_true, beq_iff_eq] at h
    obtain ⟨e, he, hb, h1⟩ := h
    have hl := hall e he hb
    rcases h1 with rfl | h1
    · exact hl
    · cases hoe : ops[e.on]? with
      | none =>
        cases n with
        | zero => cases h1
        | succ n => unfold waitsF at h1; rw [hoe] at h1; cases h1
      | some oe => exact waitsF_listed hc n e.on b oe hoe (hc e.on oe hoe hl) h1

theorem getD_listed {listed : Array Bool} {i : Nat} (h1 : listed.getD i true = false) (h2 : listed.getD i false = true) : False := by
  rcases Nat.lt_or_ge i listed.size with h | h
  · simp [h] at h1 h2; rw [h1] at h2; cases h2
  · simp [Array.getElem?_eq_none h] at h2
theorem CL.start (n : Nat) : CL ops (Array.replicate n false) := by
  intro a o _ hl
  exfalso
  rcases Nat.lt_or_ge a n with h | h
  · simp [h] at hl
  · simp [Array.getElem?_eq_none (show (Array.replicate n false).size ≤ a by simpa using h)] at hl
theorem CL.next {listed : Array Bool} {i : Nat} (h : CL ops listed) (hi : i ∈ Region.ready .any ops listed) : CL ops (listed.setIfInBounds i true) := by
  obtain ⟨hu, oi, hoi, hall⟩ := mem_ready.1 hi
  have hmono : ∀ j, listed.getD j false = true → (listed.setIfInBounds i true).getD j false = true := fun j hj => by
    by_cases e : i = j
    · subst e
      exact absurd hj (fun hj => getD_listed hu hj)
    · rw [getD_set_ne false e]; exact hj
  intro a o ho hl e he hb
  by_cases ea : i = a
  · subst ea
    rw [hoi] at ho
    injection ho with ho
    subst ho
    exact hmono _ (hall e he hb)
  · rw [getD_set_ne false ea] at hl
    exact hmono _ (h a o ho hl e he hb)

theorem waitsT_not {listed : Array Bool} {i : Nat} (hw : waitsT ops z = true) (hc : CL ops listed) (hi : i ∈ Region.ready .any ops listed) (hne : i ≠ z) : ¬ z ∈ Region.ready .any ops listed := by
  intro hz
  obtain ⟨u0, oi, hoi, _⟩ := mem_ready.1 hi
  obtain ⟨_, oz, hoz, hall⟩ := mem_ready.1 hz
  have h1 := List.all_eq_true.1 hw i (List.mem_range.2 (Array.getElem?_eq_some_iff.1 hoi).1)
  simp only [Bool.or_eq_true, beq_iff_eq, hne, false_or] at h1
  exact getD_listed u0 (waitsF_listed hc 6 z i oz hoz hall h1)

/-- Whatever order is picked: S holds behind each but z. -/
def anyY (P : Program) (ops : Array Oper) (Q : Exit → Act → World → Prop) (S : World → Prop) (z : Nat) : Nat → Array Bool → Act → World → Prop
  | 0, listed, a, w => Region.ready .any ops listed = [] ∧ Q .normal a w
  | n + 1, listed, a, w => (Region.ready .any ops listed = [] → Q .normal a w) ∧
      ∀ i ∈ Region.ready .any ops listed, wpOp P ops Q i (fun a' w' => (i ≠ z → S w') ∧ anyY P ops Q S z n (listed.setIfInBounds i true) a' w') a w

theorem anyY.any : ∀ (n : Nat) (listed : Array Bool) (a : Act) (w : World), anyY P ops Q S z n listed a w → wpAny P .any ops Q n listed a w
  | 0, _, _, _, h => h
  | n + 1, _, _, _, h => ⟨h.1, fun i hi => wpOp_mono (fun a' w' h' => anyY.any n _ a' w' h'.2) (h.2 i hi)⟩

theorem anyY.take {i : Nat} {oi : Oper} {v : Value} (hi : ops[i]? = some oi) (hs : Region.noSelect ops = true) (hw : waitsT ops z = true) (hiz : i ≠ z) (hQ : ∀ c a w, Q (.panic c) (a.put oi.dst v) w → Q (.panic c) a w) :
    ∀ (n : Nat) (listed : Array Bool) (a : Act) (w : World),
      (∀ j oj, ops[j]? = some oj → j ≠ i → listed.getD j true = false → (∀ e ∈ oj.after, Region.binds .any e = true → e.on ≠ i) → oi.apart ops oj = true) →
      CL ops listed → i ∈ Region.ready .any ops listed → YieldsIf P ops S oi v a → S w → anyY P ops Q S z n (listed.setIfInBounds i true) (a.put oi.dst v) w → anyY P ops Q S z (n + 1) listed a w
  | n, listed, a, w, hfree, hcl, hr, hy, hS, H => by
    refine ⟨fun h => (by rw [h] at hr; cases hr), fun j hj => ?_⟩
    by_cases hji : j = i
    · rw [hji]
      exact hy.wpOp hi hS ⟨fun _ => hS, H⟩
    have hjr := ready_mono hj hji
    have hjz : j ≠ z := fun e => waitsT_not hw hcl hr hiz (e ▸ hj)
    cases n with
    | zero => rw [H.1] at hjr; cases hjr
    | succ n =>
      have h1 := H.2 j hjr
      obtain ⟨hjun, oj, hoj, hall⟩ := mem_ready.1 hj
      have hsel := Region.noSelect_spec hs
      have hnot : ∀ e ∈ oj.after, Region.binds .any e = true → e.on ≠ i := fun e he hb heq => by
        have h2 := hall e he hb
        have h0 := (mem_ready.1 hr).1
        rw [heq] at h2
        rcases Nat.lt_or_ge i listed.size with h' | h'
        · simp [h'] at h0 h2; rw [h0] at h2; cases h2
        · simp [Array.getElem?_eq_none h'] at h2
      have h2 := wpOp_putIf hoj (hfree j oj hoj hji hjun hnot) (fun cs b => hsel i oi cs b hi) (fun cs b => hsel j oj cs b hoj) hQ hy h1
      refine wpOp_mono (fun a' w' h3 => ⟨h3.2.1, anyY.take hi hs hw hiz hQ n _ a' w' (fun k ok hk hki hun hno => hfree k ok hk hki ?_ hno) (hcl.next hj) (ready_mono hr (Ne.symm hji)) h3.1 (h3.2.1 hjz) ?_⟩) h2
      · by_cases hjk : j = k
        · rw [← hjk]; exact hjun
        · rw [getD_set_ne true hjk] at hun; exact hun
      · rw [Array.setIfInBounds_comm _ _ hji]
        exact h3.2.2

/-- The walk, as lexW. -/
def lexY (P : Program) (ops : Array Oper) (Q : Exit → Act → World → Prop) (S : World → Prop) (z : Nat) : List (Bool × Nat) → Act → World → Prop
  | [], a, w => Q .normal a w
  | (true, i) :: r, a, w => wpOp P ops Q i (fun a' w' => (i ≠ z → S w') ∧ lexY P ops Q S z r a' w') a w
  | (false, i) :: r, a, w => ∃ oi v, ops[i]? = some oi ∧ YieldsIf P ops S oi v a ∧ lexY P ops Q S z r (a.put oi.dst v) w

/-- Number z is the last one, if it is there. -/
def yLast (z : Nat) : List (Bool × Nat) → Bool
  | [] => true
  | (b, i) :: r => (i != z || (b && r.isEmpty)) && yLast z r

theorem lexY_any (hs : Region.noSelect ops = true) (hw : waitsT ops z = true) (hQ : ∀ c a d v w, Q (.panic c) (Act.put a d v) w → Q (.panic c) a w) : ∀ (l : List (Bool × Nat)) (listed : Array Bool) (a : Act) (w : World),
    lexB ops l listed = true → CL ops listed → yLast z l = true → (l ≠ [] → S w) → lexY P ops Q S z l a w → anyY P ops Q S z l.length listed a w
  | [], listed, a, w, hB, _, _, _, h => ⟨by simpa [lexB] using hB, h⟩
  | (true, i) :: r, listed, a, w, hB, hcl, hA, _, h => by
    simp only [lexB, Bool.and_eq_true, decide_eq_true_eq] at hB
    simp only [yLast, Bool.and_eq_true, Bool.or_eq_true, bne_iff_ne, ne_eq, true_and, List.isEmpty_iff] at hA
    refine ⟨fun h0 => (by rw [hB.1] at h0; cases h0), fun j hj => ?_⟩
    rw [hB.1] at hj
    obtain rfl : j = i := by simpa using hj
    refine wpOp_mono (fun a' w' h' => ⟨h'.1, lexY_any hs hw hQ r _ a' w' hB.2 (hcl.next (by rw [hB.1]; simp)) hA.2 (fun hr => h'.1 (fun e => ?_)) h'.2⟩) h
    rcases hA.1 with h1 | h1
    · exact h1 e
    · exact hr h1
  | (false, i) :: r, listed, a, w, hB, hcl, hA, hS, h => by
    simp only [lexB, Bool.and_eq_true] at hB
    simp only [yLast, Bool.and_eq_true, Bool.or_eq_true, bne_iff_ne, ne_eq, Bool.false_eq_true, false_and, or_false] at hA
    obtain ⟨oi, v, hi, hy, h'⟩ := h
    exact anyY.take hi hs hw hA.1 (fun c a w => hQ c a _ _ w) _ listed a w (Region.free_spec hi hB.1.1) hcl (by simpa using hB.1.2) hy (hS (by simp)) (lexY_any hs hw hQ r _ _ w hB.2 (hcl.next (by simpa using hB.1.2)) hA.2 (fun _ => hS (by simp)) h')

/-- The walk as a goal, each operation beside its number. -/
structure LexY (P : Program) (ops : Array Oper) (Q : Exit → Act → World → Prop) (S : World → Prop) (z : Nat) (l : List (Bool × Nat × Oper)) (a : Act) (w : World) : Prop where
  out : (∀ t, t ∈ l → ops[t.2.1]? = some t.2.2) → lexY P ops Q S z (l.map fun t => (t.1, t.2.1)) a w

theorem region_lexY {id : Nat} {a : Act} {w : World} {l : List Oper} (S : World → Prop) (z : Nat) (k : List (Bool × Nat)) (hm : P.follows .mixedOrders = true)
    (hB : (Region.noSelect l.toArray && waitsT l.toArray z && yLast z k && decide (k.length = l.toArray.size) && (k.all fun t => decide (t.2 < l.length)) && lexB l.toArray k (Array.replicate l.toArray.size false)) = true)
    (hQ : ∀ c a d v w, Q (.panic c) (Act.put a d v) w → Q (.panic c) a w) (hS : S w.drew) (h : LexY P l.toArray Q S z (lexL l k) a w.drew) : (Code.region id l.toArray true).wp P Q a w := by
  simp only [Bool.and_eq_true, decide_eq_true_eq] at hB
  obtain ⟨⟨⟨⟨⟨b1, b2⟩, b3⟩, b4⟩, b5⟩, b6⟩ := hB
  have h1 := h.out (lexL_at l k)
  rw [lexL_map l k b5] at h1
  refine wp_region_any hm ?_
  have := (lexY_any b1 b2 hQ k _ a w.drew b6 (CL.start _) b3 (fun _ => hS) h1).any
  rw [b4] at this
  exact this

theorem lexY_free {i : Nat} {o : Oper} {v : Value} {r : List (Bool × Nat × Oper)} {a : Act} {w : World} (hw : Region.wanted o (yielded ops a.tmps) = true) (hy : ∀ w', S w' → (execOp a.eval o).run P w' = .ok (.value v) w')
    (h : LexY P ops Q S z r (a.put o.dst v) w) : LexY P ops Q S z ((false, i, o) :: r) a w := ⟨fun hall => ⟨o, v, hall _ List.mem_cons_self, Or.inl ⟨hw, hy⟩, h.out (fun t ht => hall t (List.mem_cons_of_mem _ ht))⟩⟩
theorem lexY_sole {i : Nat} {o : Oper} {r : List (Bool × Nat × Oper)} {a : Act} {w : World}
    (h : ∀ K' : Act → World → Prop, Shut (∀ a w, S w → LexY P ops Q S z r a w → K' a w) → if Region.wanted o (yielded ops a.tmps) = true then Oper.wp P o a w K' Q else K' (a.put o.dst undef) w) : LexY P ops Q S z ((true, i, o) :: r) a w :=
  ⟨fun hall => wpOp_step (hall _ List.mem_cons_self) (fun K' hK => h K' (fun a w hS hW => hK a w ⟨fun _ => hS, hW.out (fun t ht => hall t (List.mem_cons_of_mem _ ht))⟩))⟩
theorem lexY_last {o : Oper} {a : Act} {w : World}
    (h : ∀ K' : Act → World → Prop, Shut (∀ a w, Q .normal a w → K' a w) → if Region.wanted o (yielded ops a.tmps) = true then Oper.wp P o a w K' Q else K' (a.put o.dst undef) w) : LexY P ops Q S z [(true, z, o)] a w :=
  ⟨fun hall => wpOp_step (hall _ List.mem_cons_self) (fun K' hK => h K' (fun a w hW => hK a w ⟨fun h0 => absurd rfl h0, hW⟩))⟩
end
end Go.Proofs.YtkafkipjedpohaaGreatDoor

/-
  upshiftlaw's Hold.keepState: what it goes through.
-/
namespace Go.Proofs.YtkafkipjedpohaaGreatDoor
open Go.RowKit

/-- The tags of lists that are kept behind i frames and j arrays. -/
def Kt (i j : Nat) (d : Nat) : Prop := d = 9 ∨ (∃ k, k < i ∧ (d = 11 + 4 * k ∨ d = 12 + 4 * k)) ∨ (∃ k, k < j ∧ d = 13 + 4 * k)
theorem Kt_wt {i j d : Nat} (h : Kt i j d) : ¬ Wt d := by
  unfold Wt
  rcases h with h | ⟨k, _, h⟩ | ⟨k, _, h⟩ <;> omega
theorem Kt_low {i j d : Nat} (h : Kt i j d) : d ≠ 1 ∧ d ≠ 2 := by
  rcases h with h | ⟨k, _, h⟩ | ⟨k, _, h⟩ <;> omega

/-- A state of nf frames and na arrays, of which the lists of i frames and j arrays are kept. -/
structure KSt (wr : World) (B wb sb : Nat) (A : AdH) (fv av : Value) (LV SV AV : Nat → Value) (fr : Nat → Fr) (nf na : Nat) (arr : List (List V)) (n : Nat → Nat) (i j : Nat) : Prop where
  hold : HoldAt wr B wb A (Kt i j) n
  box : wr.heap[sb]? = some (.cells #[fv, av] 53 (0, 0))
  t9 : A.tag sb = 9
  rf : Row wr B A.tag 1 73 4 fv nf (gcell fr LV SV)
  ra : Row wr B A.tag 2 44 1 av na AV
  loc : ∀ k, i ≤ k → k < nf → Row wr B A.tag (11 + 4 * k) 43 2 (LV k) (fr k).loc.length (vcell (fr k).loc)
  stk : ∀ k, i ≤ k → k < nf → Row wr B A.tag (12 + 4 * k) 43 2 (SV k) (fr k).stk.length (vcell (fr k).stk.reverse)
  arr : ∀ k, j ≤ k → k < na → Row wr B A.tag (13 + 4 * k) 43 2 (AV k) (arr.getD k []).length (vcell (arr.getD k []))

theorem Row.slc {w : World} {B : Nat} {tag : Nat → Nat} {c : Nat} {e : TypeId} {sz : Nat} {v : Value} {n : Nat} {f : Nat → Value} (h : Row w B tag c e sz v n f) : ∃ p cap, v = .slice p n cap := by
  rcases h with ⟨h1, h2⟩ | ⟨b, cap, cur, h1, _⟩
  · exact ⟨none, 0, by rw [h1, h2]⟩
  · exact ⟨_, _, h1⟩

/-- What the keeps of a state's lists turn. -/
def Kp0 (d : Nat) : Prop := d = 0 ∨ d = 5 ∨ 10 ≤ d

theorem upd_upd {α : Type} (f : Nat → α) (k : Nat) (a b : α) : upd (upd f k a) k b = upd f k b := by
  funext i
  unfold upd
  split <;> rfl

/-- The locals of frame i are kept, then its stack. -/
theorem KSt.loc1 {wr w1 : World} {B wb sb : Nat} {A A1 : AdH} {fv av : Value} {LV SV AV : Nat → Value} {fr : Nat → Fr} {nf na : Nat} {arr : List (List V)} {n n1 : Nat → Nat} {i j : Nat} (h : KSt wr B wb sb A fv av LV SV AV fr nf na arr n i j)
    (_h1 : HoldAt w1 B wb A1 (fun d => Kt i j d ∨ d = 11 + 4 * i) n1) (k : Ch B (fun d => d = 0 ∨ d = 5 ∨ d = 11 + 4 * i) A.tag A1.tag wr w1) (hi : i < nf) :
    w1.heap[sb]? = some (.cells #[fv, av] 53 (0, 0)) ∧ A1.tag sb = 9 ∧ Row w1 B A1.tag 1 73 4 fv nf (gcell fr LV SV) ∧ Row w1 B A1.tag (12 + 4 * i) 43 2 (SV i) (fr i).stk.length (vcell (fr i).stk.reverse) := by
  have hz := heap_lt h.box
  exact ⟨(k.block sb hz (Or.inr (by rw [h.t9]; omega))).trans h.box, (k.tags sb hz).trans h.t9, h.rf.keep k (by omega), (h.stk i (Nat.le_refl _) hi).keep k (by omega)⟩

theorem KSt.stk1 {wr w1 w2 : World} {B wb sb : Nat} {A A1 A2 : AdH} {fv av : Value} {LV SV AV : Nat → Value} {fr : Nat → Fr} {nf na : Nat} {arr : List (List V)} {n n2 : Nat → Nat} {i j : Nat} (h : KSt wr B wb sb A fv av LV SV AV fr nf na arr n i j)
    (k : Ch B (fun d => d = 0 ∨ d = 5 ∨ d = 11 + 4 * i) A.tag A1.tag wr w1) (h2 : HoldAt w2 B wb A2 (fun d => (Kt i j d ∨ d = 11 + 4 * i) ∨ d = 12 + 4 * i) n2) (k2 : Ch B (fun d => d = 0 ∨ d = 5 ∨ d = 12 + 4 * i) A1.tag A2.tag w1 w2) :
    KSt w2 B wb sb A2 fv av LV SV AV fr nf na arr n2 (i + 1) j ∧ Ch B Kp0 A.tag A2.tag wr w2 := by
  have hz := heap_lt h.box
  have kk : Ch B (fun d => d = 0 ∨ d = 5 ∨ d = 11 + 4 * i ∨ d = 12 + 4 * i) A.tag A2.tag wr w2 := (k.mono (fun d hd => by omega)).trans (k2.mono (fun d hd => by omega))
  refine ⟨⟨?_, (kk.block sb hz (Or.inr (by rw [h.t9]; omega))).trans h.box, (kk.tags sb hz).trans h.t9, h.rf.keep kk (by omega), h.ra.keep kk (by omega), fun m hm hmn => (h.loc m (by omega) hmn).keep kk (by omega), fun m hm hmn => (h.stk m (by omega) hmn).keep kk (by omega), fun m hm hmn => (h.arr m hm hmn).keep kk (by omega)⟩, kk.mono (fun d hd => by unfold Kp0; omega)⟩
  refine h2.retag (tag' := A2.tag) (fun b _ _ => rfl) (fun b _ hb => ?_) (fun d hd => Kt_wt hd)
  rcases hb with (hb | hb) | hb
  · rcases hb with hb | ⟨m, hm, hb⟩ | hb
    · exact Or.inl hb
    · exact Or.inr (Or.inl ⟨m, by omega, hb⟩)
    · exact Or.inr (Or.inr hb)
  · exact Or.inr (Or.inl ⟨i, by omega, Or.inl hb⟩)
  · exact Or.inr (Or.inl ⟨i, by omega, Or.inr hb⟩)

/-- An array is kept. -/
theorem KSt.arr1 {wr w1 : World} {B wb sb : Nat} {A A1 : AdH} {fv av : Value} {LV SV AV : Nat → Value} {fr : Nat → Fr} {nf na : Nat} {arr : List (List V)} {n n1 : Nat → Nat} {i j : Nat} (h : KSt wr B wb sb A fv av LV SV AV fr nf na arr n i j)
    (h1 : HoldAt w1 B wb A1 (fun d => Kt i j d ∨ d = 13 + 4 * j) n1) (k : Ch B (fun d => d = 0 ∨ d = 5 ∨ d = 13 + 4 * j) A.tag A1.tag wr w1) :
    KSt w1 B wb sb A1 fv av LV SV AV fr nf na arr n1 i (j + 1) ∧ Ch B Kp0 A.tag A1.tag wr w1 := by
  have hz := heap_lt h.box
  refine ⟨⟨?_, (k.block sb hz (Or.inr (by rw [h.t9]; omega))).trans h.box, (k.tags sb hz).trans h.t9, h.rf.keep k (by omega), h.ra.keep k (by omega), fun m hm hmn => (h.loc m hm hmn).keep k (by omega), fun m hm hmn => (h.stk m hm hmn).keep k (by omega), fun m hm hmn => (h.arr m (by omega) hmn).keep k (by omega)⟩, k.mono (fun d hd => by unfold Kp0; omega)⟩
  refine h1.retag (tag' := A1.tag) (fun b _ _ => rfl) (fun b _ hb => ?_) (fun d hd => Kt_wt hd)
  rcases hb with hb | hb
  · rcases hb with hb | hb | ⟨m, hm, hb⟩
    · exact Or.inl hb
    · exact Or.inr (Or.inl hb)
    · exact Or.inr (Or.inr ⟨m, by omega, hb⟩)
  · exact Or.inr (Or.inr ⟨j, by omega, hb⟩)

theorem not_kt_loc (i j : Nat) : ¬ Kt i j (11 + 4 * i) := by
  rintro (h | ⟨k, hk, h⟩ | ⟨k, hk, h⟩) <;> omega
theorem not_kt_stk (i j : Nat) : ¬ (Kt i j (12 + 4 * i) ∨ 12 + 4 * i = 11 + 4 * i) := by
  rintro ((h | ⟨k, hk, h⟩ | ⟨k, hk, h⟩) | h) <;> omega
theorem not_kt_arr (i j : Nat) : ¬ Kt i j (13 + 4 * j) := by
  rintro (h | ⟨k, hk, h⟩ | ⟨k, hk, h⟩) <;> omega

/-- While frames are written full. -/
def fillF (q j : Nat) (f : Nat → Value) (i : Nat) : Value := if i < j * 4 then fmark q (i % 4) else f i
theorem fillF_set (q j : Nat) (f : Nat → Value) (i : Nat) : upd (upd (upd (upd (fillF q j f) (j * 4) (.int .i64 (mrk q))) (j * 4 + 1) (.int .i64 0)) (j * 4 + 2) (.slice none 0 0)) (j * 4 + 3) (.slice none 0 0) i = fillF q (j + 1) f i := by
  by_cases h3 : i = j * 4 + 3
  · subst h3
    rw [upd_same]
    unfold fillF fmark
    rw [if_pos (by omega), if_neg (by omega), if_neg (by omega)]
  rw [upd_other _ _ _ _ h3]
  by_cases h2 : i = j * 4 + 2
  · subst h2
    rw [upd_same]
    unfold fillF fmark
    rw [if_pos (by omega), if_neg (by omega), if_neg (by omega)]
  rw [upd_other _ _ _ _ h2]
  by_cases h1 : i = j * 4 + 1
  · subst h1
    rw [upd_same]
    unfold fillF fmark
    rw [if_pos (by omega), if_neg (by omega), if_pos (by omega)]
  rw [upd_other _ _ _ _ h1]
  by_cases h0 : i = j * 4
  · subst h0
    rw [upd_same]
    unfold fillF fmark
    rw [if_pos (by omega), if_pos (by omega)]
  rw [upd_other _ _ _ _ h0]
  unfold fillF
  by_cases h : i < j * 4
  · rw [if_pos h, if_pos (by omega)]
  · rw [if_neg h, if_neg (by omega)]

theorem fmark_at (q : Nat) (mv : Int) (hm : mrk q = mv) (k : Nat) (hk : k = 1 ∨ k = 2 ∨ k = 3) : ∃ news : List Value, news = (if k = 1 then [.int .i64 mv, .int .i64 0, .slice none 0 0, .slice none 0 0] else if k = 2 then [.int .i64 mv, .int .i64 0, .slice none 0 0, .slice none 0 0, .int .i64 mv, .int .i64 0, .slice none 0 0, .slice none 0 0] else [.int .i64 mv, .int .i64 0, .slice none 0 0, .slice none 0 0, .int .i64 mv, .int .i64 0, .slice none 0 0, .slice none 0 0, .int .i64 mv, .int .i64 0, .slice none 0 0, .slice none 0 0]) ∧ news.length = k * 4 ∧ (∀ r, r < k * 4 → news[r]? = some (fmark q (r % 4))) ∧ ∀ u, u ∈ news → u.oneCell' = true := by
  have v0 : fmark q 0 = .int .i64 mv := by unfold fmark; rw [if_pos rfl, hm]
  have v1 : fmark q 1 = .int .i64 0 := rfl
  have v2 : fmark q 2 = .slice none 0 0 := rfl
  have v3 : fmark q 3 = .slice none 0 0 := rfl
  rcases hk with rfl | rfl | rfl
  · refine ⟨_, rfl, rfl, fun r hr => ?_, fun u hu => ?_⟩
    · have : r = 0 ∨ r = 1 ∨ r = 2 ∨ r = 3 := by omega
      rcases this with rfl | rfl | rfl | rfl
      · exact congrArg some v0.symm
      · exact congrArg some v1.symm
      · exact congrArg some v2.symm
      · exact congrArg some v3.symm
    · simp at hu
      rcases hu with rfl | rfl | rfl <;> rfl
  · refine ⟨_, rfl, rfl, fun r hr => ?_, fun u hu => ?_⟩
    · have : r = 0 ∨ r = 1 ∨ r = 2 ∨ r = 3 ∨ r = 4 ∨ r = 5 ∨ r = 6 ∨ r = 7 := by omega
      rcases this with rfl | rfl | rfl | rfl | rfl | rfl | rfl | rfl
      · exact congrArg some v0.symm
      · exact congrArg some v1.symm
      · exact congrArg some v2.symm
      · exact congrArg some v3.symm
      · exact congrArg some v0.symm
      · exact congrArg some v1.symm
      · exact congrArg some v2.symm
      · exact congrArg some v3.symm
    · simp at hu
      rcases hu with rfl | rfl | rfl | rfl | rfl | rfl <;> rfl
  · refine ⟨_, rfl, rfl, fun r hr => ?_, fun u hu => ?_⟩
    · have : r = 0 ∨ r = 1 ∨ r = 2 ∨ r = 3 ∨ r = 4 ∨ r = 5 ∨ r = 6 ∨ r = 7 ∨ r = 8 ∨ r = 9 ∨ r = 10 ∨ r = 11 := by omega
      rcases this with rfl | rfl | rfl | rfl | rfl | rfl | rfl | rfl | rfl | rfl | rfl | rfl
      · exact congrArg some v0.symm
      · exact congrArg some v1.symm
      · exact congrArg some v2.symm
      · exact congrArg some v3.symm
      · exact congrArg some v0.symm
      · exact congrArg some v1.symm
      · exact congrArg some v2.symm
      · exact congrArg some v3.symm
      · exact congrArg some v0.symm
      · exact congrArg some v1.symm
      · exact congrArg some v2.symm
      · exact congrArg some v3.symm
    · simp at hu
      rcases hu with rfl | rfl | rfl | rfl | rfl | rfl | rfl | rfl | rfl <;> rfl

theorem step_append_run {P : Program} (w : World) {ops : Array Oper} {o : Oper} {a : Act} {K : Act → World → Prop} {Q : Exit → Act → World → Prop} {E : Prop}
    (hg : o.guard = none) (x y : Operand) (t : TypeId) (hop : o.op = Op.call { callee := Callee.builtin Builtin.append, args := #[x, y], argTypes := #[t, t] })
    (vx vy v : Value) (w' : World) (hx : a.eval x = vx) (hy : a.eval y = vy) (hrun : (Builtin.append_ #[t, t] o.type #[vx, vy]).run P w = .ok v w')
    (hK : K (a.put o.dst v) w') : if Region.wanted o (yielded ops a.tmps) = true then Oper.wp P o a w K Q else E := by
  have hw : Region.wanted o (yielded ops a.tmps) = true := by simp [Region.wanted, hg]
  rw [if_pos hw]
  unfold Oper.wp
  simp [execOp, hop, resolve, invoke, builtin, hx, hy, hrun, Result.andThen]
  exact hK
theorem Tryz.infoFrameU : (Tryz.prog.info? 73).map (fun i => (i.zero, i.size, i.bytes)) = some (some (.agg #[.int .i64 0, .int .i64 0, .slice none 0 0, .slice none 0 0]), 4, 64) := by kernel_rfl

/-- Where keepState stands while it writes the frames full. -/
def FAt (W1 : World) (B : Nat) (t : Nat → Nat) (lv : Value) (nl q j : Nat) (f : Nat → Value) (wr : World) : Prop :=
  Row wr B t 1 73 4 lv nl (fillF q j f) ∧ Ch B (fun d => d = 1) t t W1 wr

/-- Where keepState stands in its first two loops. -/
def StAt (W : World) (t0 : Nat → Nat) (B wb sb : Nat) (A : AdH) (fv av : Value) (LV SV AV : Nat → Value) (fr : Nat → Fr) (nf na : Nat) (arr : List (List V)) (n : Nat → Nat) (q i j : Nat) (wr : World) : Prop :=
  ∃ A1 : AdH, KSt wr B wb sb A1 fv av LV SV AV fr nf na arr (upd n 0 (4 * (q + 2 * i + j))) i j ∧ A1.cv = A.cv ∧ A1.pv = A.pv ∧ A1.XB = A.XB ∧ Ch B Kp0 t0 A1.tag W wr

/-- The mark of the arrays that are kept next. -/
theorem HoldAt.setX {w : World} {B wb : Nat} {A : AdH} {Kd : Nat → Prop} {n : Nat → Nat} (h : HoldAt w B wb A Kd n) (q x : Nat) (hq : n 2 = 4 * q) : HoldAt w B wb { A with XB := upd A.XB q x } Kd n := by
  refine ⟨h.blk, h.own, h.le, h.kd, h.row, fun k hk i hi => ?_, fun i hi => ?_⟩
  · have he := h.ent k hk i hi
    by_cases e : k = 2
    · subst e
      show Full w B A.tag Kd 1 (A.HV 2 i) (fun _ => .slice (some ⟨upd A.XB q x (i / 4), 0, none⟩) 1 1)
      rw [upd_other _ _ _ _ (by omega)]
      exact he
    · have : k = 0 ∨ k = 1 ∨ k = 3 := by omega
      rcases this with rfl | rfl | rfl <;> exact he
  · have he := h.ex i hi
    rw [show ({ A with XB := upd A.XB q x } : AdH).XB (i / 4) = A.XB (i / 4) from upd_other _ _ _ _ (by omega)]
    exact he

/-- While arrays are written full. -/
def fillA (x : Value) (k : Nat) (f : Nat → Value) (i : Nat) : Value := if i < k then x else f i
theorem fillA_set (x : Value) (k : Nat) (f : Nat → Value) (i : Nat) : upd (fillA x k f) k x i = fillA x (k + 1) f i := by
  by_cases h1 : i = k
  · subst h1
    rw [upd_same]
    unfold fillA
    rw [if_pos (by omega)]
  · rw [upd_other _ _ _ _ h1]
    unfold fillA
    by_cases h3 : i < k
    · rw [if_pos h3, if_pos (by omega)]
    · rw [if_neg h3, if_neg (by omega)]
def AAt (V1 : World) (B : Nat) (t : Nat → Nat) (lv : Value) (nl : Nat) (x : Value) (k : Nat) (f : Nat → Value) (wr : World) : Prop :=
  Row wr B t 2 44 1 lv nl (fillA x k f) ∧ Ch B (fun d => d = 2) t t V1 wr
theorem amark_at (x : Value) (hx : x.oneCell' = true) (k : Nat) (hk : k = 1 ∨ k = 2 ∨ k = 3) : ∃ news : List Value, news = (if k = 1 then [x] else if k = 2 then [x, x] else [x, x, x]) ∧ news.length = k * 1 ∧ (∀ r, r < k * 1 → news[r]? = some ((fun _ : Nat => x) (r % 1))) ∧ ∀ u, u ∈ news → u.oneCell' = true := by
  rcases hk with rfl | rfl | rfl
  · refine ⟨_, rfl, rfl, fun r hr => ?_, fun u hu => ?_⟩
    · obtain rfl : r = 0 := by omega
      rfl
    · simp at hu
      rw [hu]; exact hx
  · refine ⟨_, rfl, rfl, fun r hr => ?_, fun u hu => ?_⟩
    · have : r = 0 ∨ r = 1 := by omega
      rcases this with rfl | rfl <;> rfl
    · simp at hu
      rw [hu]; exact hx
  · refine ⟨_, rfl, rfl, fun r hr => ?_, fun u hu => ?_⟩
    · have : r = 0 ∨ r = 1 ∨ r = 2 := by omega
      rcases this with rfl | rfl | rfl <;> rfl
    · simp at hu
      rw [hu]; exact hx

/-- What keepState leaves. -/
def StateE (w : World) (B wb : Nat) (A : AdH) (n : Nat → Nat) (q q1 q2 nf na : Nat) (e : Ending) (w' : World) : Prop :=
  e = .returned (.tuple #[]) ∧
      ∃ (A' : AdH) (n' : Nat → Nat), HoldAt w' B wb A' (fun d => d = 9) n' ∧ n' 0 = 4 * (q + 2 * nf + na) ∧ n' 1 = 4 * (q1 + 1) ∧ n' 2 = 4 * (q2 + 1) ∧ n' 3 = n 3 ∧ A'.cv = A.cv ∧ A'.pv = A.pv ∧
        (∀ b, b < w.heap.size → (b < B ∨ A.tag b = 3 ∨ A.tag b = 4 ∨ A.tag b = 9) → w'.heap[b]? = w.heap[b]?) ∧ (∀ b, b < w.heap.size → (A.tag b = 3 ∨ A.tag b = 4 ∨ A.tag b = 9) → A'.tag b = A.tag b) ∧ Below B w w'

set_option maxRecDepth 100000 in
set_option maxHeartbeats 4000000 in
theorem keepState_any (w : World) (B wb : Nat) (A : AdH) (fp ap : Option Addr) (fc ac : Nat) (LV SV AV : Nat → Value) (fr : Nat → Fr) (nf na : Nat) (arr : List (List V)) (n : Nat → Nat) (q q1 q2 : Nat)
    (h : HoldAt w B wb A (fun d => d = 9) n) (hf : FrsOut w B A.tag (.slice fp nf fc) LV SV fr nf) (ha : ArsOut w B A.tag (.slice ap na ac) AV arr na) (hq : n 0 = 4 * q) (hq1 : n 1 = 4 * q1) (hq2 : n 2 = 4 * q2) (hqb : q + 2 * nf + na ≤ 1000000000000) (hqb1 : q1 ≤ 1000000000000) (hqb2 : q2 ≤ 1000000000000) (hnf : nf ≤ 24) (hna : na ≤ 100000) (hls : ∀ k, k < nf → (fr k).loc.length ≤ 200000 ∧ (fr k).stk.length ≤ 200000) (hal : ∀ k, k < na → (arr.getD k []).length ≤ 200000) :
    Calls Tryz.prog 60 #[.pointer (some ⟨wb, 2, none⟩), .agg #[.slice fp nf fc, .slice ap na ac]] w (StateE w B wb A n q q1 q2 nf na) := by
  have hst : StAt (w.alloc (.cells #[.slice fp nf fc, .slice ap na ac] 53)) (upd A.tag w.heap.size 9) B wb w.heap.size A (.slice fp nf fc) (.slice ap na ac) LV SV AV fr nf na arr n q 0 0 (w.alloc (.cells #[.slice fp nf fc, .slice ap na ac] 53)) := by
    have c0 : Ch B (fun _ => False) A.tag (upd A.tag w.heap.size 9) w (w.alloc (.cells #[.slice fp nf fc, .slice ap na ac] 53)) := Ch.of_tags ((Below.refl _ _).alloc (Nat.le_refl _) _) (fun b hb => upd_other _ _ _ _ (by omega))
    have e0 : upd n 0 (4 * (q + 2 * 0 + 0)) = n := by
      funext i
      unfold upd
      split
      · rename_i e; rw [e, hq]; omega
      · rfl
    refine ⟨{ A with tag := upd A.tag w.heap.size 9 }, ⟨?_, Go.Deep.blk_alloc_new _ _, upd_same _ _ _, hf.row.keep c0 (fun h => h), ha.row.keep c0 (fun h => h), fun k _ hk => (hf.loc k hk).keep c0 (fun h => h), fun k _ hk => (hf.stk k hk).keep c0 (fun h => h), fun k _ hk => (ha.arr k hk).keep c0 (fun h => h)⟩, rfl, rfl, rfl, Ch.refl _ _ _ _⟩
    rw [e0]
    exact (h.keep c0 (fun _ _ h => h)).retag (tag' := upd A.tag w.heap.size 9) (fun b _ _ => rfl) (fun b _ hb => Or.inl hb) (fun d hd => Kt_wt hd)
  have HX := hid (And.intro h (And.intro hf (And.intro ha (And.intro hq (And.intro hq1 (And.intro hq2 (And.intro hls hal)))))))
  have HS := hid hst
  clear h hf ha hst hq hq1 hq2 hls hal
  go_enter Tryz.func60, Tryz.ntmps60
  go_wp2
  generalize hW : w.alloc (.cells #[.slice fp nf fc, .slice ap na ac] 53) = W at *
  generalize hsb : w.heap.size = sb at *
  have HW := hid (And.intro hW hsb)
  clear hW hsb
  go_loopw [4] (fun v wr => ∃ i : Nat, i ≤ nf ∧ v = .int .i64 i ∧ StAt W (upd A.tag sb 9) B wb sb A (.slice fp nf fc) (.slice ap na ac) LV SV AV fr nf na arr n q i 0 wr) (fun v _ => nf - (intOf v).toNat)
  case atStart => exact ⟨0, Nat.zero_le _, rfl, HS.out⟩
  case round =>
    clear HS
    obtain ⟨i, hi, rfl, A1, k1, cv1, pv1, xb1, ch1⟩ := hrel
    have s0 : wr.cell? ⟨sb, 0, none⟩ = some (.slice fp nf fc) := (cell_heap k1.box).trans rfl
    have s1 : wr.cell? ⟨sb, 1, none⟩ = some (.slice ap na ac) := (cell_heap k1.box).trans rfl
    by_cases hlt : i < nf
    · have hd : decide ((i : Int) < (nf : Int)) = true := by simp; omega
      obtain ⟨fb, fcap, e1, _, _, _, _⟩ := k1.rf.form (by omega)
      have hrf := k1.rf
      injection e1 with e1 _ e3
      subst e1
      subst e3
      have f2 := hrf.cell (i := i * 4 + 2) (by omega)
      have e2 : gcell fr LV SV (i * 4 + 2) = LV i := by unfold gcell; rw [if_neg (by omega), if_neg (by omega), if_pos (by omega), show (i * 4 + 2) / 4 = i by omega]
      have e3 : gcell fr LV SV (i * 4 + 3) = SV i := by unfold gcell; rw [if_neg (by omega), if_neg (by omega), if_neg (by omega), show (i * 4 + 3) / 4 = i by omega]
      rw [e2] at f2
      obtain ⟨lp, lc, hlv⟩ := (k1.loc i (Nat.le_refl _) hlt).slc
      obtain ⟨sp, sc, hsv⟩ := (k1.stk i (Nat.le_refl _) hlt).slc
      rw [hlv] at f2
      have hl1 := k1.loc i (Nat.le_refl _) hlt
      rw [hlv] at hl1
      have HK := hid (keep_any wr B wb A1 (Kt i 0) _ (q + 2 * i + 0) (11 + 4 * i) lp lc _ _ k1.hold (upd_same _ _ _) (by omega) hl1 (HX.out.2.2.2.2.2.2.1 i hlt).1 (not_kt_loc i 0) (by unfold Wt; omega) (by omega))
      have H1 := hid (And.intro k1 (And.intro cv1 (And.intro pv1 (And.intro xb1 (And.intro ch1 (And.intro hsv e3))))))
      generalize hll : (fr i).loc.length = ll at *
      have hll2 : ll ≤ 200000 := by have := (HX.out.2.2.2.2.2.2.1 i hlt).1; omega
      clear k1 cv1 pv1 xb1 ch1 hl1 hlv hsv e2 e3 hrf hll
      go_wp2_with fail
      refine HK.out.mono ?_
      rintro e w2 ⟨rfl, A2, h2, cv2, pv2, xb2, ch2⟩
      obtain ⟨k1, cv1, pv1, xb1, ch1, hsv, e3⟩ := H1.out
      obtain ⟨bx2, t92, rf2, rs2⟩ := k1.loc1 h2 ch2 hlt
      have s02 : w2.cell? ⟨sb, 0, none⟩ = some (.slice (some ⟨fb, 0, none⟩) nf fc) := (cell_heap bx2).trans rfl
      have f3 := rf2.cell (i := i * 4 + 3) (by omega)
      rw [e3, hsv] at f3
      rw [hsv] at rs2
      have HK2 := hid (keep_any w2 B wb A2 _ _ (q + 2 * i + 0 + 1) (12 + 4 * i) sp sc _ _ h2 (upd_same _ _ _) (by omega) rs2 (HX.out.2.2.2.2.2.2.1 i hlt).2 (not_kt_stk i 0) (by unfold Wt; omega) (by omega))
      have H2 := hid (And.intro ch2 (And.intro cv2 (And.intro pv2 xb2)))
      generalize hll : (fr i).stk.length = ls at *
      have hls2 : ls ≤ 200000 := by have := (HX.out.2.2.2.2.2.2.1 i hlt).2; omega
      clear k1 cv1 pv1 xb1 ch1 hsv e3 bx2 t92 rf2 rs2 h2 cv2 pv2 xb2 ch2 HK s0 s1 f2 hll
      go_wp2_with fail
      refine HK2.out.mono ?_
      rintro e w3 ⟨rfl, A3, h3, cv3, pv3, xb3, ch3⟩
      have HN := hid (show StAt W (upd A.tag sb 9) B wb sb A (.slice (some ⟨fb, 0, none⟩) nf fc) (.slice ap na ac) LV SV AV fr nf na arr n q (i + 1) 0 w3 from by
        obtain ⟨k1, cv1, pv1, xb1, ch1, hsv, e3⟩ := H1.out
        obtain ⟨ch2, cv2, pv2, xb2⟩ := H2.out
        obtain ⟨k3, c3⟩ := k1.stk1 ch2 h3 ch3
        refine ⟨A3, ?_, by rw [cv3, cv2, cv1], by rw [pv3, pv2, pv1], by rw [xb3, xb2, xb1], ch1.trans c3⟩
        rw [upd_upd, upd_upd, show q + 2 * i + 0 + 1 + 1 = q + 2 * (i + 1) + 0 by omega] at k3
        exact k3)
      clear h3 cv3 pv3 xb3 ch3 HK2 H1 H2 s02 f3
      go_wp2
      exact ⟨⟨i + 1, by omega, by go_num, HN.out⟩, by simp [intOf]; omega⟩
    · have hd : decide ((i : Int) < (nf : Int)) = false := by simp; omega
      obtain rfl : i = nf := by omega
      have HT := hid (show StAt W (upd A.tag sb 9) B wb sb A (.slice fp i fc) (.slice ap na ac) LV SV AV fr i na arr n q i 0 wr from ⟨A1, k1, cv1, pv1, xb1, ch1⟩)
      clear k1 cv1 pv1 xb1 ch1
      go_wp2
      clear s0 s1
      go_loopw [5] (fun v wz => ∃ j : Nat, j ≤ na ∧ v = .int .i64 j ∧ StAt W (upd A.tag sb 9) B wb sb A (.slice fp i fc) (.slice ap na ac) LV SV AV fr i na arr n q i j wz) (fun v _ => na - (intOf v).toNat)
      case atStart => exact ⟨0, Nat.zero_le _, rfl, HT.out⟩
      case round =>
        clear HT
        obtain ⟨j, hj, rfl, A1, k1, cv1, pv1, xb1, ch1⟩ := hrel
        have s0 : wr.cell? ⟨sb, 0, none⟩ = some (.slice fp i fc) := (cell_heap k1.box).trans rfl
        have s1 : wr.cell? ⟨sb, 1, none⟩ = some (.slice ap na ac) := (cell_heap k1.box).trans rfl
        by_cases hlt : j < na
        · have hd : decide ((j : Int) < (na : Int)) = true := by simp; omega
          obtain ⟨ab, acap, e1, _, _, _, _⟩ := k1.ra.form (by omega)
          have hra := k1.ra
          injection e1 with e1 _ e3
          subst e1
          subst e3
          have f2 := hra.cell (i := j) (by omega)
          obtain ⟨lp, lc, hlv⟩ := (k1.arr j (Nat.le_refl _) hlt).slc
          rw [hlv] at f2
          have hl1 := k1.arr j (Nat.le_refl _) hlt
          rw [hlv] at hl1
          have HK := hid (keep_any wr B wb A1 (Kt i j) _ (q + 2 * i + j) (13 + 4 * j) lp lc _ _ k1.hold (upd_same _ _ _) (by omega) hl1 (HX.out.2.2.2.2.2.2.2 j hlt) (not_kt_arr i j) (by unfold Wt; omega) (by omega))
          have H1 := hid (And.intro k1 (And.intro cv1 (And.intro pv1 (And.intro xb1 ch1))))
          generalize hll : (arr.getD j []).length = ll at *
          have hll2 : ll ≤ 200000 := by have := HX.out.2.2.2.2.2.2.2 j hlt; omega
          clear k1 cv1 pv1 xb1 ch1 hl1 hlv hra hll
          go_wp2_with fail
          refine HK.out.mono ?_
          rintro e w2 ⟨rfl, A2, h2, cv2, pv2, xb2, ch2⟩
          have HN := hid (show StAt W (upd A.tag sb 9) B wb sb A (.slice fp i fc) (.slice (some ⟨ab, 0, none⟩) na ac) LV SV AV fr i na arr n q i (j + 1) w2 from by
            obtain ⟨k1, cv1, pv1, xb1, ch1⟩ := H1.out
            obtain ⟨k3, c3⟩ := k1.arr1 h2 ch2
            refine ⟨A2, ?_, by rw [cv2, cv1], by rw [pv2, pv1], by rw [xb2, xb1], ch1.trans c3⟩
            rw [upd_upd, show q + 2 * i + j + 1 = q + 2 * i + (j + 1) by omega] at k3
            exact k3)
          clear h2 cv2 pv2 xb2 ch2 HK H1 s0 s1 f2
          go_wp2
          exact ⟨⟨j + 1, by omega, by go_num, HN.out⟩, by simp [intOf]; omega⟩
        · have hd : decide ((j : Int) < (na : Int)) = false := by simp; omega
          obtain rfl : j = na := by omega
          have hrv := k1.hold.row 1 (by omega)
          have hq1 : upd n 0 (4 * (q + 2 * i + j)) 1 = 4 * q1 := by rw [upd_other _ _ _ _ (by omega)]; exact HX.out.2.2.2.2.1
          rw [hq1] at hrv
          obtain ⟨vp, vc, hvv⟩ := hrv.slc
          have x3 : wr.cell? ⟨wb, 3, none⟩ = some (.slice vp (4 * q1) vc) := by rw [cell_heap k1.hold.blk, ← hvv]; rfl
          have hwbz := heap_lt k1.hold.blk
          have hsbz := heap_lt k1.box
          have e1 : Int.tdiv (4 * (q1 : Int)) 4 = (q1 : Int) := by rw [Int.mul_comm]; exact Int.mul_tdiv_cancel _ (by omega)
          have e2 : wrap64 (-1000 - (q1 : Int)) = -1000 - (q1 : Int) := by unfold wrap64; omega
          have HT := hid (And.intro k1 (And.intro cv1 (And.intro pv1 (And.intro xb1 (And.intro ch1 (And.intro hq1 hvv))))))
          clear k1 cv1 pv1 xb1 ch1 hrv hq1 hvv
          go_wp2
          clear e1 e2 s1 x3
          generalize hmv : (-1000 - (q1 : Int)) = mv at *
          have HMV := hid hmv
          clear hmv
          obtain ⟨W1, hW1⟩ : ∃ W1, W1 = wr.alloc (.cells #[.int .i64 mv, .int .i64 0, .slice none 0 0, .slice none 0 0] 73) := ⟨_, rfl⟩
          have hbm : W1.heap[wr.heap.size]? = some (.cells #[.int .i64 mv, .int .i64 0, .slice none 0 0, .slice none 0 0] 73 (0, 0)) := by rw [hW1]; exact Go.Deep.blk_alloc_new _ _
          obtain ⟨t1, ht1⟩ : ∃ t1, t1 = upd A1.tag wr.heap.size 9 := ⟨_, rfl⟩
          have c1 : Ch B (fun _ => False) A1.tag t1 wr W1 := by rw [ht1, hW1]; exact Ch.of_tags ((Below.refl _ _).alloc (Nat.le_refl _) _) (fun b hb => upd_other _ _ _ _ (by omega))
          have t9 : t1 wr.heap.size = 9 := by rw [ht1]; exact upd_same _ _ _
          have HC1 := hid (And.intro c1 (And.intro t9 hbm))
          rw [← hW1]
          clear c1 t9 ht1 hbm hW1
          generalize hmb : wr.heap.size = mb at *
          have HMB := hid hmb
          clear hmb s0
          go_loopw [7] (fun v wz => ∃ k : Nat, k ≤ i ∧ v = .int .i64 k ∧ FAt W1 B t1 (.slice fp i fc) i q1 k (gcell fr LV SV) wz) (fun v _ => i - (intOf v).toNat)
          case atStart =>
            refine ⟨0, Nat.zero_le _, rfl, (HT.out.1.rf.keep HC1.out.1 (fun h => h)).congr (fun x _ => ?_), Ch.refl _ _ _ _⟩
            unfold fillF
            rw [if_neg (by omega)]
          case round =>
            obtain ⟨k, hk, rfl, hrow, hch⟩ := hrel
            have hmb1 := heap_lt HC1.out.2.2
            have hsb1 : W1.heap[sb]? = some (.cells #[.slice fp i fc, .slice ap j ac] 53 (0, 0)) ∧ t1 sb = 9 := by
              have hz := heap_lt HT.out.1.box
              exact ⟨(HC1.out.1.block sb hz (Or.inr (fun h => h))).trans HT.out.1.box, (HC1.out.1.tags sb hz).trans HT.out.1.t9⟩
            have hbr := (hch.block _ hmb1 (Or.inr (by rw [HC1.out.2.1]; omega))).trans HC1.out.2.2
            have hsr := (hch.block _ (heap_lt hsb1.1) (Or.inr (by rw [hsb1.2]; omega))).trans hsb1.1
            have m0 : wr.cell? ⟨mb, 0, none⟩ = some (.int .i64 mv) := (cell_heap hbr).trans rfl
            have m1 : wr.cell? ⟨mb, 1, none⟩ = some (.int .i64 0) := (cell_heap hbr).trans rfl
            have m2 : wr.cell? ⟨mb, 2, none⟩ = some (.slice none 0 0) := (cell_heap hbr).trans rfl
            have m3 : wr.cell? ⟨mb, 3, none⟩ = some (.slice none 0 0) := (cell_heap hbr).trans rfl
            have s0 : wr.cell? ⟨sb, 0, none⟩ = some (.slice fp i fc) := (cell_heap hsr).trans rfl
            have s1 : wr.cell? ⟨sb, 1, none⟩ = some (.slice ap j ac) := (cell_heap hsr).trans rfl
            have hmz : mb < wr.heap.size := heap_lt hbr
            have hsz : sb < wr.heap.size := heap_lt hsr
            by_cases hlt : k < i
            · have hd : decide ((k : Int) < (i : Int)) = true := by simp; omega
              obtain ⟨b, cap, e1, hb, hbz, hbt, hcap⟩ := hrow.form (by omega)
              injection e1 with e1 _ e3
              subst e1
              subst e3
              have y0 := hrow.cell (i := k * 4) (by omega)
              have y1 := hrow.cell (i := k * 4 + 1) (by omega)
              have y2 := hrow.cell (i := k * 4 + 2) (by omega)
              have y3 := hrow.cell (i := k * 4 + 3) (by omega)
              have z0 := hrow.frozen (k * 4)
              have z1 := hrow.frozen (k * 4 + 1)
              have z2 := hrow.frozen (k * 4 + 2)
              have z3 := hrow.frozen (k * 4 + 3)
              have HN := hid (show FAt W1 B t1 (.slice (some ⟨b, 0, none⟩) i fc) i q1 (k + 1) (gcell fr LV SV) ((((wr.setCell ⟨b, k * 4, none⟩ (.int .i64 mv)).setCell ⟨b, k * 4 + 1, none⟩ (.int .i64 0)).setCell ⟨b, k * 4 + 2, none⟩ (.slice none 0 0)).setCell ⟨b, k * 4 + 3, none⟩ (.slice none 0 0)) from by
                refine ⟨((((hrow.set (k * 4) (.int .i64 mv)).set (k * 4 + 1) (.int .i64 0)).set (k * 4 + 2) (.slice none 0 0)).set (k * 4 + 3) (.slice none 0 0)).congr (fun x _ => ?_), (((hch.trans (Ch.set wr _ _ _ hb hbt)).trans (Ch.set _ _ _ _ hb hbt)).trans (Ch.set _ _ _ _ hb hbt)).trans (Ch.set _ _ _ _ hb hbt)⟩
                rw [← fillF_set]
                unfold mrk
                rw [HMV.out])
              generalize fillF q1 k (gcell fr LV SV) (k * 4) = u0 at y0
              generalize fillF q1 k (gcell fr LV SV) (k * 4 + 1) = u1 at y1
              generalize fillF q1 k (gcell fr LV SV) (k * 4 + 2) = u2 at y2
              generalize fillF q1 k (gcell fr LV SV) (k * 4 + 3) = u3 at y3
              have hne : ¬ mb = b := by intro e; have h9 := HC1.out.2.1; rw [e, hbt] at h9; omega
              have hne2 : ¬ sb = b := by intro e; have h9 := hsb1.2; rw [e, hbt] at h9; omega
              clear hrow hch hbr hsr hb hbt s1 hsb1
              go_wp2
              exact ⟨⟨k + 1, by omega, by go_num, HN.out⟩, by simp [intOf]; omega⟩
            · have hd : decide ((k : Int) < (i : Int)) = false := by simp; omega
              obtain rfl : k = i := by omega
              obtain ⟨inf, hi1, hz0, hz1, hz2⟩ : ∃ i, Tryz.prog.info? 73 = some i ∧ i.zero = some (.agg #[.int .i64 0, .int .i64 0, .slice none 0 0, .slice none 0 0]) ∧ i.size = 4 ∧ i.bytes = 64 := by
                obtain ⟨i, hi, hzz⟩ := Option.map_eq_some_iff.1 Tryz.infoFrameU
                simp only [Prod.mk.injEq] at hzz
                exact ⟨i, hi, hzz.1, hzz.2.1, hzz.2.2⟩
              obtain ⟨k1, cv1, pv1, xb1, ch0, hq1, hvv⟩ := HT.out
              have hrow2 : Row wr B t1 1 73 4 (.slice fp k fc) k (fun x => fmark q1 (x % 4)) := hrow.congr (fun x hx => by unfold fillF; rw [if_pos hx])
              have ks0 : KS wr B t1 1 73 4 (.slice fp k fc) k (fmark q1) [.slice fp k fc] := ⟨hrow2, fun v hv => by
                obtain rfl : v = .slice fp k fc := by simpa using hv
                exact hrow2.full (by omega) rfl (fun _ _ => rfl)⟩
              have hBW : B ≤ W1.heap.size := Nat.le_trans k1.hold.le HC1.out.1.size
              have hBr : B ≤ wr.heap.size := Nat.le_trans hBW hch.size
              have hmq : mrk q1 = mv := HMV.out
              obtain ⟨nw1, en1, hl1, hr1, ho1⟩ := fmark_at q1 mv hmq 1 (Or.inl rfl)
              rw [if_pos rfl] at en1
              obtain ⟨g1, c1, w1, r1, _, t2, ks1, ch1, hB1⟩ := ks0.app (P := Tryz.prog) hBr (by omega) 1 (by omega) (by omega) nw1 hl1 hr1 ho1 50 50 73 inf _ 64 Tryz.underlying50 hi1 hz0 hz1 hz2 rfl (by decide) (by omega)
              obtain ⟨nw2, en2, hl2, hr2, ho2⟩ := fmark_at q1 mv hmq 2 (Or.inr (Or.inl rfl))
              rw [if_neg (by omega), if_pos rfl] at en2
              obtain ⟨g2, c2, w2, r2, _, t3, ks2, ch2, hB2⟩ := ks1.app (P := Tryz.prog) hB1 (by omega) 2 (by omega) (by omega) nw2 hl2 hr2 ho2 50 50 73 inf _ 64 Tryz.underlying50 hi1 hz0 hz1 hz2 rfl (by decide) (by omega)
              obtain ⟨nw3, en3, hl3, hr3, ho3⟩ := fmark_at q1 mv hmq 3 (Or.inr (Or.inr rfl))
              rw [if_neg (by omega), if_neg (by omega)] at en3
              obtain ⟨g3, c3, w3, r3, _, t4, ks3, ch3, hB3⟩ := ks2.app (P := Tryz.prog) hB2 (by omega) 3 (by omega) (by omega) nw3 hl3 hr3 ho3 50 50 73 inf _ 64 Tryz.underlying50 hi1 hz0 hz1 hz2 rfl (by decide) (by omega)
              rw [en1] at r1
              rw [en2] at r2
              rw [en3] at r3
              have tm1 : t1 mb ≠ 1 := by rw [HC1.out.2.1]; omega
              have ts1 : t1 sb ≠ 1 := by rw [hsb1.2]; omega
              have hb1 := (ch1.block _ hmz (Or.inr tm1)).trans hbr
              have hx1 := (ch1.block _ hsz (Or.inr ts1)).trans hsr
              have tm2 : t2 mb ≠ 1 := by rw [ch1.tags _ hmz]; exact tm1
              have ts2 : t2 sb ≠ 1 := by rw [ch1.tags _ hsz]; exact ts1
              have hb2 := (ch2.block _ (heap_lt hb1) (Or.inr tm2)).trans hb1
              have hx2 := (ch2.block _ (heap_lt hx1) (Or.inr ts2)).trans hx1
              have tm3 : t3 mb ≠ 1 := by rw [ch2.tags _ (heap_lt hb1)]; exact tm2
              have ts3 : t3 sb ≠ 1 := by rw [ch2.tags _ (heap_lt hx1)]; exact ts2
              have hx3 := (ch3.block _ (heap_lt hx2) (Or.inr ts3)).trans hx2
              have ts4 : t4 sb = 9 := by rw [ch3.tags _ (heap_lt hx2), ch2.tags _ (heap_lt hx1), ch1.tags _ hsz]; exact hsb1.2
              have m01 : w1.cell? ⟨mb, 0, none⟩ = some (.int .i64 mv) := (cell_heap hb1).trans rfl
              have m11 : w1.cell? ⟨mb, 1, none⟩ = some (.int .i64 0) := (cell_heap hb1).trans rfl
              have m21 : w1.cell? ⟨mb, 2, none⟩ = some (.slice none 0 0) := (cell_heap hb1).trans rfl
              have m31 : w1.cell? ⟨mb, 3, none⟩ = some (.slice none 0 0) := (cell_heap hb1).trans rfl
              have m02 : w2.cell? ⟨mb, 0, none⟩ = some (.int .i64 mv) := (cell_heap hb2).trans rfl
              have m12 : w2.cell? ⟨mb, 1, none⟩ = some (.int .i64 0) := (cell_heap hb2).trans rfl
              have m22 : w2.cell? ⟨mb, 2, none⟩ = some (.slice none 0 0) := (cell_heap hb2).trans rfl
              have m32 : w2.cell? ⟨mb, 3, none⟩ = some (.slice none 0 0) := (cell_heap hb2).trans rfl
              have s01 : w1.cell? ⟨sb, 0, none⟩ = some (.slice fp k fc) := (cell_heap hx1).trans rfl
              have s02 : w2.cell? ⟨sb, 0, none⟩ = some (.slice fp k fc) := (cell_heap hx2).trans rfl
              have s03 : w3.cell? ⟨sb, 0, none⟩ = some (.slice fp k fc) := (cell_heap hx3).trans rfl
              have hmz1 : mb < w1.heap.size := heap_lt hb1
              have hmz2 : mb < w2.heap.size := heap_lt hb2
              have hsz1 : sb < w1.heap.size := heap_lt hx1
              have hsz2 : sb < w2.heap.size := heap_lt hx2
              have hsz3 : sb < w3.heap.size := heap_lt hx3
              have hkc : ∀ d, Kt k j d ∨ Wt d → ¬ d = 1 := fun d hd => by rcases hd with hd | hd; exact (Kt_low hd).1; unfold Wt at hd; omega
              have hH3 := ((((k1.hold.keep HC1.out.1 (fun _ _ h => h)).keep hch hkc).keep ch1 hkc).keep ch2 hkc).keep ch3 hkc
              have hH4 := hH3.retag (Kd' := fun d => Kt k j d ∨ d = 1) (tag' := t4) (fun b _ _ => rfl) (fun b _ h => Or.inl h) (fun d hd => by rcases hd with hd | hd; exact Kt_wt hd; rw [hd]; unfold Wt; omega)
              have hra4 : Row w3 B t4 2 44 1 (.slice ap j ac) j AV := ((((k1.ra.keep HC1.out.1 (fun h => h)).keep hch (by omega)).keep ch1 (by omega)).keep ch2 (by omega)).keep ch3 (by omega)
              have hfull : ∀ v, v ∈ [Value.slice (some ⟨g3, 0, none⟩) (k + 3) c3, .slice (some ⟨g2, 0, none⟩) (k + 2) c2, .slice (some ⟨g1, 0, none⟩) (k + 1) c1, .slice fp k fc] → Full w3.drew B t4 (fun d => Kt k j d ∨ d = 1) 4 v (fmark q1) := fun v hv => ((ks3.full v hv).retag (Kd' := fun d => Kt k j d ∨ d = 1) (tag' := t4) (fun b _ h => Or.inr h)).keep (Ch.of_below (p := fun _ => False) (B := B) (Below.refl _ _).drew) (fun _ _ h => h) (fun _ h => h)
              have x3 : w3.cell? ⟨wb, 3, none⟩ = some (.slice vp (4 * q1) vc) := by rw [cell_heap hH4.blk, ← hvv]; rfl
              have hwz3 : wb < w3.heap.size := heap_lt hH4.blk
              have hHd := hH4.below (Below.refl w3.heap.size w3).drew
              obtain ⟨ga, ca, wa, ra, xa, za, bla, WA, eA, yA, lA, gb, cb, wb2, rb, xb, zb, WB, eB, yB, lB, gc, cc, wc2, rc, xc, zc, WC, eC, yC, lC, gd, cd, wd, rd, xd, zd, A', hA', cvA, pvA, xbA, chA⟩ := hHd.four 1 (by omega) q1 (fun e => by omega) hq1 hqb1 vp vc hvv _ _ _ _ 50 90 (hfull (.slice fp k fc) (by simp)) (hfull (.slice (some ⟨g1, 0, none⟩) (k + 1) c1) (by simp)) (hfull (.slice (some ⟨g2, 0, none⟩) (k + 2) c2) (by simp)) (hfull (.slice (some ⟨g3, 0, none⟩) (k + 3) c3) (by simp))
              have xa' : wa.cell? ⟨wb, 3, none⟩ = some (.slice vp (4 * q1) vc) := xa
              have za' : wa.frozen? ⟨wb, 3, none⟩ = false := za
              have sa' : wa.cell? ⟨sb, 0, none⟩ = some (.slice fp k fc) := (World.cell?_of_block (a := ⟨sb, 0, none⟩) (bla sb hsz3 (by show t4 sb ≠ 6; rw [ts4]; omega))).trans s03
              have xb' : wb2.cell? ⟨wb, 3, none⟩ = some (.slice (some ⟨ga, 0, none⟩) (4 * q1 + 1) ca) := xb
              have zb' : wb2.frozen? ⟨wb, 3, none⟩ = false := zb
              have xc' : wc2.cell? ⟨wb, 3, none⟩ = some (.slice (some ⟨gb, 0, none⟩) (4 * q1 + 1 + 1) cb) := xc
              have zc' : wc2.frozen? ⟨wb, 3, none⟩ = false := zc
              have xd' : wd.cell? ⟨wb, 3, none⟩ = some (.slice (some ⟨gc, 0, none⟩) (4 * q1 + 1 + 1 + 1) cc) := xd
              have zd' : wd.frozen? ⟨wb, 3, none⟩ = false := zd
              have eA' : WA = wa.setCell ⟨wb, 3, none⟩ (.slice (some ⟨ga, 0, none⟩) (4 * q1 + 1) ca) := eA
              have eB' : WB = wb2.setCell ⟨wb, 3, none⟩ (.slice (some ⟨gb, 0, none⟩) (4 * q1 + 1 + 1) cb) := eB
              have eC' : WC = wc2.setCell ⟨wb, 3, none⟩ (.slice (some ⟨gc, 0, none⟩) (4 * q1 + 1 + 1 + 1) cc) := eC
              have lA' : wb < wa.heap.size := by have := lA; rw [eA'] at this; simpa using this
              have lB' : wb < wb2.heap.size := by have := lB; rw [eB'] at this; simpa using this
              have lC' : wb < wc2.heap.size := by have := lC; rw [eC'] at this; simpa using this
              rw [eA', show (wa.setCell ⟨wb, 3, none⟩ (.slice (some ⟨ga, 0, none⟩) (4 * q1 + 1) ca)).heap.size = wa.heap.size by simp] at rb
              rw [eB', show (wb2.setCell ⟨wb, 3, none⟩ (.slice (some ⟨gb, 0, none⟩) (4 * q1 + 1 + 1) cb)).heap.size = wb2.heap.size by simp] at rc
              rw [eC', show (wc2.setCell ⟨wb, 3, none⟩ (.slice (some ⟨gc, 0, none⟩) (4 * q1 + 1 + 1 + 1) cc)).heap.size = wc2.heap.size by simp] at rd
              have hcall : Ch B (fun d => Kp0 d ∨ d = 1 ∨ d = 6) (upd A.tag sb 9) A'.tag W _ := ((((((ch0.mono (q := fun d => Kp0 d ∨ d = 1 ∨ d = 6) (fun d hd => Or.inl hd)).trans (HC1.out.1.mono (fun _ h => h.elim))).trans (hch.mono (fun d hd => Or.inr (Or.inl hd)))).trans (ch1.mono (fun d hd => Or.inr (Or.inl hd)))).trans (ch2.mono (fun d hd => Or.inr (Or.inl hd)))).trans ((ch3.mono (fun d hd => Or.inr (Or.inl hd))).trans' (Below.refl _ _).drew)).trans (chA.mono (fun d hd => by unfold Kp0; omega))
              have hbx5 := (chA.block sb hsz3 (Or.inr (by show ¬ (t4 sb = 0 ∨ t4 sb = 5 + 1); rw [ts4]; omega))).trans hx3
              have hra5 := (hra4.below (Below.refl w3.heap.size w3).drew).keep chA (by omega)
              have ts5 : A'.tag sb = 9 := (chA.tags sb hsz3).trans ts4
              have HQ := hid (And.intro hA' (And.intro (cvA.trans cv1) (And.intro (pvA.trans pv1) (And.intro (xbA.trans xb1) (And.intro hcall (And.intro hbx5 (And.intro hra5 ts5)))))))
              have HR := hid (And.intro r1 (And.intro r2 (And.intro r3 (And.intro ra (And.intro rb (And.intro rc rd))))))
              clear xa za xb zb xc zc xd zd eA eB eC yA yB yC lA lB lC eA' eB' eC' bla hHd
              clear ks0 ks1 ks2 ks3 ch0 ch1 ch2 ch3 chA hA' hcall hfull hH3 hH4 hra4 k1 hrow hrow2 hch hb1 hb2 hbr hsr hx1 hx2 hx3 r1 r2 r3 ra rb rc rd en1 en2 en3 hl1 hl2 hl3 hr1 hr2 hr3 ho1 ho2 ho3 hkc cvA pvA xbA cv1 pv1 xb1 hq1 hvv HMV hi1 hz0 hz1 hz2 tm1 tm2 tm3 ts1 ts2 ts3 ts4 ts5 hbx5 hra5 HT HC1 hsb1
              go_wp2_with (at_builtin; refine app_stop rfl _ _ 50 rfl ?_)
              refine ⟨?_, trivial⟩
              refine wpList_append_run _ rfl _ _ 50 rfl _ _ _ _ rfl rfl HR.out.1 ?_
              clear m0 m1 m2 m3 s0 s1
              go_wp2_with (at_builtin; refine app_stop rfl _ _ 50 rfl ?_)
              refine ⟨?_, trivial⟩
              refine wpList_append_run _ rfl _ _ 50 rfl _ _ _ _ rfl rfl HR.out.2.1 ?_
              clear m01 m11 m21 m31 s01
              go_wp2_with (at_builtin; refine app_stop rfl _ _ 50 rfl ?_)
              refine ⟨?_, trivial⟩
              refine wpList_append_run _ rfl _ _ 50 rfl _ _ _ _ rfl rfl HR.out.2.2.1 ?_
              clear m02 m12 m22 m32 s02
              go_wp2_with fail
              refine region_lexY (fun w' => w'.cell? ⟨wb, 3, none⟩ = some (.slice vp (4 * q1) vc) ∧ w'.cell? ⟨sb, 0, none⟩ = some (.slice fp k fc)) 11 [(false, 0), (false, 1), (false, 2), (false, 3), (false, 4), (false, 5), (false, 6), (true, 7), (true, 8), (false, 9), (false, 10), (true, 11)] (by kernel_rfl) (by kernel_rfl) (fun c0 a0 d0 v0 y0 h0 => panic_body (P := Tryz.prog) Tryz.f60 (fun e w' => StateE w B wb A n q q1 q2 k j e w') c0 a0 d0 v0 y0 h0) ⟨x3, s03⟩ ?_
              simp only [lexL, List.getElem?_cons_zero, List.getElem?_cons_succ]
              iterate 7 (refine lexY_free (by rfl) (by intro w' hS'; obtain ⟨q0, q1⟩ := hS'; go_simp; exact rfl) ?_; simp only [Act.put, List.setIfInBounds_toArray, List.set_cons_zero, List.set_cons_succ])
              refine lexY_sole (fun K hK => ?_)
              go_simp
              refine hK.out _ _ ⟨alloc_cell (w := w3.drew) x3 hwz3, alloc_cell (w := w3.drew) s03 hsz3⟩ ?_
              clear hK K
              refine lexY_sole (fun K hK => ?_)
              refine step_append_run _ rfl _ _ 90 rfl _ _ _ _ rfl rfl HR.out.2.2.2.1 ?_
              refine hK.out _ _ ⟨xa', sa'⟩ ?_
              clear hK K x3 s03
              simp only [Act.put, List.setIfInBounds_toArray, List.set_cons_zero, List.set_cons_succ]
              iterate 2 (refine lexY_free (by rfl) (by intro w' hS'; go_simp; exact rfl) ?_; simp only [Act.put, List.setIfInBounds_toArray, List.set_cons_zero, List.set_cons_succ])
              refine lexY_last (fun K hK => ?_)
              go_simp
              refine hK.out _ _ ?_
              clear hK K
              go_wp2_with (at_builtin; refine app_stop rfl _ _ 90 rfl ?_)
              refine ⟨?_, trivial⟩
              refine wpList_append_run _ rfl _ _ 90 rfl _ _ _ _ rfl rfl HR.out.2.2.2.2.1 ?_
              clear xa' za' lA' sa'
              go_wp2_with (at_builtin; refine app_stop rfl _ _ 90 rfl ?_)
              refine ⟨?_, trivial⟩
              refine wpList_append_run _ rfl _ _ 90 rfl _ _ _ _ rfl rfl HR.out.2.2.2.2.2.1 ?_
              clear xb' zb' lB'
              go_wp2_with (at_builtin; refine app_stop rfl _ _ 90 rfl ?_)
              refine ⟨?_, trivial⟩
              refine wpList_append_run _ rfl _ _ 90 rfl _ _ _ _ rfl rfl HR.out.2.2.2.2.2.2 ?_
              clear xc' zc' lC' HR
              go_upto_region 22 with fail
              obtain ⟨hA', cvA, pvA, xbA, hcall, hbx5, hra5, ts5⟩ := HQ.out
              change HoldAt (wd.setCell ⟨wb, 3, none⟩ (.slice (some ⟨gd, 0, none⟩) (4 * q1 + 1 + 1 + 1 + 1) cd)) _ _ _ _ _ at hA'
              change Ch _ _ _ _ _ (wd.setCell ⟨wb, 3, none⟩ (.slice (some ⟨gd, 0, none⟩) (4 * q1 + 1 + 1 + 1 + 1) cd)) at hcall
              change (wd.setCell ⟨wb, 3, none⟩ (.slice (some ⟨gd, 0, none⟩) (4 * q1 + 1 + 1 + 1 + 1) cd)).heap[sb]? = _ at hbx5
              change Row (wd.setCell ⟨wb, 3, none⟩ (.slice (some ⟨gd, 0, none⟩) (4 * q1 + 1 + 1 + 1 + 1) cd)) _ _ _ _ _ _ _ _ at hra5
              clear HQ xd' zd'
              generalize wd.setCell ⟨wb, 3, none⟩ (.slice (some ⟨gd, 0, none⟩) (4 * q1 + 1 + 1 + 1 + 1) cd) = V at *
              have hn2 : (upd (upd n 0 (4 * (q + 2 * k + j))) 1 (4 * (q1 + 1))) 2 = 4 * q2 := by rw [upd_other _ _ _ _ (by omega), upd_other _ _ _ _ (by omega)]; exact HX.out.2.2.2.2.2.1
              have hrv := hA'.row 2 (by omega)
              rw [hn2] at hrv
              obtain ⟨yp, yc, hyv⟩ := hrv.slc
              have x4 : V.cell? ⟨wb, 4, none⟩ = some (.slice yp (4 * q2) yc) := by rw [cell_heap hA'.blk, ← hyv]; rfl
              have e1 : Int.tdiv (4 * (q2 : Int)) 4 = (q2 : Int) := by rw [Int.mul_comm]; exact Int.mul_tdiv_cancel _ (by omega)
              have e2 : wrap64 (-1000 - (q2 : Int)) = -1000 - (q2 : Int) := by unfold wrap64; omega
              have hwbV := heap_lt hA'.blk
              have hsbV := heap_lt hbx5
              have HV := hid (And.intro hA' (And.intro cvA (And.intro pvA (And.intro hcall (And.intro hbx5 (And.intro hra5 (And.intro ts5 (And.intro hn2 hyv))))))))
              clear hA' cvA pvA xbA hcall hbx5 hra5 ts5 hn2 hrv hyv
              go_wp2
              clear e1 e2 x4
              generalize hmv2 : (-1000 - (q2 : Int)) = mv2 at *
              have HMV2 := hid hmv2
              clear hmv2
              obtain ⟨V1, hV1⟩ : ∃ V1, V1 = V.alloc (.cells #[.int .i64 mv2, .int .i64 0] 43) := ⟨_, rfl⟩
              have hbm : V1.heap[V.heap.size]? = some (.cells #[.int .i64 mv2, .int .i64 0] 43 (0, 0)) := by rw [hV1]; exact Go.Deep.blk_alloc_new _ _
              obtain ⟨t5, ht5⟩ : ∃ t5, t5 = upd A'.tag V.heap.size 9 := ⟨_, rfl⟩
              have c5 : Ch B (fun _ => False) A'.tag t5 V V1 := by rw [ht5, hV1]; exact Ch.of_tags ((Below.refl _ _).alloc (Nat.le_refl _) _) (fun b hb => upd_other _ _ _ _ (by omega))
              have t95 : t5 V.heap.size = 9 := by rw [ht5]; exact upd_same _ _ _
              have HC5 := hid (And.intro c5 (And.intro t95 hbm))
              rw [← hV1]
              clear c5 t95 ht5 hbm hV1
              generalize hxb : V.heap.size = xb at *
              have HXB := hid hxb
              clear hxb
              go_loopw [12] (fun v wz => ∃ m : Nat, m ≤ j ∧ v = .int .i64 m ∧ AAt V1 B t5 (.slice ap j ac) j (.slice (some ⟨xb, 0, none⟩) 1 1) m AV wz) (fun v _ => j - (intOf v).toNat)
              case atStart =>
                refine ⟨0, Nat.zero_le _, rfl, (HV.out.2.2.2.2.2.1.keep HC5.out.1 (fun h => h)).congr (fun x _ => ?_), Ch.refl _ _ _ _⟩
                unfold fillA
                rw [if_neg (by omega)]
              case round =>
                obtain ⟨m, hm, rfl, hrow, hch⟩ := hrel
                have hsb1 : V1.heap[sb]? = some (.cells #[.slice fp k fc, .slice ap j ac] 53 (0, 0)) ∧ t5 sb = 9 := by
                  have hz := heap_lt HV.out.2.2.2.2.1
                  exact ⟨(HC5.out.1.block sb hz (Or.inr (fun h => h))).trans HV.out.2.2.2.2.1, (HC5.out.1.tags sb hz).trans HV.out.2.2.2.2.2.2.1⟩
                have hsr := (hch.block _ (heap_lt hsb1.1) (Or.inr (by rw [hsb1.2]; omega))).trans hsb1.1
                have s1 : wr.cell? ⟨sb, 1, none⟩ = some (.slice ap j ac) := (cell_heap hsr).trans rfl
                have hsz : sb < wr.heap.size := heap_lt hsr
                by_cases hlt : m < j
                · have hd : decide ((m : Int) < (j : Int)) = true := by simp; omega
                  obtain ⟨b, cap, e1, hb, hbz, hbt, hcap⟩ := hrow.form (by omega)
                  injection e1 with e1 _ e3
                  subst e1
                  subst e3
                  have y0 := hrow.cell (i := m) (by omega)
                  have z0 := hrow.frozen m
                  have HN := hid (show AAt V1 B t5 (.slice (some ⟨b, 0, none⟩) j ac) j (.slice (some ⟨xb, 0, none⟩) 1 1) (m + 1) AV (wr.setCell ⟨b, m, none⟩ (.slice (some ⟨xb, 0, none⟩) 1 1)) from by
                    refine ⟨(hrow.set m _).congr (fun x _ => ?_), hch.trans (Ch.set wr _ _ _ hb hbt)⟩
                    rw [← fillA_set])
                  generalize fillA (.slice (some ⟨xb, 0, none⟩) 1 1) m AV m = u0 at y0
                  have hne2 : ¬ sb = b := by intro e; have h9 := hsb1.2; rw [e, hbt] at h9; omega
                  clear hrow hch hsr hb hbt hsb1
                  go_wp2
                  exact ⟨⟨m + 1, by omega, by go_num, HN.out⟩, by simp [intOf]; omega⟩
                · have hd : decide ((m : Int) < (j : Int)) = false := by simp; omega
                  obtain rfl : m = j := by omega
                  obtain ⟨inf, hi1, hz0, hz1, hz2⟩ := hT_info 0 (by omega)
                  change Tryz.prog.info? 44 = some inf at hi1
                  obtain ⟨kA, cvA, pvA, hcall, hbx5, hra5, ts5, hn2, hyv⟩ := HV.out
                  obtain ⟨xv, hxv⟩ : ∃ xv : Value, xv = .slice (some ⟨xb, 0, none⟩) 1 1 := ⟨_, rfl⟩
                  have hx1c : xv.oneCell' = true := by rw [hxv]; rfl
                  have hrow2 : Row wr B t5 2 44 1 (.slice ap m ac) m (fun x => (fun _ : Nat => xv) (x % 1)) := hrow.congr (fun x hx => by unfold fillA; rw [if_pos (by omega), hxv])
                  have ks0 : KS wr B t5 2 44 1 (.slice ap m ac) m (fun _ : Nat => xv) [.slice ap m ac] := ⟨hrow2, fun v hv => by
                    obtain rfl : v = .slice ap m ac := by simpa using hv
                    exact hrow2.full (by omega) rfl (fun _ _ => rfl)⟩
                  have hBW : B ≤ V1.heap.size := Nat.le_trans kA.le HC5.out.1.size
                  have hBr : B ≤ wr.heap.size := Nat.le_trans hBW hch.size
                  obtain ⟨nw1, en1, hl1, hr1, ho1⟩ := amark_at xv hx1c 1 (Or.inl rfl)
                  rw [if_pos rfl] at en1
                  obtain ⟨g1, c1, w1, r1, _, t2, ks1, ch1, hB1⟩ := ks0.app (P := Tryz.prog) hBr (by omega) 1 (by omega) (by omega) nw1 hl1 hr1 ho1 51 51 44 inf _ 24 Tryz.underlying51 hi1 hz0 hz1 hz2 rfl (by decide) (by omega)
                  obtain ⟨nw2, en2, hl2, hr2, ho2⟩ := amark_at xv hx1c 2 (Or.inr (Or.inl rfl))
                  rw [if_neg (by omega), if_pos rfl] at en2
                  obtain ⟨g2, c2, w2, r2, _, t3, ks2, ch2, hB2⟩ := ks1.app (P := Tryz.prog) hB1 (by omega) 2 (by omega) (by omega) nw2 hl2 hr2 ho2 51 51 44 inf _ 24 Tryz.underlying51 hi1 hz0 hz1 hz2 rfl (by decide) (by omega)
                  obtain ⟨nw3, en3, hl3, hr3, ho3⟩ := amark_at xv hx1c 3 (Or.inr (Or.inr rfl))
                  rw [if_neg (by omega), if_neg (by omega)] at en3
                  obtain ⟨g3, c3, w3, r3, _, t4, ks3, ch3, hB3⟩ := ks2.app (P := Tryz.prog) hB2 (by omega) 3 (by omega) (by omega) nw3 hl3 hr3 ho3 51 51 44 inf _ 24 Tryz.underlying51 hi1 hz0 hz1 hz2 rfl (by decide) (by omega)
                  rw [en1, hxv] at r1
                  rw [en2, hxv] at r2
                  rw [en3, hxv] at r3
                  have ts1 : t5 sb ≠ 2 := by rw [hsb1.2]; omega
                  have hx1 := (ch1.block _ hsz (Or.inr ts1)).trans hsr
                  have ts2 : t2 sb ≠ 2 := by rw [ch1.tags _ hsz]; exact ts1
                  have hx2 := (ch2.block _ (heap_lt hx1) (Or.inr ts2)).trans hx1
                  have ts3 : t3 sb ≠ 2 := by rw [ch2.tags _ (heap_lt hx1)]; exact ts2
                  have hx3 := (ch3.block _ (heap_lt hx2) (Or.inr ts3)).trans hx2
                  have ts4 : t4 sb = 9 := by rw [ch3.tags _ (heap_lt hx2), ch2.tags _ (heap_lt hx1), ch1.tags _ hsz]; exact hsb1.2
                  have s11 : w1.cell? ⟨sb, 1, none⟩ = some (.slice ap m ac) := (cell_heap hx1).trans rfl
                  have s12 : w2.cell? ⟨sb, 1, none⟩ = some (.slice ap m ac) := (cell_heap hx2).trans rfl
                  have s13 : w3.cell? ⟨sb, 1, none⟩ = some (.slice ap m ac) := (cell_heap hx3).trans rfl
                  have hsz1 : sb < w1.heap.size := heap_lt hx1
                  have hsz2 : sb < w2.heap.size := heap_lt hx2
                  have hsz3 : sb < w3.heap.size := heap_lt hx3
                  -- the mark's block
                  have hxl := heap_lt HC5.out.2.2
                  have kx0 := (hch.block _ hxl (Or.inr (by rw [HC5.out.2.1]; omega))).trans HC5.out.2.2
                  have kx1 := (ch1.block _ (heap_lt kx0) (Or.inr (by rw [HC5.out.2.1]; omega))).trans kx0
                  have tx1 : t2 xb = 9 := (ch1.tags _ (heap_lt kx0)).trans HC5.out.2.1
                  have kx2 := (ch2.block _ (heap_lt kx1) (Or.inr (by rw [tx1]; omega))).trans kx1
                  have tx2 : t3 xb = 9 := (ch2.tags _ (heap_lt kx1)).trans tx1
                  have kx3 := (ch3.block _ (heap_lt kx2) (Or.inr (by rw [tx2]; omega))).trans kx2
                  have tx3 : t4 xb = 9 := (ch3.tags _ (heap_lt kx2)).trans tx2
                  have hkc : ∀ d, (Kt k m d ∨ d = 1) ∨ Wt d → ¬ d = 2 := fun d hd => by
                    rcases hd with (hd | hd) | hd
                    · exact (Kt_low hd).2
                    · omega
                    · unfold Wt at hd; omega
                  have hH3 := ((((kA.keep HC5.out.1 (fun _ _ h => h)).keep hch hkc).keep ch1 hkc).keep ch2 hkc).keep ch3 hkc
                  have hH4 := (hH3.retag (Kd' := fun d => (Kt k m d ∨ d = 1) ∨ d = 2) (tag' := t4) (fun b _ _ => rfl) (fun b _ h => Or.inl h) (fun d hd => by
                    rcases hd with (hd | hd) | hd
                    · exact Kt_wt hd
                    · rw [hd]; unfold Wt; omega
                    · rw [hd]; unfold Wt; omega)).setX q2 xb hn2
                  have hfull : ∀ v, v ∈ [Value.slice (some ⟨g3, 0, none⟩) (m + 3) c3, .slice (some ⟨g2, 0, none⟩) (m + 2) c2, .slice (some ⟨g1, 0, none⟩) (m + 1) c1, .slice ap m ac] → Full w3.drew B t4 (fun d => (Kt k m d ∨ d = 1) ∨ d = 2) 1 v (fun _ => .slice (some ⟨upd A'.XB q2 xb q2, 0, none⟩) 1 1) := fun v hv => by
                    rw [upd_same, ← hxv]
                    exact ((ks3.full v hv).retag (Kd' := fun d => (Kt k m d ∨ d = 1) ∨ d = 2) (tag' := t4) (fun b _ h => Or.inr h)).keep (Ch.of_below (p := fun _ => False) (B := B) (Below.refl _ _).drew) (fun _ _ h => h) (fun _ h => h)
                  have x4 : w3.cell? ⟨wb, 4, none⟩ = some (.slice yp (4 * q2) yc) := by rw [cell_heap hH4.blk, ← hyv]; rfl
                  have hwz3 : wb < w3.heap.size := heap_lt hH4.blk
                  have hHd := hH4.below (Below.refl w3.heap.size w3).drew
                  have hxok : XOk w3.drew B { A' with tag := t4, XB := upd A'.XB q2 xb } (fun d => (Kt k m d ∨ d = 1) ∨ d = 2) q2 := by
                    unfold XOk
                    rw [show ({ A' with tag := t4, XB := upd A'.XB q2 xb } : AdH).XB q2 = xb from upd_same _ _ _]
                    refine ⟨heap_lt kx3, by rw [← HXB.out]; exact kA.le, Or.inl (Or.inl (Or.inl tx3)), ?_, ?_⟩
                    · show w3.cell? ⟨xb, 0, none⟩ = _
                      rw [cell_heap kx3]
                      have : mrk q2 = mv2 := HMV2.out
                      rw [this]
                      rfl
                    · show w3.cell? ⟨xb, 1, none⟩ = _
                      rw [cell_heap kx3]
                      rfl
                  obtain ⟨ga, ca, wa, ra, xa, za, bla, WA, eA, yA, lA, gb, cb, wb2, rb, xbb, zb, WB, eB, yB, lB, gc, cc, wc2, rc, xc, zc, WC, eC, yC, lC, gdd, cdd, wdd, rd, xd, zd, A'', hA'', cvB, pvB, xbB, chB⟩ := hHd.four 2 (by omega) q2 (fun _ => hxok) hn2 hqb2 yp yc hyv _ _ _ _ 51 91 (hfull (.slice ap m ac) (by simp)) (hfull (.slice (some ⟨g1, 0, none⟩) (m + 1) c1) (by simp)) (hfull (.slice (some ⟨g2, 0, none⟩) (m + 2) c2) (by simp)) (hfull (.slice (some ⟨g3, 0, none⟩) (m + 3) c3) (by simp))
                  have xa' : wa.cell? ⟨wb, 4, none⟩ = some (.slice yp (4 * q2) yc) := xa
                  have za' : wa.frozen? ⟨wb, 4, none⟩ = false := za
                  have sa' : wa.cell? ⟨sb, 1, none⟩ = some (.slice ap m ac) := (World.cell?_of_block (a := ⟨sb, 1, none⟩) (bla sb hsz3 (by show t4 sb ≠ 7; rw [ts4]; omega))).trans s13
                  have xb' : wb2.cell? ⟨wb, 4, none⟩ = some (.slice (some ⟨ga, 0, none⟩) (4 * q2 + 1) ca) := xbb
                  have zb' : wb2.frozen? ⟨wb, 4, none⟩ = false := zb
                  have xc' : wc2.cell? ⟨wb, 4, none⟩ = some (.slice (some ⟨gb, 0, none⟩) (4 * q2 + 1 + 1) cb) := xc
                  have zc' : wc2.frozen? ⟨wb, 4, none⟩ = false := zc
                  have xd' : wdd.cell? ⟨wb, 4, none⟩ = some (.slice (some ⟨gc, 0, none⟩) (4 * q2 + 1 + 1 + 1) cc) := xd
                  have zd' : wdd.frozen? ⟨wb, 4, none⟩ = false := zd
                  have eA' : WA = wa.setCell ⟨wb, 4, none⟩ (.slice (some ⟨ga, 0, none⟩) (4 * q2 + 1) ca) := eA
                  have eB' : WB = wb2.setCell ⟨wb, 4, none⟩ (.slice (some ⟨gb, 0, none⟩) (4 * q2 + 1 + 1) cb) := eB
                  have eC' : WC = wc2.setCell ⟨wb, 4, none⟩ (.slice (some ⟨gc, 0, none⟩) (4 * q2 + 1 + 1 + 1) cc) := eC
                  have lA' : wb < wa.heap.size := by have := lA; rw [eA'] at this; simpa using this
                  have lB' : wb < wb2.heap.size := by have := lB; rw [eB'] at this; simpa using this
                  have lC' : wb < wc2.heap.size := by have := lC; rw [eC'] at this; simpa using this
                  rw [eA', show (wa.setCell ⟨wb, 4, none⟩ (.slice (some ⟨ga, 0, none⟩) (4 * q2 + 1) ca)).heap.size = wa.heap.size by simp] at rb
                  rw [eB', show (wb2.setCell ⟨wb, 4, none⟩ (.slice (some ⟨gb, 0, none⟩) (4 * q2 + 1 + 1) cb)).heap.size = wb2.heap.size by simp] at rc
                  rw [eC', show (wc2.setCell ⟨wb, 4, none⟩ (.slice (some ⟨gc, 0, none⟩) (4 * q2 + 1 + 1 + 1) cc)).heap.size = wc2.heap.size by simp] at rd
                  have HQ := hid (show StateE w B wb A n q q1 q2 k m (.returned (.tuple #[])) (wdd.setCell ⟨wb, 4, none⟩ (.slice (some ⟨gdd, 0, none⟩) (4 * q2 + 1 + 1 + 1 + 1) cdd)) from by
                    have hf : ∀ d, d = 2 → ((Kp0 d ∨ d = 1 ∨ d = 6) ∨ d = 2 ∨ d = 7) := fun d hd => Or.inr (Or.inl hd)
                    have hc2 : Ch B (fun d => (Kp0 d ∨ d = 1 ∨ d = 6) ∨ d = 2 ∨ d = 7) (upd A.tag sb 9) A''.tag W (wdd.setCell ⟨wb, 4, none⟩ (.slice (some ⟨gdd, 0, none⟩) (4 * q2 + 1 + 1 + 1 + 1) cdd)) :=
                      ((((((hcall.mono (fun d hd => Or.inl hd)).trans (HC5.out.1.mono (fun _ h => h.elim))).trans (hch.mono hf)).trans (ch1.mono hf)).trans (ch2.mono hf)).trans ((ch3.mono hf).trans' (Below.refl _ _).drew)).trans (chB.mono (fun d hd => by unfold Kp0; omega))
                    have hw0 : Below sb w W ∧ w.heap.size = sb := by
                      obtain ⟨e1, e2⟩ := HW.out
                      rw [← e1, ← e2]
                      exact ⟨(Below.refl _ _).alloc (Nat.le_refl _) _, rfl⟩
                    have hBs : B ≤ sb := by rw [← hw0.2]; exact HX.out.1.le
                    have hblk : ∀ b, b < sb → (b < B ∨ A.tag b = 3 ∨ A.tag b = 4 ∨ A.tag b = 9) → (wdd.setCell ⟨wb, 4, none⟩ (.slice (some ⟨gdd, 0, none⟩) (4 * q2 + 1 + 1 + 1 + 1) cdd)).heap[b]? = w.heap[b]? := fun b hb hp => by
                      refine (hc2.block b (Nat.lt_of_lt_of_le hb (by have := hw0.1.size; have := hw0.2; omega)) ?_).trans (hw0.1.block b hb)
                      rcases hp with hp | hp
                      · exact Or.inl hp
                      · right
                        rw [upd_other _ _ _ _ (by omega)]
                        unfold Kp0
                        omega
                    have htag : ∀ b, b < sb → A''.tag b = A.tag b := fun b hb => (hc2.tags b (Nat.lt_of_lt_of_le hb (by have := hw0.1.size; have := hw0.2; omega))).trans (upd_other _ _ _ _ (by omega))
                    have hA3 := hA''.retag (Kd' := fun d => d = 9) (tag' := fun b => if A''.tag b ≤ 8 ∧ A''.tag b ≠ 1 ∧ A''.tag b ≠ 2 then A''.tag b else 9) (fun b _ hb => by
                      show (if _ then _ else _) = _
                      rw [if_pos (by unfold Wt at hb; omega)]) (fun b _ hb => by
                      show (if _ then _ else _) = _
                      rw [if_neg]
                      rcases hb with (hb | hb) | hb
                      · have h1 := Kt_low hb
                        rcases hb with hb | ⟨x, _, hb⟩ | ⟨x, _, hb⟩ <;> omega
                      · omega
                      · omega) (fun d hd => by rw [hd]; unfold Wt; omega)
                    refine ⟨rfl, _, _, hA3, ?_, ?_, upd_same _ _ _, ?_, cvB.trans cvA, pvB.trans pvA, fun b hb hp => hblk b (by rw [← hw0.2]; exact hb) hp, fun b hb hp => ?_, ?_⟩
                    · rw [upd_other _ _ _ _ (by omega), upd_other _ _ _ _ (by omega), upd_same]
                    · rw [upd_other _ _ _ _ (by omega), upd_same]
                    · rw [upd_other _ _ _ _ (by omega), upd_other _ _ _ _ (by omega), upd_other _ _ _ _ (by omega)]
                    · show (if A''.tag b ≤ 8 ∧ A''.tag b ≠ 1 ∧ A''.tag b ≠ 2 then A''.tag b else 9) = A.tag b
                      rw [htag b (by rw [← hw0.2]; exact hb)]
                      rcases hp with hp | hp | hp
                      · rw [if_pos (by omega)]
                      · rw [if_pos (by omega)]
                      · rw [if_neg (by omega)]; exact hp.symm
                    · exact (hw0.1.mono hBs).trans (hc2.below (Nat.le_trans hBs (by have := hw0.1.size; have := hw0.2; omega))))
                  have HR := hid (And.intro r1 (And.intro r2 (And.intro r3 (And.intro ra (And.intro rb (And.intro rc rd))))))
                  clear xa za xbb zb xc zc xd zd eA eB eC yA yB yC lA lB lC eA' eB' eC' bla hHd
                  clear ks0 ks1 ks2 ks3 ch1 ch2 ch3 chB hA'' hcall hfull hH3 hH4 kA hrow hrow2 hch hsr hx1 hx2 hx3 r1 r2 r3 ra rb rc rd en1 en2 en3 hl1 hl2 hl3 hr1 hr2 hr3 ho1 ho2 ho3 hkc cvA pvA cvB pvB xbB hn2 hyv HMV2 hi1 hz0 hz1 hz2 ts1 ts2 ts3 ts4 ts5 hbx5 hra5 HV HC5 hsb1 hxl kx0 kx1 kx2 kx3 tx1 tx2 tx3 hxok hx1c HX
                  go_wp2_with (at_builtin; refine app_stop rfl _ _ 51 rfl ?_)
                  refine ⟨?_, trivial⟩
                  refine wpList_append_run _ rfl _ _ 51 rfl _ _ _ _ rfl rfl HR.out.1 ?_
                  clear s1
                  go_wp2_with (at_builtin; refine app_stop rfl _ _ 51 rfl ?_)
                  refine ⟨?_, trivial⟩
                  refine wpList_append_run _ rfl _ _ 51 rfl _ _ _ _ rfl rfl HR.out.2.1 ?_
                  clear s11
                  go_wp2_with (at_builtin; refine app_stop rfl _ _ 51 rfl ?_)
                  refine ⟨?_, trivial⟩
                  refine wpList_append_run _ rfl _ _ 51 rfl _ _ _ _ rfl rfl HR.out.2.2.1 ?_
                  clear s12
                  go_wp2_with fail
                  refine region_lexY (fun w' => w'.cell? ⟨wb, 4, none⟩ = some (.slice yp (4 * q2) yc) ∧ w'.cell? ⟨sb, 1, none⟩ = some (.slice ap m ac)) 11 [(false, 0), (false, 1), (false, 2), (false, 3), (false, 4), (false, 5), (false, 6), (true, 7), (true, 8), (false, 9), (false, 10), (true, 11)] (by kernel_rfl) (by kernel_rfl) (fun c0 a0 d0 v0 y0 h0 => panic_body (P := Tryz.prog) Tryz.f60 (fun e w' => StateE w B wb A n q q1 q2 k m e w') c0 a0 d0 v0 y0 h0) ⟨x4, s13⟩ ?_
                  simp only [lexL, List.getElem?_cons_zero, List.getElem?_cons_succ]
                  iterate 7 (refine lexY_free (by rfl) (by intro w' hS'; obtain ⟨q0, q1⟩ := hS'; go_simp; exact rfl) ?_; simp only [Act.put, List.setIfInBounds_toArray, List.set_cons_zero, List.set_cons_succ])
                  refine lexY_sole (fun K hK => ?_)
                  go_simp
                  refine hK.out _ _ ⟨alloc_cell (w := w3.drew) x4 hwz3, alloc_cell (w := w3.drew) s13 hsz3⟩ ?_
                  clear hK K
                  refine lexY_sole (fun K hK => ?_)
                  refine step_append_run _ rfl _ _ 91 rfl _ _ _ _ rfl rfl HR.out.2.2.2.1 ?_
                  refine hK.out _ _ ⟨xa', sa'⟩ ?_
                  clear hK K x4 s13
                  simp only [Act.put, List.setIfInBounds_toArray, List.set_cons_zero, List.set_cons_succ]
                  iterate 2 (refine lexY_free (by rfl) (by intro w' hS'; go_simp; exact rfl) ?_; simp only [Act.put, List.setIfInBounds_toArray, List.set_cons_zero, List.set_cons_succ])
                  refine lexY_last (fun K hK => ?_)
                  go_simp
                  refine hK.out _ _ ?_
                  clear hK K
                  go_wp2_with (at_builtin; refine app_stop rfl _ _ 91 rfl ?_)
                  refine ⟨?_, trivial⟩
                  refine wpList_append_run _ rfl _ _ 91 rfl _ _ _ _ rfl rfl HR.out.2.2.2.2.1 ?_
                  clear xa' za' lA' sa'
                  go_wp2_with (at_builtin; refine app_stop rfl _ _ 91 rfl ?_)
                  refine ⟨?_, trivial⟩
                  refine wpList_append_run _ rfl _ _ 91 rfl _ _ _ _ rfl rfl HR.out.2.2.2.2.2.1 ?_
                  clear xb' zb' lB'
                  go_wp2_with (at_builtin; refine app_stop rfl _ _ 91 rfl ?_)
                  refine ⟨?_, trivial⟩
                  refine wpList_append_run _ rfl _ _ 91 rfl _ _ _ _ rfl rfl HR.out.2.2.2.2.2.2 ?_
                  clear xc' zc' lC' HR
                  go_wp2
                  go_end0
                  exact HQ.out
end Go.Proofs.YtkafkipjedpohaaGreatDoor
