import Derived.Test.YtkafkipjedpohaaGreatDoorM5
import Derived.Test.YtkafkipjedpohaaGreatDoorV8

/-
  As Lz, for a region whose last operation waits for all others by ways of several.
-/
namespace Go.Proofs.YtkafkipjedpohaaGreatDoor
open Go

section
variable {P : Program} {ops : Array Oper} {Q : Exit → Act → World → Prop} {S : World → Prop} {z : Nat}

/-- There is a way of waiting from a to b. -/
def waitsF (ops : Array Oper) : Nat → Nat → Nat → Bool
  | 0, _, _ => false
  | n + 1, a, b => match ops[a]? with
    | none => false
    | some o => o.after.any fun e => Region.binds .any e && (e.on == b || waitsF ops n e.on b)
/-- Number z waits for all others, by ways of at most eight. -/
def waitsT (ops : Array Oper) (z : Nat) : Bool := (List.range ops.size).all fun i => i == z || waitsF ops 8 z i

/-- What is listed, all is listed that it waits for. -/
def CL (ops : Array Oper) (listed : Array Bool) : Prop := ∀ a o, ops[a]? = some o → listed.getD a false = true → ∀ e ∈ o.after, Region.binds .any e = true → listed.getD e.on false = true

theorem waitsF_listed {listed : Array Bool} (hc : CL ops listed) : ∀ (n a b : Nat) (o : Oper), ops[a]? = some o → (∀ e ∈ o.after, Region.binds .any e = true → listed.getD e.on false = true) → waitsF ops n a b = true → listed.getD b false = true
  | 0, _, _, _, _, _, h => by cases h
  | n + 1, a, b, o, ho, hall, h => by
    unfold waitsF at h
    rw [ho] at h
    simp only [Array.any_eq_true', Bool.and_eq_true, Bool.or_eq_true, beq_iff_eq] at h
    obtain ⟨e, he, hb, h1⟩ := h
    have hl := hall e he hb
    rcases h1 with rfl | h1
    · exact hl
    · cases hoe : ops[e.on]? with
      | none =>
        cases n with
        | zero => cases h1
        | succ n => unfold waitsF at h1; rw [hoe] at h1; cases h1
      | some oe => exact waitsF_listed hc n e.on b oe hoe (hc e.on oe hoe hl) h1

theorem getD_listed {listed : Array Bool} {i : Nat} (h1 : listed.getD i true = false) (h2 : listed.getD i false = true) : False := by
  rcases Nat.lt_or_ge i listed.size with h | h
  · simp [h] at h1 h2; rw [h1] at h2; cases h2
  · simp [Array.getElem?_eq_none h] at h2
theorem CL.start (n : Nat) : CL ops (Array.replicate n false) := by
  intro a o _ hl
  exfalso
  rcases Nat.lt_or_ge a n with h | h
  · simp [h] at hl
  · simp [Array.getElem?_eq_none (show (Array.replicate n false).size ≤ a by simpa using h)] at hl
theorem CL.next {listed : Array Bool} {i : Nat} (h : CL ops listed) (hi : i ∈ Region.ready .any ops listed) : CL ops (listed.setIfInBounds i true) := by
  obtain ⟨hu, oi, hoi, hall⟩ := mem_ready.1 hi
  have hmono : ∀ j, listed.getD j false = true → (listed.setIfInBounds i true).getD j false = true := fun j hj => by
    by_cases e : i = j
    · subst e
      exact absurd hj (fun hj => getD_listed hu hj)
    · rw [getD_set_ne false e]; exact hj
  intro a o ho hl e he hb
  by_cases ea : i = a
  · subst ea
    rw [hoi] at ho
    injection ho with ho
    subst ho
    exact hmono _ (hall e he hb)
  · rw [getD_set_ne false ea] at hl
    exact hmono _ (h a o ho hl e he hb)

theorem waitsT_not {listed : Array Bool} {i : Nat} (hw : waitsT ops z = true) (hc : CL ops listed) (hi : i ∈ Region.ready .any ops listed) (hne : i ≠ z) : ¬ z ∈ Region.ready .any ops listed := by
  intro hz
  obtain ⟨u0, oi, hoi, _⟩ := mem_ready.1 hi
  obtain ⟨_, oz, hoz, hall⟩ := mem_ready.1 hz
  have h1 := List.all_eq_true.1 hw i (List.mem_range.2 (Array.getElem?_eq_some_iff.1 hoi).1)
  simp only [Bool.or_eq_true, beq_iff_eq, hne, false_or] at h1
  exact getD_listed u0 (waitsF_listed hc 8 z i oz hoz hall h1)

/-- Whatever order is picked: S holds behind each but z. -/
def anyY (P : Program) (ops : Array Oper) (Q : Exit → Act → World → Prop) (S : World → Prop) (z : Nat) : Nat → Array Bool → Act → World → Prop
  | 0, listed, a, w => Region.ready .any ops listed = [] ∧ Q .normal a w
  | n + 1, listed, a, w => (Region.ready .any ops listed = [] → Q .normal a w) ∧
      ∀ i ∈ Region.ready .any ops listed, wpOp P ops Q i (fun a' w' => (i ≠ z → S w') ∧ anyY P ops Q S z n (listed.setIfInBounds i true) a' w') a w

theorem anyY.any : ∀ (n : Nat) (listed : Array Bool) (a : Act) (w : World), anyY P ops Q S z n listed a w → wpAny P .any ops Q n listed a w
  | 0, _, _, _, h => h
  | n + 1, _, _, _, h => ⟨h.1, fun i hi => wpOp_mono (fun a' w' h' => anyY.any n _ a' w' h'.2) (h.2 i hi)⟩

theorem anyY.take {i : Nat} {oi : Oper} {v : Value} (hi : ops[i]? = some oi) (hs : Region.noSelect ops = true) (hw : waitsT ops z = true) (hiz : i ≠ z) (hQ : ∀ c a w, Q (.panic c) (a.put oi.dst v) w → Q (.panic c) a w) :
    ∀ (n : Nat) (listed : Array Bool) (a : Act) (w : World),
      (∀ j oj, ops[j]? = some oj → j ≠ i → listed.getD j true = false → (∀ e ∈ oj.after, Region.binds .any e = true → e.on ≠ i) → oi.apart ops oj = true) →
      CL ops listed → i ∈ Region.ready .any ops listed → YieldsIf P ops S oi v a → S w → anyY P ops Q S z n (listed.setIfInBounds i true) (a.put oi.dst v) w → anyY P ops Q S z (n + 1) listed a w
  | n, listed, a, w, hfree, hcl, hr, hy, hS, H => by
    refine ⟨fun h => (by rw [h] at hr; cases hr), fun j hj => ?_⟩
    by_cases hji : j = i
    · rw [hji]
      exact hy.wpOp hi hS ⟨fun _ => hS, H⟩
    have hjr := ready_mono hj hji
    have hjz : j ≠ z := fun e => waitsT_not hw hcl hr hiz (e ▸ hj)
    cases n with
    | zero => rw [H.1] at hjr; cases hjr
    | succ n =>
      have h1 := H.2 j hjr
      obtain ⟨hjun, oj, hoj, hall⟩ := mem_ready.1 hj
      have hsel := Region.noSelect_spec hs
      have hnot : ∀ e ∈ oj.after, Region.binds .any e = true → e.on ≠ i := fun e he hb heq => by
        have h2 := hall e he hb
        have h0 := (mem_ready.1 hr).1
        rw [heq] at h2
        rcases Nat.lt_or_ge i listed.size with h' | h'
        · simp [h'] at h0 h2; rw [h0] at h2; cases h2
        · simp [Array.getElem?_eq_none h'] at h2
      have h2 := wpOp_putIf hoj (hfree j oj hoj hji hjun hnot) (fun cs b => hsel i oi cs b hi) (fun cs b => hsel j oj cs b hoj) hQ hy h1
      refine wpOp_mono (fun a' w' h3 => ⟨h3.2.1, anyY.take hi hs hw hiz hQ n _ a' w' (fun k ok hk hki hun hno => hfree k ok hk hki ?_ hno) (hcl.next hj) (ready_mono hr (Ne.symm hji)) h3.1 (h3.2.1 hjz) ?_⟩) h2
      · by_cases hjk : j = k
        · rw [← hjk]; exact hjun
        · rw [getD_set_ne true hjk] at hun; exact hun
      · rw [Array.setIfInBounds_comm _ _ hji]
        exact h3.2.2

/-- The walk, as lexW. -/
def lexY (P : Program) (ops : Array Oper) (Q : Exit → Act → World → Prop) (S : World → Prop) (z : Nat) : List (Bool × Nat) → Act → World → Prop
  | [], a, w => Q .normal a w
  | (true, i) :: r, a, w => wpOp P ops Q i (fun a' w' => (i ≠ z → S w') ∧ lexY P ops Q S z r a' w') a w
  | (false, i) :: r, a, w => ∃ oi v, ops[i]? = some oi ∧ YieldsIf P ops S oi v a ∧ lexY P ops Q S z r (a.put oi.dst v) w

/-- Number z is the last one, if it is there. -/
def yLast (z : Nat) : List (Bool × Nat) → Bool
  | [] => true
  | (b, i) :: r => (i != z || (b && r.isEmpty)) && yLast z r

theorem lexY_any (hs : Region.noSelect ops = true) (hw : waitsT ops z = true) (hQ : ∀ c a d v w, Q (.panic c) (Act.put a d v) w → Q (.panic c) a w) : ∀ (l : List (Bool × Nat)) (listed : Array Bool) (a : Act) (w : World),
    lexB ops l listed = true → CL ops listed → yLast z l = true → (l ≠ [] → S w) → lexY P ops Q S z l a w → anyY P ops Q S z l.length listed a w
  | [], listed, a, w, hB, _, _, _, h => ⟨by simpa [lexB] using hB, h⟩
  | (true, i) :: r, listed, a, w, hB, hcl, hA, _, h => by
    simp only [lexB, Bool.and_eq_true, decide_eq_true_eq] at hB
    simp only [yLast, Bool.and_eq_true, Bool.or_eq_true, bne_iff_ne, ne_eq, true_and, List.isEmpty_iff] at hA
    refine ⟨fun h0 => (by rw [hB.1] at h0; cases h0), fun j hj => ?_⟩
    rw [hB.1] at hj
    obtain rfl : j = i := by simpa using hj
    refine wpOp_mono (fun a' w' h' => ⟨h'.1, lexY_any hs hw hQ r _ a' w' hB.2 (hcl.next (by rw [hB.1]; simp)) hA.2 (fun hr => h'.1 (fun e => ?_)) h'.2⟩) h
    rcases hA.1 with h1 | h1
    · exact h1 e
    · exact hr h1
  | (false, i) :: r, listed, a, w, hB, hcl, hA, hS, h => by
    simp only [lexB, Bool.and_eq_true] at hB
    simp only [yLast, Bool.and_eq_true, Bool.or_eq_true, bne_iff_ne, ne_eq, Bool.false_eq_true, false_and, or_false] at hA
    obtain ⟨oi, v, hi, hy, h'⟩ := h
    exact anyY.take hi hs hw hA.1 (fun c a w => hQ c a _ _ w) _ listed a w (Region.free_spec hi hB.1.1) hcl (by simpa using hB.1.2) hy (hS (by simp)) (lexY_any hs hw hQ r _ _ w hB.2 (hcl.next (by simpa using hB.1.2)) hA.2 (fun _ => hS (by simp)) h')

/-- The walk as a goal, each operation beside its number. -/
structure LexY (P : Program) (ops : Array Oper) (Q : Exit → Act → World → Prop) (S : World → Prop) (z : Nat) (l : List (Bool × Nat × Oper)) (a : Act) (w : World) : Prop where
  out : (∀ t, t ∈ l → ops[t.2.1]? = some t.2.2) → lexY P ops Q S z (l.map fun t => (t.1, t.2.1)) a w

theorem region_lexY {id : Nat} {a : Act} {w : World} {l : List Oper} (S : World → Prop) (z : Nat) (k : List (Bool × Nat)) (hm : P.follows .mixedOrders = true)
    (hB : (Region.noSelect l.toArray && waitsT l.toArray z && yLast z k && decide (k.length = l.toArray.size) && (k.all fun t => decide (t.2 < l.length)) && lexB l.toArray k (Array.replicate l.toArray.size false)) = true)
    (hQ : ∀ c a d v w, Q (.panic c) (Act.put a d v) w → Q (.panic c) a w) (hS : S w.drew) (h : LexY P l.toArray Q S z (lexL l k) a w.drew) : (Code.region id l.toArray true).wp P Q a w := by
  simp only [Bool.and_eq_true, decide_eq_true_eq] at hB
  obtain ⟨⟨⟨⟨⟨b1, b2⟩, b3⟩, b4⟩, b5⟩, b6⟩ := hB
  have h1 := h.out (lexL_at l k)
  rw [lexL_map l k b5] at h1
  refine wp_region_any hm ?_
  have := (lexY_any b1 b2 hQ k _ a w.drew b6 (CL.start _) b3 (fun _ => hS) h1).any
  rw [b4] at this
  exact this

theorem lexY_free {i : Nat} {o : Oper} {v : Value} {r : List (Bool × Nat × Oper)} {a : Act} {w : World} (hw : Region.wanted o (yielded ops a.tmps) = true) (hy : ∀ w', S w' → (execOp a.eval o).run P w' = .ok (.value v) w')
    (h : LexY P ops Q S z r (a.put o.dst v) w) : LexY P ops Q S z ((false, i, o) :: r) a w := ⟨fun hall => ⟨o, v, hall _ List.mem_cons_self, Or.inl ⟨hw, hy⟩, h.out (fun t ht => hall t (List.mem_cons_of_mem _ ht))⟩⟩
theorem lexY_last {o : Oper} {a : Act} {w : World}
    (h : ∀ K' : Act → World → Prop, Shut (∀ a w, Q .normal a w → K' a w) → if Region.wanted o (yielded ops a.tmps) = true then Oper.wp P o a w K' Q else K' (a.put o.dst undef) w) : LexY P ops Q S z [(true, z, o)] a w :=
  ⟨fun hall => wpOp_step (hall _ List.mem_cons_self) (fun K' hK => h K' (fun a w hW => hK a w ⟨fun h0 => absurd rfl h0, hW⟩))⟩
end
end Go.Proofs.YtkafkipjedpohaaGreatDoor

/-
  The project's machine: goOn, in any gear.
-/
namespace Go.Proofs.YtkafkipjedpohaaGreatDoor
open Go.RowKit

theorem fnAt (fr : List Fr) (i : Nat) : (frAt fr i).fn = (fr.map Fr.fn).reverse.getD i frNone.fn := by
  unfold frAt
  rw [← List.map_reverse, List.getD_eq_getElem?_getD, List.getD_eq_getElem?_getD, List.getElem?_map]
  cases fr.reverse[i]? <;> rfl

/-- What a call leaves of a run with its code. -/
def RAft (w : World) (B mb m : Nat) (F : Nat → PF) (MV : Nat → Value) (A : AdM) (u : Mc) (en : Int) (L : Bxs) (E : List Ev) (w' : World) : Prop :=
  ∃ A' : AdM, RSt w' B mb m F MV A' u en L E ∧ SameG A A' ∧ Ch B N5 A.tag A'.tag w w'

theorem RSt.goes {w w' : World} {B mb m : Nat} {F : Nat → PF} {MV : Nat → Value} {A : AdM} {s t u : Mc} {en : Int} {L : Bxs} {E : List Ev} (h : RSt w B mb m F MV A s en L E) (g : Goes w B mb m F MV s.fr.length A u en w') (kp : Kpt s t) (e1 : u.fr = t.fr) (e2 : u.high = t.high) (e3 : u.made = t.made) (hin : t.fin = 0 → ∀ f, f ∈ t.fr → f.fn < m) : RAft w B mb m F MV A u en L E w' := by
  obtain ⟨A', m1, s1, c1, f1, v1⟩ := g
  obtain ⟨k1, k2⟩ := kp
  have hl := h.st.hl
  refine ⟨A', ⟨m1, h.bx.keep c1 n55, fun k hk hk2 => h.md k hk (by rw [← k1, ← e3]; exact hk2), fun i hi hi2 => ?_, ?_, ?_⟩, s1, c1⟩
  · rw [e2] at hi2
    have hlen : ∀ (x y : List Fr), x.map Fr.fn = y.map Fr.fn → x.length = y.length := fun x y e => by simpa using congrArg List.length e
    by_cases hin2 : i < s.fr.length
    · rw [(v1 i hi).1 hin2]
      rw [fnAt, e1]
      rw [e1] at hi
      rcases k2 with ⟨a, b⟩ | ⟨g, a, b, _⟩ | ⟨a, b⟩
      · rw [a, ← fnAt]
        rw [b] at hi2
        exact h.fc i hin2 hi2
      · rw [a, List.reverse_cons, List.getD_eq_getElem?_getD, List.getElem?_append_left (by simpa using hin2), ← List.getD_eq_getElem?_getD, ← fnAt]
        rw [b, hiAt_rest _ _ _ (by omega)] at hi2
        exact h.fc i hin2 hi2
      · have hcut : ∀ {α : Type} (l : List α) (d : α) (j : Nat), j < (l.drop 1).length → (l.drop 1).reverse.getD j d = l.reverse.getD j d := fun l d j hj => by
          cases l with
          | nil => rfl
          | cons x r =>
            simp only [List.drop_succ_cons, List.drop_zero] at hj ⊢
            rw [List.reverse_cons, List.getD_eq_getElem?_getD, List.getD_eq_getElem?_getD, List.getElem?_append_left (by simpa using hj)]
        have hil : i < ((s.fr.map Fr.fn).drop 1).length := by rw [← a]; simpa using hi
        rw [a, hcut _ _ _ hil, ← fnAt]
        have hil2 : i < (s.high.drop 1).length := by rw [List.length_drop] at hil ⊢; rw [List.length_map] at hil; omega
        rw [b] at hi2
        have hi3 : hiAt s.high i = true := by unfold hiAt at hi2 ⊢; rw [hcut _ _ _ hil2] at hi2; exact hi2
        exact h.fc i hin2 hi3
    · rw [(v1 i hi).2 (by omega)]
      rw [e1] at hi ⊢
      rcases k2 with ⟨a, b⟩ | ⟨g, a, b, hz⟩ | ⟨a, b⟩
      · have := hlen _ _ a; omega
      · have hl2 : t.fr.length = s.fr.length + 1 := by have := congrArg List.length a; simpa using this
        obtain rfl : i = s.fr.length := by omega
        have hg : (frAt t.fr s.fr.length).fn = g := by
          rw [fnAt, a, List.reverse_cons, List.getD_eq_getElem?_getD, List.getElem?_append_right (by simp)]
          simp
        rw [hg]
        rw [b, hiAt_top _ _ hl.symm] at hi2
        obtain ⟨f0, r0, hfr⟩ : ∃ f r, t.fr = f :: r := by
          cases hc : t.fr with
          | nil => rw [hc] at hl2; simp at hl2
          | cons f r => exact ⟨f, r, rfl⟩
        have hfg : f0.fn = g := by rw [hfr] at a; simp only [List.map_cons] at a; injection a
        exact h.md g (by rw [← hfg]; exact hin hz f0 (by rw [hfr]; exact List.mem_cons_self)) hi2
      · have := congrArg List.length a
        simp at this
        omega
  · rw [s1.ev]
    exact h.ev.below (c1.below h.st.le)
  · rw [s1.pv]
    exact h.cp.below (c1.below h.st.le)

/-- How many steps there are until the fuel ends or an event comes. -/
def freeP (fuel : Int) (E : List Ev) (steps : Nat) : Int := (match E with | [] => fuel | e :: _ => min fuel e.st) - steps

set_option maxRecDepth 100000 in
theorem freeM {w : World} {B mb m : Nat} {F : Nat → PF} {MV : Nat → Value} {A : AdM} {s : Mc} {en : Int} {L : Bxs} {E : List Ev} (h : RSt w B mb m F MV A s en L E) (fuel : Int) (hf0 : 0 ≤ fuel) (hf : fuel ≤ 1000000) (hs : s.steps ≤ 1000000) (hE : ∀ e, e ∈ E → 0 ≤ e.st) :
    Calls Tryz.prog 103 #[ptr mb, .int .i64 fuel] w fun e w' => e = .returned (.int .i64 (freeP fuel E s.steps)) ∧ w' = w := by
  have x7 : w.cell? ⟨mb, 7, none⟩ = some (.int .i64 s.steps) := (cell_heap h.st.lay.run).trans rfl
  have x1 : w.cell? ⟨mb, 1, none⟩ = some A.g.ev := (cell_heap h.st.lay.run).trans rfl
  obtain ⟨p, c, hev, hec, hee⟩ := h.ev
  rw [hev] at x1
  cases E with
  | nil =>
    have e1 : wrap64 (fuel - (s.steps : Int)) = fuel - (s.steps : Int) := by unfold wrap64; omega
    have HQ : Hid (freeP fuel [] s.steps = fuel - (s.steps : Int)) := rfl
    generalize freeP fuel [] s.steps = fp at *
    clear h hee hev
    go_enter Tryz.func103, Tryz.ntmps103
    go_wp2
    go_ret
    exact ⟨by rw [HQ.out]; rfl, rfl⟩
  | cons ev r =>
    obtain ⟨eb, eo, rfl, hebB, hcells⟩ := hee (by simp)
    obtain ⟨k0, _, _⟩ := hcells 0 (by simp)
    simp only [Nat.zero_mul, Nat.add_zero, List.getD_cons_zero] at k0
    have h0 := hE ev List.mem_cons_self
    have e1 : wrap64 (min fuel ev.st - (s.steps : Int)) = min fuel ev.st - (s.steps : Int) := by unfold wrap64; omega
    have HQ : Hid (freeP fuel (ev :: r) s.steps = min fuel ev.st - (s.steps : Int)) := rfl
    have i1 : (0 : Int) < (r.length : Int) + 1 := by omega
    generalize freeP fuel (ev :: r) s.steps = fp at *
    clear h hee hev hcells hE
    go_enter Tryz.func103, Tryz.ntmps103
    go_wp2
    · go_ret
      have e : fp = ev.st - (s.steps : Int) := by rw [HQ.out]; omega
      exact ⟨by rw [e]; rfl, rfl⟩
    · go_ret
      have e : fp = fuel - (s.steps : Int) := by rw [HQ.out]; omega
      exact ⟨by rw [e]; rfl, rfl⟩

theorem mk_ds (f : PF) : ∀ (n p j : Nat) (k : Mk), Szk j k → (mkFrom f n p k).ds.length ≤ 3 * (j + n) + 4
  | 0, _, j, k, h => by show k.ds.length ≤ _; have := h.ds; omega
  | n + 1, p, j, k, h => by
    unfold mkFrom
    split
    · show ((k.trn _ _).ds ++ [Deed.one]).length ≤ _
      have h1 := trn_ds (f.op p) (f.ar p) k
      have h2 := h.ds
      simp
      omega
    · have := mk_ds f n (p + 1) (j + 1) _ (h.straight (f.op p) (f.ar p))
      omega

/-- What goOn leaves. -/
def GoR (w : World) (B mb m : Nat) (F : Nat → PF) (MV : Nat → Value) (A : AdM) (s : Mc) (fuel : Nat) (en : Int) (L : Bxs) (E : List Ev) (e : Ending) (w' : World) : Prop :=
  ∃ n t, 1 ≤ n ∧ Steps F n s t ∧ s.steps + n ≤ fuel ∧ (E ≠ [] → ((s.steps : Int) + n ≤ (E.headD ⟨0, 0, 0⟩).st)) ∧
    ((t.fin < 3 ∧ e = .returned (.tuple #[]) ∧ RAft w B mb m F MV A t en L E w') ∨
     (3 ≤ t.fin ∧ e = trapE t.fin ∧ ∃ u, RAft w B mb m F MV A u en L E w' ∧ t = { u with steps := u.steps + 1, cH := u.cH + if u.high.headD false = true then 1 else 0 } ∧ ∃ f' r', u.fr = f' :: r' ∧ r'.length + 1 ≤ 24))

/-- What is known of a run ahead of goOn. -/
structure Ready (m : Nat) (F : Nat → PF) (K : Nat → Nat → Bool) (H : Nat → Nat → Int) (s : Mc) (fuel : Nat) (E : List Ev) : Prop where
  inv : Inv m F K H s
  low : Low16 H s
  bd : Bd s
  fin : s.fin = 0
  steps : s.steps < fuel
  fuel : fuel ≤ 100000
  rise : Rising ((s.steps : Int) + 1) E
  ok : ∀ e, e ∈ E → EvOk m e

theorem low_go {w w' : World} {B mb m : Nat} {F : Nat → PF} {K : Nat → Nat → Bool} {H : Nat → Nat → Int} {MV : Nat → Value} {A : AdM} {s : Mc} {en : Int} {L : Bxs} {E : List Ev} {fuel : Nat} {e : Ending} (h : RSt w B mb m F MV A s en L E) (hF : Fine m F K H) (hr : Ready m F K H s fuel E) (g : StepE w B mb m F MV s.fr.length A (stepP F s) s.steps s.cH en e w') : GoR w B mb m F MV A s fuel en L E e w' := by
  obtain ⟨f, rest, hs, hf, hrest, h24⟩ := hr.inv.top
  have hleg := hf.legal hF
  have hlow := hf.low hF
  have hkp : Kpt s (stepP F s) := by
    by_cases c : (F f.fn).op f.pc = 10 ∨ (F f.fn).op f.pc = 11 ∨ (F f.fn).op f.pc = 13 ∨ (F f.fn).op f.pc = 14
    · exact step_kp hs hr.fin (Or.inr c)
    · exact step_kp hs hr.fin (Or.inl (exec_went (f := f) (out := s.out) hleg (fun e => c (Or.inl e)) (fun e => c (Or.inr (Or.inl e))) (fun e => c (Or.inr (Or.inr (Or.inl e)))) (fun e => c (Or.inr (Or.inr (Or.inr e)))) hlow hf.loc hf.stk hr.inv.arrs hr.inv.cells).fn)
  have hin : (stepP F s).fin = 0 → ∀ f, f ∈ (stepP F s).fr → f.fn < m := fun hz f hf => by
    obtain ⟨f1, r1, e1, e2, e3, _⟩ := (step_inv hF hr.inv hz).top
    rw [e1] at hf
    rcases List.mem_cons.1 hf with rfl | hf
    · exact e2.fn
    · exact (e3 f hf).fn
  have hsf := step_facts (F := F) hr.fin hr.inv.some
  refine ⟨1, stepP F s, Nat.le_refl _, .more hr.fin (.none _), hr.steps, fun hE => ?_, ?_⟩
  · cases E with
    | nil => exact absurd rfl hE
    | cons ev r => exact hr.rise.1
  · rcases g with ⟨g1, g2, g3⟩ | ⟨g1, g2, g3⟩
    · have hhi := trap_high (F := F) hs hr.fin g1
      obtain ⟨f', hf'⟩ := trap_len (F := F) hs hr.fin g1
      refine Or.inr ⟨g1, g2, { stepP F s with steps := s.steps, cH := s.cH }, h.goes g3 hkp rfl rfl rfl hin, ?_, f', rest, hf', h24⟩
      have e1 := hsf.steps
      have e2 := step_cHeq (F := F) hs
      rw [← hhi] at e2
      show stepP F s = { stepP F s with steps := s.steps + 1, cH := s.cH + if (stepP F s).high.headD false = true then 1 else 0 }
      rw [← e1, ← e2]
    · exact Or.inl ⟨g1, g2, h.goes g3 hkp rfl rfl rfl hin⟩

/-- The stretch that comes next, as it lies in memory. -/
theorem RSt.stretch {w : World} {B mb m : Nat} {F : Nat → PF} {MV : Nat → Value} {A : AdM} {s : Mc} {en : Int} {L : Bxs} {E : List Ev} (h : RSt w B mb m F MV A s en L E) {f : Fr} {rest : List Fr} (hs : s.fr = f :: rest) (hhi : s.high.headD false = true) (hpc : f.pc < (F f.fn).cn) :
    ∃ vb cap g cp, A.g.CV rest.length = .slice (some ⟨vb, 0, none⟩) (F f.fn).cn cap ∧ w.cell? ⟨vb, f.pc * 2, none⟩ = some (.int .i64 (mkOf (F f.fn) f.pc).seen) ∧ w.cell? ⟨vb, f.pc * 2 + 1, none⟩ = some (.func (.func g) #[] cp) ∧ StrV L (mkOf (F f.fn) f.pc).ds (.func (.func g) #[] cp) ∧ FnV (.func (.func g) #[] cp) g cp ∧ vb < w.heap.size := by
  have hlen : s.fr.length = rest.length + 1 := by rw [hs]; rfl
  have e0 : frAt s.fr rest.length = f := by rw [hs]; exact frAt_top _ _
  have hh : hiAt s.high rest.length = true := by
    have hl := h.st.hl
    cases hc : s.high with
    | nil => rw [hc] at hhi; cases hhi
    | cons b r =>
      rw [hc] at hhi hl
      rw [hiAt_top b r (by simp at hl; omega)]
      exact hhi
  have hcv := h.fc rest.length (by omega) hh
  rw [e0] at hcv
  obtain ⟨vb, cap, arr, h1, h2, h3⟩ := hcv
  obtain ⟨a1, vd, a2, b, hv, hd⟩ := h3 f.pc hpc
  have hblk := (h.bx _ h2).1
  exact ⟨vb, cap, 176, #[ptr b], h1, (cell_heap hblk).trans a1, by rw [cell_heap hblk, ← hv]; exact a2, ⟨b, rfl, hd⟩, ⟨rfl, fun args X => by go_simp⟩, heap_lt hblk⟩

theorem high_go {w : World} {B mb m : Nat} {F : Nat → PF} {K : Nat → Nat → Bool} {H : Nat → Nat → Int} {MV : Nat → Value} {A : AdM} {s : Mc} {en : Int} {L : Bxs} {E : List Ev} {fuel : Nat} (h : RSt w B mb m F MV A s en L E) (hF : Fine m F K H) (hr : Ready m F K H s fuel E) (hhi : s.high.headD false = true) {f : Fr} {rest : List Fr} (hs : s.fr = f :: rest) (hfree : ((mkOf (F f.fn) f.pc).seen : Int) ≤ freeP fuel E s.steps) {g : Nat} {cp : Array Value} (hv : StrV L (mkOf (F f.fn) f.pc).ds (.func (.func g) #[] cp)) :
    Calls Tryz.prog g (#[ptr mb, ptr (A.FB rest.length)] ++ cp) w (GoR w B mb m F MV A s fuel en L E) := by
  obtain ⟨f2, rest2, hs2, hf, hrest, h24⟩ := hr.inv.top
  rw [hs] at hs2
  injection hs2 with e1 e2
  subst e1 e2
  have hsf : s.f = f := by unfold Mc.f; rw [hs]; rfl
  have hsr : s.r = rest := by unfold Mc.r; rw [hs]; rfl
  have hlen : s.fr.length = rest.length + 1 := by rw [hs]; rfl
  have hff := hF.fn f.fn hf.fn
  have hbd := hr.bd
  have hst := hr.steps
  have hfu := hr.fuel
  have hl : LowOk m F K H rest.length s := ⟨hr.inv, hr.low, hr.fin, by omega, by have := hbd.cH; omega, by have := hbd.out; omega, by have := hbd.arr; omega, hhi, by rw [hsr]⟩
  have hfp : s.steps + (mkOf (F f.fn) f.pc).seen ≤ fuel ∧ (E ≠ [] → (s.steps : Int) + (mkOf (F f.fn) f.pc).seen ≤ (E.headD ⟨0, 0, 0⟩).st) := by
    unfold freeP at hfree
    cases E with
    | nil => exact ⟨by simp only at hfree; omega, fun hE => absurd rfl hE⟩
    | cons ev r =>
      simp only at hfree
      refine ⟨by omega, fun _ => ?_⟩
      simp only [List.headD_cons]
      omega
  have hok := stretch_t hF hl hbd (by rw [hsf]; omega)
  rw [hsf] at hok
  obtain ⟨new, n, t, d1, n1, n2, hsteps, htst, hkp, hdeeds, hend⟩ := hok
  have hds : (mkOf (F f.fn) f.pc).ds = new := by rw [d1]; rfl
  have hseen0 : (mkOf (F f.fn) f.pc).seen - (⟨[], [], 0, 0⟩ : Mk).seen = (mkOf (F f.fn) f.pc).seen := Nat.sub_zero _
  rw [hseen0] at n2 hend
  have hne : new ≠ [] := fun e => by
    rw [e] at hend
    rcases hend with ⟨_, _, he⟩ | ⟨h3, he, _⟩
    · have : s = t := he
      rw [← this] at htst
      omega
    · have hz := hr.fin
      have : s.fin = t.fin := by
        have he' : s = _ := he
        rw [he']
      omega
  have hdl : new.length ≤ 1000 := by
    have := mk_ds (F f.fn) ((F f.fn).cn - f.pc) f.pc 0 ⟨[], [], 0, 0⟩ ⟨rfl, by simp, by simp, Nat.le_refl _⟩
    have h2 : (mkOf (F f.fn) f.pc).ds.length ≤ 3 * (0 + ((F f.fn).cn - f.pc)) + 4 := this
    rw [hds] at h2
    have := hff.cn
    omega
  have hgear := h.st.gear hs
  rw [hhi] at hgear
  rw [hds] at hv
  refine (stretchM hF h.st h.bx hlen hgear hdeeds (by rw [hr.fin]; decide) hne hdl hv).mono ?_
  rintro e w' ⟨hres, hgo⟩
  rw [← hlen] at hgo
  have hin : t.fin = 0 → ∀ f, f ∈ t.fr → f.fn < m := fun hz f hf => by
    obtain ⟨f1, r1, e1, e2, e3, _⟩ := (steps_inv hF hsteps hr.inv hr.low hz).1.top
    rw [e1] at hf
    rcases List.mem_cons.1 hf with rfl | hf
    · exact e2.fn
    · exact (e3 f hf).fn
  refine ⟨n, t, n1, hsteps, by omega, fun hE => by have := hfp.2 hE; omega, ?_⟩
  rcases hend with ⟨_, k2, k3⟩ | ⟨k1, k2, k3, k4, f', k5⟩
  · rw [k3] at hres hgo
    refine Or.inl ⟨k2, ?_, h.goes hgo hkp rfl rfl rfl hin⟩
    rcases hres with ⟨a, _⟩ | ⟨_, b⟩
    · omega
    · exact b
  · rw [k2] at hres hgo
    refine Or.inr ⟨k1, ?_, _, h.goes hgo hkp rfl rfl rfl hin, ?_, f', rest, by rw [k5, hsr], h24⟩
    · rcases hres with ⟨_, b⟩ | ⟨a, _⟩
      · exact b
      · exact absurd (show t.fin < 3 from a) (by omega)
    · have hh : t.high.headD false = true := by rw [k3]; exact hhi
      show t = { t with steps := t.steps - 1 + 1, cH := t.cH - 1 + if t.high.headD false = true then 1 else 0 }
      rw [if_pos hh, show t.steps - 1 + 1 = t.steps by omega, show t.cH - 1 + 1 = t.cH by omega]

set_option maxRecDepth 100000 in
set_option maxHeartbeats 2000000 in
theorem goOnM {w : World} {B mb m : Nat} {F : Nat → PF} {K : Nat → Nat → Bool} {H : Nat → Nat → Int} {MV : Nat → Value} {A : AdM} {s : Mc} {en : Int} {L : Bxs} {E : List Ev} (h : RSt w B mb m F MV A s en L E) (hF : Fine m F K H) (fuel : Nat) (hr : Ready m F K H s fuel E) :
    Calls Tryz.prog 91 #[ptr mb, .int .i64 fuel] w (GoR w B mb m F MV A s fuel en L E) := by
  obtain ⟨f, rest, hs, hf, _, h24⟩ := hr.inv.top
  have hlen : s.fr.length = rest.length + 1 := by rw [hs]; rfl
  have hfrow := h.st.lay.fr
  rw [hlen] at hfrow
  obtain ⟨gb, gcap, hgv, _, _, _, _⟩ := hfrow.form (by omega)
  rw [hgv] at hfrow
  have x3 : w.cell? ⟨mb, 3, none⟩ = some (.slice (some ⟨gb, 0, none⟩) (rest.length + 1) gcap) := by rw [cell_heap h.st.lay.run, ← hgv]; rfl
  have q0 : w.cell? ⟨gb, rest.length, none⟩ = some (.pointer (some ⟨A.FB rest.length, 0, none⟩)) := hfrow.cell (i := rest.length) (by omega)
  obtain ⟨t4, tne, t1, _, _, _, tz⟩ := h.st.top hs
  have hgear := h.st.gear hs
  have hnq := fun X => codeNil hgear X
  obtain ⟨p4, n4, c4, hsl4⟩ := codeSlc hgear
  have HS := hid (fun (X : World) (hX : Below w.heap.size w X) => (show Calls Tryz.prog 104 #[ptr mb, ptr (A.FB rest.length)] X (GoR w B mb m F MV A s fuel en L E) from by
    have hst := hr.steps
    have hfu := hr.fuel
    have hbd := hr.bd
    refine (stepM (h.st.below hX) hF hr.inv hr.low hr.fin (by omega) (by have := hbd.cH; omega) (by have := hbd.out; omega) (by have := hbd.arr; omega) rest.length hlen).mono ?_
    rintro e w' hg
    obtain ⟨n, t, a1, a2, a3, a4, a5⟩ := low_go (h.below hX) hF hr hg
    refine ⟨n, t, a1, a2, a3, a4, ?_⟩
    rcases a5 with ⟨b1, b2, A', b3, b4, b5⟩ | ⟨b1, b2, u, ⟨A', b3, b4, b5⟩, b6⟩
    · exact Or.inl ⟨b1, b2, A', b3, b4, (Ch.of_below hX).trans b5⟩
    · exact Or.inr ⟨b1, b2, u, ⟨A', b3, b4, (Ch.of_below hX).trans b5⟩, b6⟩))
  have HG := hid (fun (X : World) (hX : Below w.heap.size w X) (hhi : s.high.headD false = true) (hfree : ((mkOf (F f.fn) f.pc).seen : Int) ≤ freeP fuel E s.steps) (g : Nat) (cp : Array Value) (hv : StrV L (mkOf (F f.fn) f.pc).ds (.func (.func g) #[] cp)) => (show Calls Tryz.prog g (#[ptr mb, ptr (A.FB rest.length)] ++ cp) X (GoR w B mb m F MV A s fuel en L E) from by
    refine (high_go (h.below hX) hF hr hhi hs hfree hv).mono ?_
    rintro e w' ⟨n, t, a1, a2, a3, a4, a5⟩
    refine ⟨n, t, a1, a2, a3, a4, ?_⟩
    rcases a5 with ⟨b1, b2, A', b3, b4, b5⟩ | ⟨b1, b2, u, ⟨A', b3, b4, b5⟩, b6⟩
    · exact Or.inl ⟨b1, b2, A', b3, b4, (Ch.of_below hX).trans b5⟩
    · exact Or.inr ⟨b1, b2, u, ⟨A', b3, b4, (Ch.of_below hX).trans b5⟩, b6⟩))
  have HE := hid (show ∀ e w', GoR w B mb m F MV A s fuel en L E e w' → (∃ t, e = trapE t) ∨ e = .returned (.tuple #[]) from fun e w' hg => by
    obtain ⟨n, t, _, _, _, _, a5⟩ := hg
    rcases a5 with ⟨_, b2, _⟩ | ⟨_, b2, _⟩
    · exact Or.inr b2
    · exact Or.inl ⟨_, b2⟩)
  have HFr := hid (fun (X : World) (hX : Below w.heap.size w X) => freeM (h.below hX) (fuel : Int) (by omega) (by have := hr.fuel; omega) (by have := hr.steps; have := hr.fuel; omega) (fun e he => (hr.ok e he).1))
  have hst := hr.steps
  have HSt := hid (fun (hhi : s.high.headD false = true) => h.stretch hs hhi hf.pc)
  have hcnz := (hF.fn f.fn hf.fn).cn
  generalize hR : GoR w B mb m F MV A s fuel en L E = R at *
  clear hF hfrow hgv hR hgear
  rw [hsl4] at t4 hnq
  have hrl : rest.length ≤ 100000 := by omega
  generalize hhd : s.high.headD false = hi at *
  generalize hfre : freeP fuel E s.steps = fre at *
  have hpcz := hf.pc
  generalize hsn : (mkOf (F f.fn) f.pc).seen = sn at *
  generalize (F f.fn).cn = cn at *
  generalize hpcl : f.pc = pcl at *
  clear hf h hr hs hfre hhd
  generalize hfb : A.FB rest.length = fb at *
  clear hfb
  go_enter Tryz.func91, Tryz.ntmps91
  go_wp2_with fail
  refine (topF w mb 3 rest.length gb gcap _ x3 q0 hrl).mono ?_
  rintro e w1 ⟨rfl, k1, hw1⟩
  have hB1 : Below w.heap.size w w1 := by rw [hw1]; exact below_drewN (Below.refl _ _) _
  have HB1 := hid hB1
  clear hw1 hB1 x3 q0
  have HC := hid (fun (w' : World) (hb : Below w.heap.size w w') => (show w'.cell? ⟨fb, 4, none⟩ = some (.slice p4 n4 c4) ∧ w'.cell? ⟨fb, 1, none⟩ = some (.int .i64 pcl) from ⟨(hb.cell (p := ⟨fb, 4, none⟩) tz).trans t4, (hb.cell (p := ⟨fb, 1, none⟩) tz).trans t1⟩))
  clear t4 t1
  go_wp2_with fail
  cases hi with
  | false =>
    refine region_lex (Below w.heap.size w) [(false, 0), (false, 1), (false, 2), (false, 3), (false, 4), (false, 5), (false, 6), (false, 7), (false, 8), (false, 9), (false, 10), (false, 11), (false, 12), (false, 13), (false, 14), (false, 15), (false, 16), (false, 17), (false, 18), (false, 19), (false, 20), (false, 21)] (by kernel_rfl) (by kernel_rfl) (fun c0 a0 d0 v0 x0 h0 => panic_body (P := Tryz.prog) Tryz.f91 R c0 a0 d0 v0 x0 h0) HB1.out.drew ?_
    simp only [lexL, List.getElem?_cons_zero, List.getElem?_cons_succ]
    iterate 6 (refine lexW_free (by rfl) (by intro w' hS'; obtain ⟨q4, _⟩ := HC.out w' hS'; clear hS'; go_simp; exact rfl) ?_; simp only [Act.put, List.setIfInBounds_toArray, List.set_cons_zero, List.set_cons_succ])
    iterate 15 (refine lexW_skip (by rfl) ?_; simp only [Act.put, List.setIfInBounds_toArray, List.set_cons_zero, List.set_cons_succ])
    refine lexW_free (by rfl) (by intro w' hS'; clear hS'; go_simp; exact rfl) ?_
    simp only [Act.put, List.setIfInBounds_toArray, List.set_cons_zero, List.set_cons_succ]
    refine lexW_done ?_
    go_wp2_with fail
    refine (HS.out _ HB1.out.drew).mono ?_
    rintro e w2 h2
    have H2 := hid h2
    rcases HE.out e w2 h2 with ⟨t, rfl⟩ | rfl
    · exact ⟨rfl, H2.out⟩
    · clear h2
      go_wp2
      go_end0
      exact H2.out
  | true =>
    obtain ⟨vb, cap, g, cp, hcv, y0, y1, hstv, hfn, hvbz⟩ := HSt.out rfl
    rw [hsl4] at hcv
    injection hcv with e1 e2 e3
    subst e1 e3
    have HV := hid (And.intro hstv hfn.2)
    have HC2 := hid (fun (w' : World) (hb : Below w.heap.size w w') => (show w'.cell? ⟨vb, pcl * 2, none⟩ = some (.int .i64 sn) ∧ w'.cell? ⟨vb, pcl * 2 + 1, none⟩ = some (.func (.func g) #[] cp) from ⟨(hb.cell (p := ⟨vb, pcl * 2, none⟩) hvbz).trans y0, (hb.cell (p := ⟨vb, pcl * 2 + 1, none⟩) hvbz).trans y1⟩))
    have i0 : (0 : Int) ≤ (pcl : Int) := by omega
    have i1 : (pcl : Int) < (n4 : Int) := by omega
    clear e2
    have hcf := hfn.2
    clear y0 y1 hstv hfn HSt
    refine region_lex (Below w.heap.size w) [(false, 0), (false, 1), (false, 2), (false, 3), (false, 4), (false, 5), (false, 6), (false, 7), (false, 8), (false, 9), (false, 10), (false, 11), (false, 12), (false, 13), (false, 14), (false, 15), (false, 16), (false, 17), (false, 18), (true, 19), (false, 20), (false, 21)] (by kernel_rfl) (by kernel_rfl) (fun c0 a0 d0 v0 x0 h0 => panic_body (P := Tryz.prog) Tryz.f91 R c0 a0 d0 v0 x0 h0) HB1.out.drew ?_
    simp only [lexL, List.getElem?_cons_zero, List.getElem?_cons_succ]
    iterate 19 (refine lexW_free (by rfl) (by intro w' hS'; obtain ⟨q4, q5⟩ := HC.out w' hS'; obtain ⟨q6, q7⟩ := HC2.out w' hS'; clear hS'; go_simp; exact rfl) ?_; simp only [Act.put, List.setIfInBounds_toArray, List.set_cons_zero, List.set_cons_succ])
    have HB2 := hid HB1.out.drew
    generalize w1.drew = w2 at *
    refine lexW_sole (fun K hK => ?_)
    go_simp
    refine (HFr.out w2 HB2.out).mono ?_
    rintro e w3 ⟨rfl, hw3⟩
    rw [hw3]
    clear hw3 w3
    refine hK.out _ _ HB2.out ?_
    clear hK K
    by_cases hle : (sn : Int) ≤ fre
    · have hd : decide ((sn : Int) ≤ fre) = true := by simpa using hle
      have HLE := hid hle
      clear hle
      iterate 2 (refine lexW_free (by rfl) (by intro w' hS'; clear hS'; go_simp; exact rfl) ?_; simp only [Act.put, List.setIfInBounds_toArray, List.set_cons_zero, List.set_cons_succ])
      refine lexW_done ?_
      go_wp2_with fail
      refine region_lexY (Below w.heap.size w) 13 [(false, 0), (false, 1), (false, 2), (false, 3), (false, 4), (false, 5), (false, 6), (false, 7), (false, 8), (false, 9), (false, 10), (false, 11), (false, 12), (true, 13)] (by kernel_rfl) (by kernel_rfl) (fun c0 a0 d0 v0 x0 h0 => panic_body (P := Tryz.prog) Tryz.f91 R c0 a0 d0 v0 x0 h0) HB2.out.drew ?_
      simp only [lexL, List.getElem?_cons_zero, List.getElem?_cons_succ]
      iterate 13 (refine lexY_free (by rfl) (by intro w' hS'; obtain ⟨q4, q5⟩ := HC.out w' hS'; obtain ⟨q6, q7⟩ := HC2.out w' hS'; clear hS'; go_simp; exact rfl) ?_; simp only [Act.put, List.setIfInBounds_toArray, List.set_cons_zero, List.set_cons_succ])
      have HB3 := hid HB2.out.drew
      generalize w2.drew = w3 at *
      refine lexY_last (fun K hK => ?_)
      go_simp
      refine (HG.out w3 HB3.out (by first | trivial | rfl) HLE.out g cp HV.out.1).mono ?_
      rintro e w4 h4
      have H4 := hid h4
      rcases HE.out e w4 h4 with ⟨t, rfl⟩ | rfl
      · exact ⟨rfl, H4.out⟩
      · clear h4
        refine hK.out _ _ ?_
        clear hK K
        go_wp2
        refine bodyPost_ret (results_none rfl _ _ _) rfl ?_
        exact H4.out
    · have hd : decide ((sn : Int) ≤ fre) = false := by simpa using hle
      clear hle
      iterate 2 (refine lexW_free (by rfl) (by intro w' hS'; clear hS'; go_simp; exact rfl) ?_; simp only [Act.put, List.setIfInBounds_toArray, List.set_cons_zero, List.set_cons_succ])
      refine lexW_done ?_
      go_wp2_with fail
      refine (HS.out _ HB2.out).mono ?_
      rintro e w4 h2
      have H2 := hid h2
      rcases HE.out e w4 h2 with ⟨t, rfl⟩ | rfl
      · exact ⟨rfl, H2.out⟩
      · clear h2
        go_wp2
        go_end0
        exact H2.out
end Go.Proofs.YtkafkipjedpohaaGreatDoor
