import Derived.Test.YtkafkipjedpohaaGreatDoorPureJ
import Derived.Test.YtkafkipjedpohaaGreatDoorM3

/-
  A stretch, once more: what is known where it is trapped. No Go here.
-/
namespace Go.Proofs.YtkafkipjedpohaaGreatDoor

variable {m : Nat} {F : Nat → PF} {K : Nat → Nat → Bool} {H : Nat → Nat → Int}

theorem trap_high {l : Mc} {f : Fr} {rest : List Fr} (hs : l.fr = f :: rest) (h0 : l.fin = 0) (h3 : 3 ≤ (stepP F l).fin) : (stepP F l).high = l.high := by
  rw [stepP_at hs] at h3 ⊢
  unfold stepQ at h3 ⊢
  dsimp only at h3 ⊢
  generalize (if l.high.headD false = true then 1 else 0) = c at *
  split
  · rfl
  · rename_i e10
    rw [if_neg e10] at h3
    split
    · split <;> rfl
    · rename_i e11
      rw [if_neg e11] at h3
      split
      · rename_i e13
        rw [if_pos e13] at h3
        unfold callP at h3 ⊢
        split
        · rfl
        · rename_i g r hd
          rw [hd] at h3
          dsimp only at h3
          split
          · rfl
          · rename_i c1
            rw [if_neg c1] at h3
            split
            · rfl
            · rename_i c2
              rw [if_neg c2] at h3
              exact absurd (show 3 ≤ l.fin from h3) (by omega)
      · rename_i e13
        rw [if_neg e13] at h3
        split
        · rename_i e14
          rw [if_pos e14] at h3
          unfold returnP at h3 ⊢
          split
          · rfl
          · rename_i v q hst
            rw [hst] at h3
            dsimp only at h3
            split
            · exact absurd h3 (by simp)
            · exact absurd (show 3 ≤ l.fin from h3) (by omega)
        · rfl

/-- What a step leaves of the frames' functions and gears. -/
def Kpt (s s' : Mc) : Prop :=
  s'.made = s.made ∧ ((s'.fr.map Fr.fn = s.fr.map Fr.fn ∧ s'.high = s.high) ∨ (∃ g, s'.fr.map Fr.fn = g :: s.fr.map Fr.fn ∧ s'.high = s.made g :: s.high ∧ s'.fin = 0) ∨ (s'.fr.map Fr.fn = (s.fr.map Fr.fn).drop 1 ∧ s'.high = s.high.drop 1))
theorem Kpt.of {s s1 s2 : Mc} (h1 : s1.made = s.made) (h2 : s1.fr.map Fr.fn = s.fr.map Fr.fn) (h3 : s1.high = s.high) (h : Kpt s1 s2) : Kpt s s2 := by
  unfold Kpt at *
  rw [h1, h2, h3] at h
  exact h
theorem step_kp {l : Mc} {f : Fr} {rest : List Fr} (hs : l.fr = f :: rest) (h0 : l.fin = 0) (hx : (execP ((F f.fn).op f.pc) ((F f.fn).ar f.pc) f l.arr l.out).1.fn = f.fn ∨ (F f.fn).op f.pc = 10 ∨ (F f.fn).op f.pc = 11 ∨ (F f.fn).op f.pc = 13 ∨ (F f.fn).op f.pc = 14) : Kpt l (stepP F l) := by
  have hm : l.fr.map Fr.fn = f.fn :: rest.map Fr.fn := by rw [hs]; rfl
  rw [stepP_at hs]
  unfold stepQ
  dsimp only
  generalize (if l.high.headD false = true then 1 else 0) = c at *
  split
  · exact ⟨rfl, Or.inl ⟨by rw [hm]; rfl, rfl⟩⟩
  · rename_i e10
    split
    · split
      · exact ⟨rfl, Or.inl ⟨rfl, rfl⟩⟩
      · exact ⟨rfl, Or.inl ⟨by rw [hm]; rfl, rfl⟩⟩
    · rename_i e11
      split
      · unfold callP
        split
        · exact ⟨rfl, Or.inl ⟨rfl, rfl⟩⟩
        · rename_i g r hd
          split
          · exact ⟨rfl, Or.inl ⟨by rw [hm]; rfl, rfl⟩⟩
          · split
            · exact ⟨rfl, Or.inl ⟨by rw [hm]; rfl, rfl⟩⟩
            · exact ⟨rfl, Or.inr (Or.inl ⟨g.n.toNat, by rw [hm]; rfl, rfl, h0⟩)⟩
      · rename_i e13
        split
        · unfold returnP
          split
          · exact ⟨rfl, Or.inl ⟨rfl, rfl⟩⟩
          · split
            · exact ⟨rfl, Or.inr (Or.inr ⟨by rw [hm]; rfl, rfl⟩)⟩
            · exact ⟨rfl, Or.inr (Or.inr ⟨by rw [hm]; rfl, rfl⟩)⟩
        · rename_i e14
          have hx' := hx.resolve_right (by omega)
          refine ⟨rfl, Or.inl ⟨?_, rfl⟩⟩
          rw [hm]
          show (if _ then _ else _ : Fr).fn :: rest.map Fr.fn = _
          congr 1
          split
          · exact hx'
          · exact hx'

theorem steps_inv (hF : Fine m F K H) {n : Nat} {s t : Mc} (h : Steps F n s t) : Inv m F K H s → Low16 H s → t.fin = 0 → Inv m F K H t ∧ Low16 H t := by
  induction h with
  | none s => exact fun h1 h2 _ => ⟨h1, h2⟩
  | more h0 hst ih =>
    intro h1 h2 ht
    rename_i n s t
    have hz : (stepP F s).fin = 0 := by
      cases hst with
      | none => exact ht
      | more h _ => exact h
    exact ih (step_inv hF h1 hz) (step16 hF h1 h2 hz) ht

/-- What the rest of a stretch does: n steps, or fewer, the last of which is trapped. -/
def RestT (F : Nat → PF) (m k0 : Nat) (l h : Mc) (k k' : Mk) : Prop :=
  ∃ new n t, k'.ds = k.ds ++ new ∧ 1 ≤ n ∧ n ≤ k'.seen - k.seen ∧ Steps F n l t ∧ t.steps = l.steps + n ∧ Kpt l t ∧ DeedsOk F m k0 new h ∧
    ((n = k'.seen - k.seen ∧ t.fin < 3 ∧ dexecs F new h = t) ∨ (3 ≤ t.fin ∧ dexecs F new h = { t with steps := t.steps - 1, cH := t.cH - 1 } ∧ t.high = l.high ∧ 1 ≤ t.cH ∧ ∃ f', t.fr = f' :: l.r))

theorem rest_t (hF : Fine m F K H) (k0 : Nat) (g : Nat) : ∀ (n p : Nat) (k : Mk) (l h : Mc), LowOk m F K H k0 l → Bd l → Rel l h k → l.f.pc = p → l.f.fn = g → n = (F g).cn - p → l.steps + ((mkFrom (F g) n p k).seen - k.seen) ≤ 100000 → RestT F m k0 l h k (mkFrom (F g) n p k)
  | 0, p, k, l, h, hl, hbd, r, hp, hg, hn, hs => by
    have h1 := hl.top.1.pc
    rw [hg, hp] at h1
    omega
  | n + 1, p, k, l, h, hl, hbd, r, hp, hg, hn, hs => by
    obtain ⟨t1, t2, t3⟩ := hl.top
    have hop : (F l.f.fn).op l.f.pc = (F g).op p := by rw [hp, hg]
    have har : (F l.f.fn).ar l.f.pc = (F g).ar p := by rw [hp, hg]
    have hstp := step_facts (F := F) hl.fin hl.inv.some
    have hkp : Kpt l (stepP F l) := by
      by_cases c : (F l.f.fn).op l.f.pc = 10 ∨ (F l.f.fn).op l.f.pc = 11 ∨ (F l.f.fn).op l.f.pc = 13 ∨ (F l.f.fn).op l.f.pc = 14
      · exact step_kp hl.fr hl.fin (Or.inr c)
      · exact step_kp hl.fr hl.fin (Or.inl (exec_went (f := l.f) (out := l.out) (t1.legal hF) (fun e => c (Or.inl e)) (fun e => c (Or.inr (Or.inl e))) (fun e => c (Or.inr (Or.inr (Or.inl e)))) (fun e => c (Or.inr (Or.inr (Or.inr e)))) (t1.low hF) t1.loc t1.stk hl.inv.arrs hl.inv.cells).fn)
    unfold mkFrom at hs ⊢
    by_cases ht : turnsP ((F g).op p) = true
    · rw [if_pos ht] at hs ⊢
      obtain ⟨new, n1, n2, n3⟩ := turn_any hF hl r hop har ht
      have e : (k.turn ((F g).op p) ((F g).ar p)).seen - k.seen = 1 := by
        show (k.trn _ _).seen + 1 - k.seen = 1
        rw [trn_seen]
        omega
      refine ⟨new, 1, stepP F l, n1, Nat.le_refl _, by omega, .more hl.fin (.none _), hstp.steps, hkp, n2, ?_⟩
      rcases n3 with ⟨a1, a2⟩ | ⟨a1, a2⟩
      · exact Or.inl ⟨e.symm, a1, a2⟩
      · have hc : (stepP F l).cH = l.cH + 1 := by rw [step_cHeq hl.fr, if_pos hl.high]
        refine Or.inr ⟨a1, ?_, trap_high hl.fr hl.fin a1, by omega, trap_len hl.fr hl.fin a1⟩
        rw [a2, hstp.steps]
        rw [hc]
        rfl
    · rw [if_neg ht] at hs ⊢
      have ht' : turnsP ((F g).op p) = false := by simpa using ht
      have hseen : (k.straight ((F g).op p) ((F g).ar p)).seen = k.seen + 1 := by unfold Mk.straight; simp only; rw [str_seen]
      have hmono := mk_seen (F g) n (p + 1) (k.straight ((F g).op p) ((F g).ar p))
      obtain ⟨new, n1, n2, n3⟩ := one_any hF hl r hop har ht'
      have h4 : (F g).op p ≠ 10 ∧ (F g).op p ≠ 11 ∧ (F g).op p ≠ 13 ∧ (F g).op p ≠ 14 := by simpa [turnsP] using ht'
      have hst := step_exec hl hop har h4.1 h4.2.1 h4.2.2.1 h4.2.2.2
      rcases n3 with ⟨a1, a2, a3⟩ | ⟨a1, a2⟩
      · have hlow := t1.low hF
        have hleg := t1.legal hF
        rw [hop, har] at hlow hleg
        have hw := exec_went (f := l.f) (out := l.out) hleg h4.1 h4.2.1 h4.2.2.1 h4.2.2.2 hlow t1.loc t1.stk hl.inv.arrs hl.inv.cells
        have hz : (execP ((F g).op p) ((F g).ar p) l.f l.arr l.out).2.2.2 = 0 := by have := a1; rw [hst] at this; exact this
        rw [if_pos hz] at hst
        have hI := step_inv hF hl.inv a1
        have h16 := step16 hF hl.inv hl.low a1
        have hbd' := Bd.step (F := F) hbd hl.fin hl.fr
        have hst1 := hstp.steps
        have hlen : (stepP F l).steps ≤ 100000 := by omega
        have hl' : LowOk m F K H k0 (stepP F l) := ⟨hI, h16, a1, hlen, by have := hbd'.cH; omega, by have := hbd'.out; omega, by have := hbd'.arr; omega, by rw [hst]; exact hl.high, by rw [hst]; exact hl.len⟩
        have hpc' : (stepP F l).f.pc = p + 1 := by rw [hst]; show l.f.pc + 1 = p + 1; rw [hp]
        have hfn' : (stepP F l).f.fn = g := by rw [hst]; show (execP ((F g).op p) ((F g).ar p) l.f l.arr l.out).1.fn = g; rw [hw.fn, hg]
        obtain ⟨new2, n', t, b1, b2, b3, b4, b5, b5', b6, b7⟩ := rest_t hF k0 g n (p + 1) (k.straight ((F g).op p) ((F g).ar p)) (stepP F l) (dexecs F new h) hl' hbd' a3 hpc' hfn' (by omega) (by omega)
        refine ⟨new ++ new2, n' + 1, t, by rw [b1, n1]; simp, by omega, by omega,   .more hl.fin b4, by omega, Kpt.of (by rw [hst]) (by rw [hst, hl.fr]; show (execP ((F g).op p) ((F g).ar p) l.f l.arr l.out).1.fn :: _ = _; rw [hw.fn]; rfl) (by rw [hst]) b5', deeds_append _ _ _ n2 (fun _ => b6) (by rw [r.fin]; decide), ?_⟩
        rw [dexecs_append _ _ _ (by omega)]
        have hh1 : (stepP F l).high = l.high := by rw [hst]
        have hr1 : (stepP F l).r = l.r := by rw [hst]; rfl
        rw [hh1, hr1] at b7
        rcases b7 with ⟨c1, c2, c3⟩ | ⟨c1, c2, c3⟩
        · exact Or.inl ⟨by omega, c2, c3⟩
        · exact Or.inr ⟨c1, c2, c3⟩
      · obtain ⟨ds2, e2⟩ : ∃ ds2, (mkFrom (F g) n (p + 1) (k.straight ((F g).op p) ((F g).ar p))).ds = (k.straight ((F g).op p) ((F g).ar p)).ds ++ ds2 := by
          exact mk_grows (F g) n (p + 1) _
        have hc : (stepP F l).cH = l.cH + 1 := by rw [hst]
        refine ⟨new ++ ds2, 1, stepP F l, by rw [e2, n1]; simp, Nat.le_refl _, by omega, .more hl.fin (.none _), hstp.steps, hkp, ?_, Or.inr ⟨a1, ?_, trap_high hl.fr hl.fin a1, by omega, trap_len hl.fr hl.fin a1⟩⟩
        · exact deeds_append _ _ _ n2 (fun h => by rw [a2] at h; exact absurd (show (stepP F l).fin < 3 from h) (by omega)) (by rw [r.fin]; decide)
        · rw [dexecs_trap _ _ _ (by rw [a2]; exact a1) (by rw [r.fin]; decide), a2, hstp.steps, hc]
          rfl

/-- A stretch, from its beginning on. -/
theorem stretch_t (hF : Fine m F K H) {k0 : Nat} {l : Mc} (hl : LowOk m F K H k0 l) (hbd : Bd l) (hs : l.steps + (mkOf (F l.f.fn) l.f.pc).seen ≤ 100000) : RestT F m k0 l l ⟨[], [], 0, 0⟩ (mkOf (F l.f.fn) l.f.pc) := by
  have e : l = { l with fr := { l.f with pc := l.f.pc + (0 - 0), stk := (([] : List Opd).map (Opd.val l.f.loc)) ++ l.f.stk } :: l.r, steps := l.steps + (0 - 0), cH := l.cH + (0 - 0) } := by
    have := hl.fr
    clear hs hbd hl
    obtain ⟨fr, arr, out, gives, steps, fin, high, made, cH, cU, cD⟩ := l
    cases fr with
    | nil => simp [Mc.f, Mc.r] at this
    | cons f r => rfl
  exact rest_t hF k0 l.f.fn _ _ ⟨[], [], 0, 0⟩ l l hl hbd (rel_self (k := ⟨[], [], 0, 0⟩) e hl.fr (fun o ho => absurd ho List.not_mem_nil) (Nat.le_refl _) hl.fin) rfl rfl rfl hs
end Go.Proofs.YtkafkipjedpohaaGreatDoor

/-
  As Lz, for a region whose last operation waits for all others by ways of several.
-/
namespace Go.Proofs.YtkafkipjedpohaaGreatDoor
open Go

section
variable {P : Program} {ops : Array Oper} {Q : Exit → Act → World → Prop} {S : World → Prop} {z : Nat}

/-- There is a way of waiting from a to b. -/
def waitsF (ops : Array Oper) : Nat → Nat → Nat → Bool
  | 0, _, _ => false
  | n + 1, a, b => match ops[a]? with
    | none => false
    | some o => o.after.any fun e => Region.binds .any e && (e.on == b || waitsF ops n e.on b)
/-- Number z waits for all others, by ways of at most eight. -/
def waitsT (ops : Array Oper) (z : Nat) : Bool := (List.range ops.size).all fun i => i == z || waitsF ops 8 z i

/-- What is listed, all is listed that it waits for. -/
def CL (ops : Array Oper) (listed : Array Bool) : Prop := ∀ a o, ops[a]? = some o → listed.getD a false = true → ∀ e ∈ o.after, Region.binds .any e = true → listed.getD e.on false = true

theorem waitsF_listed {listed : Array Bool} (hc : CL ops listed) : ∀ (n a b : Nat) (o : Oper), ops[a]? = some o → (∀ e ∈ o.after, Region.binds .any e = true → listed.getD e.on false = true) → waitsF ops n a b = true → listed.getD b false = true
  | 0, _, _, _, _, _, h => by cases h
  | n + 1, a, b, o, ho, hall, h => by
    unfold waitsF at h
    rw [ho] at h
    simp only [Array.any_eq_true', Bool.and_eq_true, Bool.or_eq_true, beq_iff_eq] at h
    obtain ⟨e, he, hb, h1⟩ := h
    have hl := hall e he hb
    rcases h1 with rfl | h1
    · exact hl
    · cases hoe : ops[e.on]? with
      | none =>
        cases n with
        | zero => cases h1
        | succ n => unfold waitsF at h1; rw [hoe] at h1; cases h1
      | some oe => exact waitsF_listed hc n e.on b oe hoe (hc e.on oe hoe hl) h1

theorem getD_listed {listed : Array Bool} {i : Nat} (h1 : listed.getD i true = false) (h2 : listed.getD i false = true) : False := by
  rcases Nat.lt_or_ge i listed.size with h | h
  · simp [h] at h1 h2; rw [h1] at h2; cases h2
  · simp [Array.getElem?_eq_none h] at h2
theorem CL.start (n : Nat) : CL ops (Array.replicate n false) := by
  intro a o _ hl
  exfalso
  rcases Nat.lt_or_ge a n with h | h
  · simp [h] at hl
  · simp [Array.getElem?_eq_none (show (Array.replicate n false).size ≤ a by simpa using h)] at hl
theorem CL.next {listed : Array Bool} {i : Nat} (h : CL ops listed) (hi : i ∈ Region.ready .any ops listed) : CL ops (listed.setIfInBounds i true) := by
  obtain ⟨hu, oi, hoi, hall⟩ := mem_ready.1 hi
  have hmono : ∀ j, listed.getD j false = true → (listed.setIfInBounds i true).getD j false = true := fun j hj => by
    by_cases e : i = j
    · subst e
      exact absurd hj (fun hj => getD_listed hu hj)
    · rw [getD_set_ne false e]; exact hj
  intro a o ho hl e he hb
  by_cases ea : i = a
  · subst ea
    rw [hoi] at ho
    injection ho with ho
    subst ho
    exact hmono _ (hall e he hb)
  · rw [getD_set_ne false ea] at hl
    exact hmono _ (h a o ho hl e he hb)

theorem waitsT_not {listed : Array Bool} {i : Nat} (hw : waitsT ops z = true) (hc : CL ops listed) (hi : i ∈ Region.ready .any ops listed) (hne : i ≠ z) : ¬ z ∈ Region.ready .any ops listed := by
  intro hz
  obtain ⟨u0, oi, hoi, _⟩ := mem_ready.1 hi
  obtain ⟨_, oz, hoz, hall⟩ := mem_ready.1 hz
  have h1 := List.all_eq_true.1 hw i (List.mem_range.2 (Array.getElem?_eq_some_iff.1 hoi).1)
  simp only [Bool.or_eq_true, beq_iff_eq, hne, false_or] at h1
  exact getD_listed u0 (waitsF_listed hc 8 z i oz hoz hall h1)

/-- Whatever order is picked: S holds behind each but z. -/
def anyY (P : Program) (ops : Array Oper) (Q : Exit → Act → World → Prop) (S : World → Prop) (z : Nat) : Nat → Array Bool → Act → World → Prop
  | 0, listed, a, w => Region.ready .any ops listed = [] ∧ Q .normal a w
  | n + 1, listed, a, w => (Region.ready .any ops listed = [] → Q .normal a w) ∧
      ∀ i ∈ Region.ready .any ops listed, wpOp P ops Q i (fun a' w' => (i ≠ z → S w') ∧ anyY P ops Q S z n (listed.setIfInBounds i true) a' w') a w

theorem anyY.any : ∀ (n : Nat) (listed : Array Bool) (a : Act) (w : World), anyY P ops Q S z n listed a w → wpAny P .any ops Q n listed a w
  | 0, _, _, _, h => h
  | n + 1, _, _, _, h => ⟨h.1, fun i hi => wpOp_mono (fun a' w' h' => anyY.any n _ a' w' h'.2) (h.2 i hi)⟩

theorem anyY.take {i : Nat} {oi : Oper} {v : Value} (hi : ops[i]? = some oi) (hs : Region.noSelect ops = true) (hw : waitsT ops z = true) (hiz : i ≠ z) (hQ : ∀ c a w, Q (.panic c) (a.put oi.dst v) w → Q (.panic c) a w) :
    ∀ (n : Nat) (listed : Array Bool) (a : Act) (w : World),
      (∀ j oj, ops[j]? = some oj → j ≠ i → listed.getD j true = false → (∀ e ∈ oj.after, Region.binds .any e = true → e.on ≠ i) → oi.apart ops oj = true) →
      CL ops listed → i ∈ Region.ready .any ops listed → YieldsIf P ops S oi v a → S w → anyY P ops Q S z n (listed.setIfInBounds i true) (a.put oi.dst v) w → anyY P ops Q S z (n + 1) listed a w
  | n, listed, a, w, hfree, hcl, hr, hy, hS, H => by
    refine ⟨fun h => (by rw [h] at hr; cases hr), fun j hj => ?_⟩
    by_cases hji : j = i
    · rw [hji]
      exact hy.wpOp hi hS ⟨fun _ => hS, H⟩
    have hjr := ready_mono hj hji
    have hjz : j ≠ z := fun e => waitsT_not hw hcl hr hiz (e ▸ hj)
    cases n with
    | zero => rw [H.1] at hjr; cases hjr
    | succ n =>
      have h1 := H.2 j hjr
      obtain ⟨hjun, oj, hoj, hall⟩ := mem_ready.1 hj
      have hsel := Region.noSelect_spec hs
      have hnot : ∀ e ∈ oj.after, Region.binds .any e = true → e.on ≠ i := fun e he hb heq => by
        have h2 := hall e he hb
        have h0 := (mem_ready.1 hr).1
        rw [heq] at h2
        rcases Nat.lt_or_ge i listed.size with h' | h'
        · simp [h'] at h0 h2; rw [h0] at h2; cases h2
        · simp [Array.getElem?_eq_none h'] at h2
      have h2 := wpOp_putIf hoj (hfree j oj hoj hji hjun hnot) (fun cs b => hsel i oi cs b hi) (fun cs b => hsel j oj cs b hoj) hQ hy h1
      refine wpOp_mono (fun a' w' h3 => ⟨h3.2.1, anyY.take hi hs hw hiz hQ n _ a' w' (fun k ok hk hki hun hno => hfree k ok hk hki ?_ hno) (hcl.next hj) (ready_mono hr (Ne.symm hji)) h3.1 (h3.2.1 hjz) ?_⟩) h2
      · by_cases hjk : j = k
        · rw [← hjk]; exact hjun
        · rw [getD_set_ne true hjk] at hun; exact hun
      · rw [Array.setIfInBounds_comm _ _ hji]
        exact h3.2.2

/-- The walk, as lexW. -/
def lexY (P : Program) (ops : Array Oper) (Q : Exit → Act → World → Prop) (S : World → Prop) (z : Nat) : List (Bool × Nat) → Act → World → Prop
  | [], a, w => Q .normal a w
  | (true, i) :: r, a, w => wpOp P ops Q i (fun a' w' => (i ≠ z → S w') ∧ lexY P ops Q S z r a' w') a w
  | (false, i) :: r, a, w => ∃ oi v, ops[i]? = some oi ∧ YieldsIf P ops S oi v a ∧ lexY P ops Q S z r (a.put oi.dst v) w

/-- Number z is the last one, if it is there. -/
def yLast (z : Nat) : List (Bool × Nat) → Bool
  | [] => true
  | (b, i) :: r => (i != z || (b && r.isEmpty)) && yLast z r

theorem lexY_any (hs : Region.noSelect ops = true) (hw : waitsT ops z = true) (hQ : ∀ c a d v w, Q (.panic c) (Act.put a d v) w → Q (.panic c) a w) : ∀ (l : List (Bool × Nat)) (listed : Array Bool) (a : Act) (w : World),
    lexB ops l listed = true → CL ops listed → yLast z l = true → (l ≠ [] → S w) → lexY P ops Q S z l a w → anyY P ops Q S z l.length listed a w
  | [], listed, a, w, hB, _, _, _, h => ⟨by simpa [lexB] using hB, h⟩
  | (true, i) :: r, listed, a, w, hB, hcl, hA, _, h => by
    simp only [lexB, Bool.and_eq_true, decide_eq_true_eq] at hB
    simp only [yLast, Bool.and_eq_true, Bool.or_eq_true, bne_iff_ne, ne_eq, true_and, List.isEmpty_iff] at hA
    refine ⟨fun h0 => (by rw [hB.1] at h0; cases h0), fun j hj => ?_⟩
    rw [hB.1] at hj
    obtain rfl : j = i := by simpa using hj
    refine wpOp_mono (fun a' w' h' => ⟨h'.1, lexY_any hs hw hQ r _ a' w' hB.2 (hcl.next (by rw [hB.1]; simp)) hA.2 (fun hr => h'.1 (fun e => ?_)) h'.2⟩) h
    rcases hA.1 with h1 | h1
    · exact h1 e
    · exact hr h1
  | (false, i) :: r, listed, a, w, hB, hcl, hA, hS, h => by
    simp only [lexB, Bool.and_eq_true] at hB
    simp only [yLast, Bool.and_eq_true, Bool.or_eq_true, bne_iff_ne, ne_eq, Bool.false_eq_true, false_and, or_false] at hA
    obtain ⟨oi, v, hi, hy, h'⟩ := h
    exact anyY.take hi hs hw hA.1 (fun c a w => hQ c a _ _ w) _ listed a w (Region.free_spec hi hB.1.1) hcl (by simpa using hB.1.2) hy (hS (by simp)) (lexY_any hs hw hQ r _ _ w hB.2 (hcl.next (by simpa using hB.1.2)) hA.2 (fun _ => hS (by simp)) h')

/-- The walk as a goal, each operation beside its number. -/
structure LexY (P : Program) (ops : Array Oper) (Q : Exit → Act → World → Prop) (S : World → Prop) (z : Nat) (l : List (Bool × Nat × Oper)) (a : Act) (w : World) : Prop where
  out : (∀ t, t ∈ l → ops[t.2.1]? = some t.2.2) → lexY P ops Q S z (l.map fun t => (t.1, t.2.1)) a w

theorem region_lexY {id : Nat} {a : Act} {w : World} {l : List Oper} (S : World → Prop) (z : Nat) (k : List (Bool × Nat)) (hm : P.follows .mixedOrders = true)
    (hB : (Region.noSelect l.toArray && waitsT l.toArray z && yLast z k && decide (k.length = l.toArray.size) && (k.all fun t => decide (t.2 < l.length)) && lexB l.toArray k (Array.replicate l.toArray.size false)) = true)
    (hQ : ∀ c a d v w, Q (.panic c) (Act.put a d v) w → Q (.panic c) a w) (hS : S w.drew) (h : LexY P l.toArray Q S z (lexL l k) a w.drew) : (Code.region id l.toArray true).wp P Q a w := by
  simp only [Bool.and_eq_true, decide_eq_true_eq] at hB
  obtain ⟨⟨⟨⟨⟨b1, b2⟩, b3⟩, b4⟩, b5⟩, b6⟩ := hB
  have h1 := h.out (lexL_at l k)
  rw [lexL_map l k b5] at h1
  refine wp_region_any hm ?_
  have := (lexY_any b1 b2 hQ k _ a w.drew b6 (CL.start _) b3 (fun _ => hS) h1).any
  rw [b4] at this
  exact this

theorem lexY_free {i : Nat} {o : Oper} {v : Value} {r : List (Bool × Nat × Oper)} {a : Act} {w : World} (hw : Region.wanted o (yielded ops a.tmps) = true) (hy : ∀ w', S w' → (execOp a.eval o).run P w' = .ok (.value v) w')
    (h : LexY P ops Q S z r (a.put o.dst v) w) : LexY P ops Q S z ((false, i, o) :: r) a w := ⟨fun hall => ⟨o, v, hall _ List.mem_cons_self, Or.inl ⟨hw, hy⟩, h.out (fun t ht => hall t (List.mem_cons_of_mem _ ht))⟩⟩
theorem lexY_last {o : Oper} {a : Act} {w : World}
    (h : ∀ K' : Act → World → Prop, Shut (∀ a w, Q .normal a w → K' a w) → if Region.wanted o (yielded ops a.tmps) = true then Oper.wp P o a w K' Q else K' (a.put o.dst undef) w) : LexY P ops Q S z [(true, z, o)] a w :=
  ⟨fun hall => wpOp_step (hall _ List.mem_cons_self) (fun K' hK => h K' (fun a w hW => hK a w ⟨fun h0 => absurd rfl h0, hW⟩))⟩
end
end Go.Proofs.YtkafkipjedpohaaGreatDoor
