import Derived.Test.YtkafkipjedpohaaGreatDoorPureF

/-
  A stretch does what its steps do: an instruction more. No Go here.
-/
namespace Go.Proofs.YtkafkipjedpohaaGreatDoor

variable {m : Nat} {F : Nat → PF} {K : Nat → Nat → Bool} {H : Nat → Nat → Int}

theorem Rel.f {l h : Mc} {k : Mk} (r : Rel l h k) : l.f = { h.f with pc := h.f.pc + (k.seen - k.passed), stk := k.ws.map (Opd.val h.f.loc) ++ h.f.stk } ∧ l.r = h.r := by
  rw [r.eq]
  exact ⟨rfl, rfl⟩
theorem Rel.base {k0 : Nat} {l h : Mc} {k : Mk} (hF : Fine m F K H) (hl : LowOk m F K H k0 l) (r : Rel l h k) : DBase m k0 h := by
  obtain ⟨e1, e2⟩ := r.f
  refine dbase hF hl h h.f h.steps h.cH ?_ (by rw [e1]) (by rw [e1]; exact List.suffix_append _ _) (by rw [e1]; show _ ≤ h.f.pc + _; omega) (by rw [r.eq]; show _ ≤ h.steps + _; omega) (by rw [r.eq]; show _ ≤ h.cH + _; omega)
  have hfr := r.fr
  have e := r.eq
  rw [e2]
  obtain ⟨fr, arr, out, gives, steps, fin, high, made, cH, cU, cD⟩ := h
  rw [e]
  simp only [Mc.f, Mc.r] at hfr ⊢
  rw [← hfr]

theorem seen_one {k : Mk} (h : k.passed ≤ k.seen) : k.seen + 1 - k.passed = (k.seen - k.passed) + 1 := by omega

theorem rel_self {h : Mc} {l : Mc} {k : Mk} (e : l = { h with fr := { h.f with pc := h.f.pc + (k.seen - k.passed), stk := k.ws.map (Opd.val h.f.loc) ++ h.f.stk } :: h.r, steps := h.steps + (k.seen - k.passed), cH := h.cH + (k.seen - k.passed) }) (hfr : h.fr = h.f :: h.r) (hw : ∀ o, o ∈ k.ws → WOk h.f.loc.length o) (hle : k.passed ≤ k.seen) (hf : h.fin = 0) : Rel l h k := ⟨e, hfr, hw, hle, hf⟩

/-- One value more waits. -/
theorem one_wait {k0 : Nat} {l h : Mc} {k : Mk} (hl : LowOk m F K H k0 l) (r : Rel l h k) {op a : Int} (hop : (F l.f.fn).op l.f.pc = op) (har : (F l.f.fn).ar l.f.pc = a) (ht : op ≠ 10 ∧ op ≠ 11 ∧ op ≠ 13 ∧ op ≠ 14) (o : Opd) (ho : WOk h.f.loc.length o)
    (hx : execP op a l.f l.arr l.out = ({ l.f with stk := o.val l.f.loc :: l.f.stk }, l.arr, l.out, 0)) (hk : k.str op a = k.wait o) : OneOk F m k0 l h k (k.straight op a) (stepP F l) := by
  have hst := step_exec hl hop har ht.1 ht.2.1 ht.2.2.1 ht.2.2.2
  rw [hx, if_pos rfl] at hst
  obtain ⟨e1, e2⟩ := r.f
  refine ⟨[], by unfold Mk.straight; rw [hk]; simp [Mk.wait], trivial, Or.inl ⟨by rw [hst], r.fin, ?_⟩⟩
  rw [hst]
  unfold Mk.straight
  rw [hk]
  refine ⟨?_, r.fr, fun o' ho' => ?_, by show k.passed ≤ k.seen + 1; have := r.le; omega, r.fin⟩
  · show _ = ({ h with fr := { h.f with pc := h.f.pc + (k.seen + 1 - k.passed), stk := (o :: k.ws).map (Opd.val h.f.loc) ++ h.f.stk } :: h.r, steps := h.steps + (k.seen + 1 - k.passed), cH := h.cH + (k.seen + 1 - k.passed) } : Mc)
    rw [seen_one r.le, e1, e2, r.eq]
    have hz := r.fin
    obtain ⟨fr, arr, out, gives, steps, fin, high, made, cH, cU, cD⟩ := h
    simp only at hz
    subst hz
    rfl
  · rcases List.mem_cons.1 (show o' ∈ o :: k.ws from ho') with rfl | h'
    · exact ho
    · exact r.ws o' h'

/-- An instruction that is done at once behind what waits was pushed, and that is never trapped. -/
theorem one_done {k0 : Nat} {l h : Mc} {k : Mk} (hl : LowOk m F K H k0 l) (r : Rel l h k) {op a : Int} (hop : (F l.f.fn).op l.f.pc = op) (har : (F l.f.fn).ar l.f.pc = a) (ht : op ≠ 10 ∧ op ≠ 11 ∧ op ≠ 13 ∧ op ≠ 14)
    (new : List Deed) (k2 : Mk) (hk : k.str op a = k2) (hds : k2.ds = k.ds ++ new) (hseen : k2.seen = k.seen) (hpas : k2.passed = k.passed)
    (L S T : List V) (O : List V) (hL : L.length = h.f.loc.length) (hw : ∀ o, o ∈ k2.ws → WOk h.f.loc.length o)
    (hx : execP op a l.f l.arr l.out = ({ l.f with loc := L, stk := S }, l.arr, O, 0)) (hS : S = k2.ws.map (Opd.val L) ++ T)
    (hok : DeedsOk F m k0 new h) (hd : dexecs F new h = { h with fr := { h.f with loc := L, stk := T } :: h.r, out := O }) : OneOk F m k0 l h k (k.straight op a) (stepP F l) := by
  have hst := step_exec hl hop har ht.1 ht.2.1 ht.2.2.1 ht.2.2.2
  rw [hx, if_pos rfl] at hst
  obtain ⟨e1, e2⟩ := r.f
  refine ⟨new, by unfold Mk.straight; rw [hk]; exact hds, hok, Or.inl ⟨by rw [hst], by rw [hd]; exact r.fin, ?_⟩⟩
  rw [hst, hd]
  unfold Mk.straight
  rw [hk]
  refine ⟨?_, rfl, fun o ho => ?_, by show k2.passed ≤ k2.seen + 1; have := r.le; omega, r.fin⟩
  · show _ = ({ h with fr := { h.f with loc := L, pc := h.f.pc + (k2.seen + 1 - k2.passed), stk := k2.ws.map (Opd.val L) ++ T } :: h.r, out := O, steps := h.steps + (k2.seen + 1 - k2.passed), cH := h.cH + (k2.seen + 1 - k2.passed) } : Mc)
    rw [hseen, hpas, seen_one r.le, e1, e2, r.eq, hS]
    have hz := r.fin
    obtain ⟨fr, arr, out, gives, steps, fin, high, made, cH, cU, cD⟩ := h
    simp only at hz
    subst hz
    rfl
  · show WOk L.length o
    rw [hL]
    exact hw o ho

/-- An instruction that may be trapped: what waits is pushed, what was seen is passed ahead of it. -/
theorem one_level {k0 : Nat} {l h : Mc} {k : Mk} (hF : Fine m F K H) (hl : LowOk m F K H k0 l) (r : Rel l h k) {op a : Int} (hop : (F l.f.fn).op l.f.pc = op) (har : (F l.f.fn).ar l.f.pc = a) (ht : op ≠ 10 ∧ op ≠ 11 ∧ op ≠ 13 ∧ op ≠ 14) (h3 : op ≠ 3) (n : Nat)
    (hk : k.str op a = (k.pops n).level.then_ (.ins op a (popOs n k.ws))) (hn : (n : Int) ≤ popsP op a) : OneOk F m k0 l h k (k.straight op a) (stepP F l) := by
  have hst := step_exec hl hop har ht.1 ht.2.1 ht.2.2.1 ht.2.2.2
  obtain ⟨e1, e2⟩ := r.f
  obtain ⟨t1, t2, t3⟩ := hl.top
  have hlow := t1.low hF
  have hsz := t1.sizes hF (by omega) (hl.low l.f (by rw [hl.fr]; exact List.mem_cons_self))
  have hpc64 := t1.pc
  have hcn := (hF.fn _ t1.fn).cn
  have hleg := t1.legal hF
  rw [hop, har] at hlow hleg
  have hb := r.base hF hl
  have hst1 : l.f.stk = k.ws.map (Opd.val h.f.loc) ++ h.f.stk := by rw [e1]
  have hstl : n ≤ k.ws.length + h.f.stk.length := by
    have := congrArg List.length hst1
    simp at this
    omega
  have hsplit : l.f.stk = (k.ws.take n).map (Opd.val h.f.loc) ++ ((k.ws.drop n).map (Opd.val h.f.loc) ++ h.f.stk) := by
    rw [hst1, ← List.append_assoc, ← List.map_append, List.take_append_drop]
  have hsuf : (k.ws.drop n).map (Opd.val h.f.loc) ++ h.f.stk <:+ l.f.stk := by rw [hsplit]; exact List.suffix_append _ _
  have harr : l.arr = h.arr := by rw [r.eq]
  have hout : l.out = h.out := by rw [r.eq]
  obtain ⟨new, n1, n2, n3, n4, n5, n6⟩ := level_does (F := F) (k.pops n) hb (fun o ho => r.ws o (List.mem_of_mem_drop ho)) (by have := hsuf.length_le; show ((k.ws.drop n).map (Opd.val h.f.loc) ++ h.f.stk).length ≤ 16; omega) (fun v hv => by rw [← harr]; exact t1.stk v (hsuf.mem hv)) r.le (by have e := congrArg Fr.pc e1; simp only at e; show h.f.pc + (k.seen - k.passed) ≤ 64; omega)
  have n3' : (k.pops n).level.seen = k.seen := n3
  have n4' : (k.pops n).level.passed = k.seen := n4
  have n6' : dexecs F new h = { h with fr := { h.f with pc := h.f.pc + (k.seen - k.passed), stk := (k.ws.drop n).map (Opd.val h.f.loc) ++ h.f.stk } :: h.r, steps := h.steps + (k.seen - k.passed), cH := h.cH + (k.seen - k.passed) } := n6
  clear n6 n3 n4
  obtain ⟨g1, g2, g3⟩ := gets_popOs (l := h.f.loc) r.ws n h.f.stk hstl
  have hf2 : (dexecs F new h).f = { h.f with pc := h.f.pc + (k.seen - k.passed), stk := (k.ws.drop n).map (Opd.val h.f.loc) ++ h.f.stk } := by rw [n6']; rfl
  have hr2 : (dexecs F new h).r = h.r := by rw [n6']; rfl
  have hfull : ({ (dexecs F new h).f with stk := (gets (dexecs F new h).f.loc (popOs n k.ws) (dexecs F new h).f.stk).1 ++ (gets (dexecs F new h).f.loc (popOs n k.ws) (dexecs F new h).f.stk).2 } : Fr) = l.f := by
    rw [hf2, e1]
    show ({ h.f with pc := _, stk := (gets h.f.loc (popOs n k.ws) ((k.ws.drop n).map (Opd.val h.f.loc) ++ h.f.stk)).1 ++ (gets h.f.loc (popOs n k.ws) ((k.ws.drop n).map (Opd.val h.f.loc) ++ h.f.stk)).2 } : Fr) = _
    rw [g2]
  have hgs : (gets (dexecs F new h).f.loc (popOs n k.ws) (dexecs F new h).f.stk).1 ++ (gets (dexecs F new h).f.loc (popOs n k.ws) (dexecs F new h).f.stk).2 = l.f.stk := by rw [← hfull]
  have hz2 : (dexecs F new h).fin = 0 := by rw [n6']; exact r.fin
  have hdx : dexec F (.ins op a (popOs n k.ws)) (dexecs F new h) = { l with fr := (execP op a l.f l.arr l.out).1 :: l.r, arr := (execP op a l.f l.arr l.out).2.1, out := (execP op a l.f l.arr l.out).2.2.1, fin := (execP op a l.f l.arr l.out).2.2.2 } := by
    simp only [dexec]
    rw [hfull, hr2, n6']
    simp only
    rw [harr, hout, e2, r.eq]
  have hb2 : DBase m k0 (dexecs F new h) := by
    refine dbase hF hl _ (dexecs F new h).f l.steps l.cH ?_ (by rw [hf2, e1]) (by rw [hf2]; exact hsuf) (by rw [hf2, e1]; exact Nat.le_refl _) (Nat.le_refl _) (Nat.le_refl _)
    rw [hf2, e2, n6', r.eq]
  have hok : DeedsOk F m k0 (new ++ [.ins op a (popOs n k.ws)]) h := by
    refine deeds_append _ _ _ n5 (fun _ => ⟨⟨hb2, ?_, ?_, ?_, ?_, ?_, fun e => absurd e h3⟩, fun _ => trivial⟩) (by rw [r.fin]; decide)
    · rw [hf2]; exact g1
    · rw [hf2]
      show (gets h.f.loc (popOs n k.ws) ((k.ws.drop n).map (Opd.val h.f.loc) ++ h.f.stk)).1.length = _
      rw [g3]
      unfold popOs
      simp
      omega
    · rw [hgs]
      have : (dexecs F new h).arr = l.arr := by rw [n6', harr]
      rw [this]
      exact t1.stk
    · rw [hgs]; exact hsz.2
    · rw [hgs]; exact hlow
  have hds : dexecs F (new ++ [.ins op a (popOs n k.ws)]) h = dexec F (.ins op a (popOs n k.ws)) (dexecs F new h) := by
    rw [dexecs_append _ _ _ (by omega), dexecs_cons]
    split <;> rfl
  have hw := exec_went (f := l.f) (out := l.out) hleg ht.1 ht.2.1 ht.2.2.1 ht.2.2.2 hlow t1.loc t1.stk hl.inv.arrs hl.inv.cells
  have hxt := exec_trap op a l.f l.arr l.out
  refine ⟨new ++ [.ins op a (popOs n k.ws)], by unfold Mk.straight; rw [hk]; show (k.pops n).level.ds ++ _ = _; rw [n1]; simp [Mk.pops], hok, ?_⟩
  rw [hds, hdx, hst]
  generalize execP op a l.f l.arr l.out = x at *
  rcases hxt with hz | hz
  · refine Or.inl ⟨hz, hz, ?_⟩
    rw [if_pos hz]
    unfold Mk.straight
    rw [hk]
    refine ⟨?_, rfl, fun o ho => ?_, by show (k.pops n).level.passed ≤ (k.pops n).level.seen + 1; rw [n3', n4']; omega, hz⟩
    · show _ = ({ l with fr := { x.1 with pc := x.1.pc + ((k.pops n).level.seen + 1 - (k.pops n).level.passed), stk := (k.pops n).level.ws.map (Opd.val x.1.loc) ++ x.1.stk } :: l.r, arr := x.2.1, out := x.2.2.1, fin := x.2.2.2, steps := l.steps + ((k.pops n).level.seen + 1 - (k.pops n).level.passed), cH := l.cH + ((k.pops n).level.seen + 1 - (k.pops n).level.passed) } : Mc)
      rw [n2, n3', n4', show k.seen + 1 - k.seen = 1 by omega, hw.pc]
      rfl
    · exact absurd (show o ∈ (k.pops n).level.ws from ho) (by rw [n2]; simp)
  · refine Or.inr ⟨hz.1, ?_⟩
    rw [if_neg (by omega)]
end Go.Proofs.YtkafkipjedpohaaGreatDoor

/-
  A stretch does what its steps do, whole. No Go here.
-/
namespace Go.Proofs.YtkafkipjedpohaaGreatDoor

variable {m : Nat} {F : Nat → PF} {K : Nat → Nat → Bool} {H : Nat → Nat → Int}

/-- What the frame at hand of a high run has. -/
theorem Rel.stk {l h : Mc} {k : Mk} (r : Rel l h k) : l.f.stk = k.ws.map (Opd.val h.f.loc) ++ h.f.stk ∧ l.f.loc = h.f.loc ∧ l.arr = h.arr ∧ l.out = h.out := by
  obtain ⟨e1, e2⟩ := r.f
  exact ⟨by rw [e1], by rw [e1], by rw [r.eq], by rw [r.eq]⟩

/-- One that is done behind what waits was pushed: Store, Equal. -/
theorem one_settled {k0 : Nat} {l h : Mc} {k : Mk} (hF : Fine m F K H) (hl : LowOk m F K H k0 l) (r : Rel l h k) {op a : Int} (hop : (F l.f.fn).op l.f.pc = op) (har : (F l.f.fn).ar l.f.pc = a) (n : Nat) (h39 : op = 3 ∨ op = 9) (hnp : n = npop op)
    (L S : List V) (hL : L.length = h.f.loc.length) (hx : ∀ p, execP op a { l.f with pc := p } l.arr l.out = ({ l.f with pc := p, loc := L, stk := S }, l.arr, l.out, 0)) : OneOk F m k0 l h k (k.straight op a) (stepP F l) := by
  have ht : op ≠ 10 ∧ op ≠ 11 ∧ op ≠ 13 ∧ op ≠ 14 := by omega
  obtain ⟨e1, e2⟩ := r.f
  obtain ⟨hst1, hloc, harr, hout⟩ := r.stk
  obtain ⟨t1, t2, t3⟩ := hl.top
  have hlow := t1.low hF
  have hsz := t1.sizes hF (by omega) (hl.low l.f (by rw [hl.fr]; exact List.mem_cons_self))
  have hleg := t1.legal hF
  rw [hop, har] at hlow hleg
  have hb := r.base hF hl
  have hn : (n : Int) ≤ popsP op a := by
    subst hnp
    rcases h39 with rfl | rfl
    · simp [npop, popsP, popsT]
    · simp [npop, popsP, popsT]
  have hstl : n ≤ k.ws.length + h.f.stk.length := by
    have := congrArg List.length hst1
    simp at this
    omega
  have hsplit : l.f.stk = (k.ws.take n).map (Opd.val h.f.loc) ++ ((k.ws.drop n).map (Opd.val h.f.loc) ++ h.f.stk) := by
    rw [hst1, ← List.append_assoc, ← List.map_append, List.take_append_drop]
  have hsuf : (k.ws.drop n).map (Opd.val h.f.loc) ++ h.f.stk <:+ l.f.stk := by rw [hsplit]; exact List.suffix_append _ _
  obtain ⟨new, n1, n2, n3, n4, n5, n6⟩ := settle_does (F := F) (k.pops n) hb (fun o ho => r.ws o (List.mem_of_mem_drop ho)) (by have := hsuf.length_le; simp at this; show (k.ws.drop n).length ≤ 16; simp; omega)
  have n6' : dexecs F new h = { h with fr := { h.f with stk := (k.ws.drop n).map (Opd.val h.f.loc) ++ h.f.stk } :: h.r } := n6
  clear n6
  obtain ⟨g1, g2, g3⟩ := gets_popOs (l := h.f.loc) r.ws n h.f.stk hstl
  have hf2 : (dexecs F new h).f = { h.f with stk := (k.ws.drop n).map (Opd.val h.f.loc) ++ h.f.stk } := by rw [n6']; rfl
  have hr2 : (dexecs F new h).r = h.r := by rw [n6']; rfl
  have hgs : (gets (dexecs F new h).f.loc (popOs n k.ws) (dexecs F new h).f.stk).1 ++ (gets (dexecs F new h).f.loc (popOs n k.ws) (dexecs F new h).f.stk).2 = l.f.stk := by
    rw [hf2]
    show (gets h.f.loc (popOs n k.ws) ((k.ws.drop n).map (Opd.val h.f.loc) ++ h.f.stk)).1 ++ (gets h.f.loc (popOs n k.ws) ((k.ws.drop n).map (Opd.val h.f.loc) ++ h.f.stk)).2 = _
    rw [g2, hst1]
  have hfull : ({ (dexecs F new h).f with stk := l.f.stk } : Fr) = { l.f with pc := h.f.pc } := by
    rw [hf2, e1]
  have hz2 : (dexecs F new h).fin = 0 := by rw [n6']; exact r.fin
  have hdx : dexec F (.ins op a (popOs n k.ws)) (dexecs F new h) = { h with fr := { h.f with loc := L, stk := S } :: h.r, out := h.out } := by
    simp only [dexec]
    have ha2 : (dexecs F new h).arr = l.arr := by rw [n6', harr]
    have ho2 : (dexecs F new h).out = l.out := by rw [n6', hout]
    rw [hgs, hfull, hr2, ha2, ho2, hx h.f.pc, n6']
    simp only
    rw [harr, hout, e1]
    have hz := r.fin
    obtain ⟨fr, arr, out, gives, steps, fin, high, made, cH, cU, cD⟩ := h
    simp only at hz
    subst hz
    rfl
  have hb2 : DBase m k0 (dexecs F new h) := by
    refine dbase hF hl _ (dexecs F new h).f h.steps h.cH ?_ (by rw [hf2, e1]) (by rw [hf2]; exact hsuf) (by rw [hf2, e1]; show h.f.pc ≤ h.f.pc + _; omega) (by rw [r.eq]; show h.steps ≤ h.steps + _; omega) (by rw [r.eq]; show h.cH ≤ h.cH + _; omega)
    rw [hf2, e2, n6', r.eq]
  have hok : DeedsOk F m k0 (new ++ [.ins op a (popOs n k.ws)]) h := by
    refine deeds_append _ _ _ n5 (fun _ => ⟨⟨hb2, ?_, ?_, ?_, ?_, ?_, fun e => ?_⟩, fun _ => trivial⟩) (by rw [r.fin]; decide)
    · rw [hf2]; exact g1
    · rw [hf2]
      show (gets h.f.loc (popOs n k.ws) ((k.ws.drop n).map (Opd.val h.f.loc) ++ h.f.stk)).1.length = _
      rw [g3]
      unfold popOs
      simp
      omega
    · rw [hgs]
      have : (dexecs F new h).arr = l.arr := by rw [n6', harr]
      rw [this]
      exact t1.stk
    · rw [hgs]; exact hsz.2
    · rw [hgs]; exact hlow
    · have hf : 0 ≤ a ∧ a < (F l.f.fn).locals := by rw [e] at hleg; simpa [legalP] using hleg
      have h2 := t1.locs
      rw [hf2]
      show 0 ≤ a ∧ a < (h.f.loc.length : Int)
      rw [← hloc]
      omega
  have hds : dexecs F (new ++ [.ins op a (popOs n k.ws)]) h = dexec F (.ins op a (popOs n k.ws)) (dexecs F new h) := by
    rw [dexecs_append _ _ _ (by omega), dexecs_cons]
    split <;> rfl
  have hkk : k.str op a = (k.pops n).settle.then_ (.ins op a (popOs n k.ws)) := by
    subst hnp
    unfold Mk.str
    rcases h39 with rfl | rfl <;> simp
  refine one_done hl r hop har ht (new ++ [.ins op a (popOs n k.ws)]) _ hkk (by show (k.pops n).settle.ds ++ _ = _; rw [n1]; simp [Mk.pops]) n3 n4 L S S h.out hL (fun o ho => absurd (show o ∈ (k.pops n).settle.ws from ho) (by rw [n2]; simp)) (by have := hx l.f.pc; rw [hout] at this ⊢; exact this) (by show S = (k.pops n).settle.ws.map _ ++ S; rw [n2]; rfl) hok (by rw [hds, hdx])

/-- Any instruction behind which the next one comes. -/
theorem one_any {k0 : Nat} {l h : Mc} {k : Mk} (hF : Fine m F K H) (hl : LowOk m F K H k0 l) (r : Rel l h k) {op a : Int} (hop : (F l.f.fn).op l.f.pc = op) (har : (F l.f.fn).ar l.f.pc = a) (ht : turnsP op = false) : OneOk F m k0 l h k (k.straight op a) (stepP F l) := by
  have ht : op ≠ 10 ∧ op ≠ 11 ∧ op ≠ 13 ∧ op ≠ 14 := by simpa [turnsP] using ht
  obtain ⟨e1, e2⟩ := r.f
  obtain ⟨hst1, hloc, harr, hout⟩ := r.stk
  obtain ⟨t1, t2, t3⟩ := hl.top
  have hlow := t1.low hF
  have hsz := t1.sizes hF (by omega) (hl.low l.f (by rw [hl.fr]; exact List.mem_cons_self))
  have hleg := t1.legal hF
  rw [hop, har] at hlow hleg
  have hrg := legal_range hleg
  have hb := r.base hF hl
  by_cases c0 : op = 0
  · subst c0
    exact one_wait hl r hop har ht (.con (vnum a)) trivial rfl rfl
  by_cases c1 : op = 1
  · subst c1
    exact one_wait hl r hop har ht (.con vnil) trivial rfl rfl
  by_cases c12 : op = 12
  · subst c12
    exact one_wait hl r hop har ht (.con ⟨3, a⟩) trivial rfl rfl
  by_cases c2 : op = 2
  · subst c2
    have hf : 0 ≤ a ∧ a < (F l.f.fn).locals := by simpa [legalP] using hleg
    have h2 := t1.locs
    exact one_wait hl r hop har ht (.loc a.toNat) (by show a.toNat < h.f.loc.length; rw [← hloc]; omega) rfl rfl
  have hp1 : 1 ≤ l.f.stk.length := by
    have : 1 ≤ popsP op a := by unfold popsP popsT; rw [if_neg ht.2.2.1, if_neg (by omega)]; split <;> (try split) <;> omega
    omega
  obtain ⟨x, q, hst⟩ : ∃ x q, l.f.stk = x :: q := by
    cases hc : l.f.stk with
    | nil => rw [hc] at hp1; simp at hp1
    | cons x r => exact ⟨x, r, rfl⟩
  by_cases c19 : op = 19
  · subst c19
    have hx : execP 19 a l.f l.arr l.out = ({ l.f with loc := l.f.loc, stk := q }, l.arr, l.out ++ [x], 0) := by simp [execP, hst]
    have hkk : k.str 19 a = (k.pops 1).then_ (.ins 19 a (popOs 1 k.ws)) := by simp [Mk.str]
    cases hws : k.ws with
    | nil =>
      rw [hws] at hst1
      have hh : h.f.stk = x :: q := by rw [← hst, hst1]; rfl
      refine one_done hl r hop har ht [.ins 19 a [.pop]] _ hkk (by rw [hws]; rfl) rfl rfl h.f.loc q q (h.out ++ [x]) rfl (fun o ho => absurd (show o ∈ k.ws.drop 1 from ho) (by rw [hws]; simp)) (by rw [hx, hloc, hout]) (by show q = (k.ws.drop 1).map _ ++ q; rw [hws]; rfl) ⟨⟨hb, ⟨by rw [hh]; simp [OpdOk], trivial⟩, rfl, ?_, ?_, ?_, fun e => by omega⟩, fun _ => trivial⟩ ?_
      · rw [hh]; have := hb.sok; rw [hh] at this; exact this
      · rw [hh]; have := hb.stk; rw [hh] at this; exact this
      · rw [hh]; rw [hst] at hlow; exact hlow
      · rw [dexecs_cons]
        have : dexec F (.ins 19 a [.pop]) h = { h with fr := { h.f with loc := h.f.loc, stk := q } :: h.r, out := h.out ++ [x] } := by
          simp [dexec, gets, Opd.get, hh, execP, r.fin]
        rw [this]
        split <;> rfl
    | cons o ws =>
      rw [hws] at hst1
      have hxo : x = o.val h.f.loc ∧ q = ws.map (Opd.val h.f.loc) ++ h.f.stk := by
        rw [hst] at hst1
        simpa using hst1
      obtain ⟨g1, g2⟩ := (r.ws o (by rw [hws]; exact List.mem_cons_self)).get (st := h.f.stk)
      refine one_done hl r hop har ht [.ins 19 a [o]] _ hkk (by rw [hws]; simp [Mk.pops, Mk.then_, popOs]) rfl rfl h.f.loc q h.f.stk (h.out ++ [x]) rfl (fun o' ho => r.ws o' (by rw [hws]; have : o' ∈ k.ws.drop 1 := ho; rw [hws] at this; exact List.mem_cons_of_mem _ this)) (by rw [hx, hloc, hout]) (by show q = (k.ws.drop 1).map _ ++ _; rw [hws]; exact hxo.2) ⟨⟨hb, ⟨g2, trivial⟩, rfl, ?_, ?_, ?_, fun e => by omega⟩, fun _ => trivial⟩ ?_
      · simp only [gets, g1, List.cons_append, List.nil_append]
        rw [← hxo.1]
        exact AllOk.cons (by rw [← harr]; exact t1.stk x (by rw [hst]; exact List.mem_cons_self)) hb.sok
      · simp only [gets, g1, List.cons_append, List.nil_append, List.length_cons]
        have h1 := hsz.2
        rw [hst, hxo.2] at h1
        simp at h1
        omega
      · simp [popsP, popsT, gets]
        omega
      · rw [dexecs_cons]
        have : dexec F (.ins 19 a [o]) h = { h with fr := { h.f with loc := h.f.loc, stk := h.f.stk } :: h.r, out := h.out ++ [x] } := by
          simp [dexec, gets, g1, execP, r.fin, hxo.1]
        rw [this]
        split <;> rfl
  by_cases c20 : op = 20
  · subst c20
    have hx : execP 20 a l.f l.arr l.out = ({ l.f with loc := l.f.loc, stk := q }, l.arr, l.out, 0) := by simp [execP, hst]
    cases hws : k.ws with
    | nil =>
      rw [hws] at hst1
      have hh : h.f.stk = x :: q := by rw [← hst, hst1]; rfl
      have hkk : k.str 20 a = k.then_ (.ins 20 a [.pop]) := by simp [Mk.str, hws]
      refine one_done hl r hop har ht [.ins 20 a [.pop]] _ hkk rfl rfl rfl h.f.loc q q h.out rfl (fun o ho => absurd (show o ∈ k.ws from ho) (by rw [hws]; simp)) (by rw [hx, hloc, hout]) (by show q = k.ws.map _ ++ q; rw [hws]; rfl) ⟨⟨hb, ⟨by rw [hh]; simp [OpdOk], trivial⟩, rfl, ?_, ?_, ?_, fun e => by omega⟩, fun _ => trivial⟩ ?_
      · rw [hh]; have := hb.sok; rw [hh] at this; exact this
      · rw [hh]; have := hb.stk; rw [hh] at this; exact this
      · rw [hh]; rw [hst] at hlow; exact hlow
      · rw [dexecs_cons]
        have : dexec F (.ins 20 a [.pop]) h = { h with fr := { h.f with loc := h.f.loc, stk := q } :: h.r, out := h.out } := by
          simp [dexec, gets, Opd.get, hh, execP, r.fin]
        rw [this]
        split <;> rfl
    | cons o ws =>
      rw [hws] at hst1
      have hxo : x = o.val h.f.loc ∧ q = ws.map (Opd.val h.f.loc) ++ h.f.stk := by
        rw [hst] at hst1
        simpa using hst1
      have hkk : k.str 20 a = { k with ws := ws } := by simp [Mk.str, hws]
      refine one_done hl r hop har ht [] _ hkk (by simp) rfl rfl h.f.loc q h.f.stk h.out rfl (fun o' ho => r.ws o' (by rw [hws]; exact List.mem_cons_of_mem _ ho)) (by rw [hx, hloc, hout]) hxo.2 trivial ?_
      show h = _
      have := r.fr
      obtain ⟨fr, arr, out, gives, steps, fin, high, made, cH, cU, cD⟩ := h
      simp only [Mc.f, Mc.r] at this ⊢
      rw [← this]
  by_cases c21 : op = 21
  · subst c21
    have hx : execP 21 a l.f l.arr l.out = ({ l.f with loc := l.f.loc, stk := x :: x :: q }, l.arr, l.out, 0) := by simp [execP, hst]
    cases hws : k.ws with
    | nil =>
      rw [hws] at hst1
      have hh : h.f.stk = x :: q := by rw [← hst, hst1]; rfl
      have hkk : k.str 21 a = k.then_ (.ins 21 a []) := by simp [Mk.str, hws]
      refine one_done hl r hop har ht [.ins 21 a []] _ hkk rfl rfl rfl h.f.loc (x :: x :: q) (x :: x :: q) h.out rfl (fun o ho => absurd (show o ∈ k.ws from ho) (by rw [hws]; simp)) (by rw [hx, hloc, hout]) (by show _ = k.ws.map _ ++ _; rw [hws]; rfl) ⟨⟨hb, trivial, rfl, ?_, ?_, ?_, fun e => by omega⟩, fun _ => trivial⟩ ?_
      · exact hb.sok
      · exact hb.stk
      · show _ ≤ ((([] : List V) ++ h.f.stk).length : Int); rw [hh]; rw [hst] at hlow; exact hlow
      · rw [dexecs_cons]
        have : dexec F (.ins 21 a []) h = { h with fr := { h.f with loc := h.f.loc, stk := x :: x :: q } :: h.r, out := h.out } := by
          simp [dexec, gets, hh, execP, r.fin]
        rw [this]
        split <;> rfl
    | cons o ws =>
      rw [hws] at hst1
      have hxo : x = o.val h.f.loc ∧ q = ws.map (Opd.val h.f.loc) ++ h.f.stk := by
        rw [hst] at hst1
        simpa using hst1
      have hkk : k.str 21 a = { k with ws := o :: o :: ws } := by simp [Mk.str, hws]
      refine one_done hl r hop har ht [] _ hkk (by simp) rfl rfl h.f.loc (x :: x :: q) h.f.stk h.out rfl (fun o' ho => r.ws o' (by rw [hws]; rcases List.mem_cons.1 ho with rfl | ho; exact List.mem_cons_self; exact ho)) (by rw [hx, hloc, hout]) (by simp [hxo.1, hxo.2]) trivial ?_
      show h = _
      have := r.fr
      obtain ⟨fr, arr, out, gives, steps, fin, high, made, cH, cU, cD⟩ := h
      simp only [Mc.f, Mc.r] at this ⊢
      rw [← this]
  by_cases c3 : op = 3
  · subst c3
    exact one_settled hF hl r hop har 1 (Or.inl rfl) (by simp [npop]) (l.f.loc.set a.toNat x) q (by rw [List.length_set, hloc]) (fun p => by simp [execP, hst])
  have hp2 : op ≠ 15 → op ≠ 18 → 2 ≤ popsP op a := fun h1 h2 => by unfold popsP popsT; rw [if_neg ht.2.2.1, if_neg (by omega)]; split <;> (try split) <;> omega
  by_cases c9 : op = 9
  · subst c9
    have h2 := hp2 (by omega) (by omega)
    obtain ⟨y, q2, hq⟩ : ∃ y q2, q = y :: q2 := by
      cases hc : q with
      | nil => rw [hst, hc] at hlow; simp at hlow; omega
      | cons x r => exact ⟨x, r, rfl⟩
    subst hq
    exact one_settled hF hl r hop har 2 (Or.inr rfl) (by simp [npop]) l.f.loc ((twoP 9 y x).1 :: q2) (by rw [hloc]) (fun p => by simp [execP, hst, twoP])
  have hkk : k.str op a = (k.pops (npop op)).level.then_ (.ins op a (popOs (npop op) k.ws)) := by
    unfold Mk.str
    rw [if_neg c0, if_neg c1, if_neg c12, if_neg c2, if_neg c19, if_neg c20, if_neg c21, if_neg (by omega)]
  refine one_level hF hl r hop har ht c3 (npop op) hkk ?_
  unfold npop
  by_cases d1 : op = 15 ∨ op = 18
  · rw [if_pos (by omega)]
    have : 1 ≤ popsP op a := by unfold popsP popsT; rw [if_neg ht.2.2.1, if_neg (by omega)]; split <;> (try split) <;> omega
    omega
  · rw [if_neg (by omega)]
    by_cases d2 : op = 17
    · rw [if_pos d2, d2]
      simp [popsP, popsT]
    · rw [if_neg d2]
      have := hp2 (by omega) (by omega)
      omega
end Go.Proofs.YtkafkipjedpohaaGreatDoor
