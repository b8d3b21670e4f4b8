import Derived.Test.YtkafkipjedpohaaGreatDoorPureH
import Derived.Test.YtkafkipjedpohaaGreatDoorPureC

/-
  A stretch does what its steps do: the turn, the whole. No Go here.
-/
namespace Go.Proofs.YtkafkipjedpohaaGreatDoor

variable {m : Nat} {F : Nat → PF} {K : Nat → Nat → Bool} {H : Nat → Nat → Int}

/-- What the turn makes of a stretch. -/
def TurnOk (F : Nat → PF) (m k0 : Nat) (l h : Mc) (k k' : Mk) (l' : Mc) : Prop :=
  ∃ new, k'.ds = k.ds ++ new ∧ DeedsOk F m k0 new h ∧ ((l'.fin < 3 ∧ dexecs F new h = l') ∨ (3 ≤ l'.fin ∧ dexecs F new h = { l' with steps := l.steps, cH := l.cH }))

/-- Levelled: what waits but the first n is pushed. -/
theorem levelled {k0 : Nat} {l h : Mc} {k : Mk} (hF : Fine m F K H) (hl : LowOk m F K H k0 l) (r : Rel l h k) (n : Nat) (hn : n ≤ l.f.stk.length) :
    ∃ new, (k.pops n).level.ds = k.ds ++ new ∧ DeedsOk F m k0 new h ∧ dexecs F new h = { l with fr := { l.f with stk := (k.ws.drop n).map (Opd.val l.f.loc) ++ h.f.stk } :: l.r } ∧ DBase m k0 (dexecs F new h) ∧
      OpdsOk l.f.loc (popOs n k.ws) ((k.ws.drop n).map (Opd.val l.f.loc) ++ h.f.stk) ∧ (gets l.f.loc (popOs n k.ws) ((k.ws.drop n).map (Opd.val l.f.loc) ++ h.f.stk)).1 ++ (gets l.f.loc (popOs n k.ws) ((k.ws.drop n).map (Opd.val l.f.loc) ++ h.f.stk)).2 = l.f.stk ∧ (gets l.f.loc (popOs n k.ws) ((k.ws.drop n).map (Opd.val l.f.loc) ++ h.f.stk)).1.length = n := by
  obtain ⟨e1, e2⟩ := r.f
  obtain ⟨hst1, hloc, harr, hout⟩ := r.stk
  obtain ⟨t1, t2, t3⟩ := hl.top
  have hsz := t1.sizes hF (by omega) (hl.low l.f (by rw [hl.fr]; exact List.mem_cons_self))
  have hpc64 := t1.pc
  have hcn := (hF.fn _ t1.fn).cn
  have hb := r.base hF hl
  have hstl : n ≤ k.ws.length + h.f.stk.length := by
    have := congrArg List.length hst1
    simp at this
    omega
  have hsplit : l.f.stk = (k.ws.take n).map (Opd.val h.f.loc) ++ ((k.ws.drop n).map (Opd.val h.f.loc) ++ h.f.stk) := by
    rw [hst1, ← List.append_assoc, ← List.map_append, List.take_append_drop]
  have hsuf : (k.ws.drop n).map (Opd.val h.f.loc) ++ h.f.stk <:+ l.f.stk := by rw [hsplit]; exact List.suffix_append _ _
  obtain ⟨new, n1, n2, n3, n4, n5, n6⟩ := level_does (F := F) (k.pops n) hb (fun o ho => r.ws o (List.mem_of_mem_drop ho)) (by have := hsuf.length_le; show ((k.ws.drop n).map (Opd.val h.f.loc) ++ h.f.stk).length ≤ 16; omega) (fun v hv => by rw [← harr]; exact t1.stk v (hsuf.mem hv)) r.le (by have e := congrArg Fr.pc e1; simp only at e; show h.f.pc + (k.seen - k.passed) ≤ 64; omega)
  have n6' : dexecs F new h = { h with fr := { h.f with pc := h.f.pc + (k.seen - k.passed), stk := (k.ws.drop n).map (Opd.val h.f.loc) ++ h.f.stk } :: h.r, steps := h.steps + (k.seen - k.passed), cH := h.cH + (k.seen - k.passed) } := n6
  have n7 : dexecs F new h = { l with fr := { l.f with stk := (k.ws.drop n).map (Opd.val l.f.loc) ++ h.f.stk } :: l.r } := by
    rw [n6', hloc, e1, e2, r.eq]
  obtain ⟨g1, g2, g3⟩ := gets_popOs (l := h.f.loc) r.ws n h.f.stk hstl
  rw [hloc]
  refine ⟨new, n1, n5, by rw [n7, hloc], ?_, g1, by rw [hst1]; exact g2, g3⟩
  exact dbase hF hl _ { l.f with stk := (k.ws.drop n).map (Opd.val l.f.loc) ++ h.f.stk } l.steps l.cH n7 rfl (by rw [hloc]; exact hsuf) (Nat.le_refl _) (Nat.le_refl _) (Nat.le_refl _)

theorem turn_does {k0 : Nat} {l h : Mc} {k : Mk} (hl : LowOk m F K H k0 l) (r : Rel l h k) {op a : Int} (new : List Deed) (d : Deed) (k2 : Mk) (hk : k.trn op a = k2.then_ d) (hds : k2.ds = k.ds ++ new) (hok : DeedsOk F m k0 new h) (hf2 : (dexecs F new h).fin = 0) (hd : DeedOk m k0 d (dexecs F new h))
    (l' : Mc) (h1 : (dexec F d (dexecs F new h)).fin = l'.fin) (h2 : l' = { dexec F d (dexecs F new h) with steps := l.steps + 1, cH := l.cH + 1 }) (h3 : (dexec F d (dexecs F new h)).steps = l.steps ∧ (dexec F d (dexecs F new h)).cH = l.cH) : TurnOk F m k0 l h k (k.turn op a) l' := by
  have e1 : dexecs F (new ++ [d, .one]) h = dexecs F [d, .one] (dexecs F new h) := dexecs_append _ _ _ (by omega)
  refine ⟨new ++ [d, .one], ?_, ?_, ?_⟩
  · unfold Mk.turn
    rw [hk]
    show (k2.ds ++ [d]) ++ [.one] = _
    rw [hds]
    simp
  · refine deeds_append _ _ _ hok (fun _ => ⟨hd, fun _ => ⟨⟨by rw [h3.1]; exact hl.steps, by rw [h3.2]; exact hl.cH⟩, fun _ => trivial⟩⟩) (by rw [r.fin]; decide)
  · rw [e1, dexecs_cons]
    by_cases c : 3 ≤ (dexec F d (dexecs F new h)).fin
    · rw [if_pos c]
      refine Or.inr ⟨by omega, ?_⟩
      rw [h2]
      obtain ⟨a1, a2⟩ := h3
      generalize dexec F d (dexecs F new h) = z at *
      obtain ⟨fr, arr, out, gives, steps, fin, high, made, cH, cU, cD⟩ := z
      simp only at a1 a2
      rw [← a1, ← a2]
    · rw [if_neg c]
      refine Or.inl ⟨by omega, ?_⟩
      rw [dexecs_cons]
      have : dexec F .one (dexec F d (dexecs F new h)) = l' := by
        rw [h2]
        show ({ dexec F d (dexecs F new h) with steps := (dexec F d (dexecs F new h)).steps + 1, cH := (dexec F d (dexecs F new h)).cH + 1 } : Mc) = _
        rw [h3.1, h3.2]
      rw [this, if_neg (by omega)]
      rfl

theorem popOs_one (ws : List Opd) : popOs 1 ws = [(popOs 1 ws).headD .pop] := by
  cases ws with
  | nil => rfl
  | cons o r => simp [popOs]

theorem turn_any {k0 : Nat} {l h : Mc} {k : Mk} (hF : Fine m F K H) (hl : LowOk m F K H k0 l) (r : Rel l h k) {op a : Int} (hop : (F l.f.fn).op l.f.pc = op) (har : (F l.f.fn).ar l.f.pc = a) (ht : turnsP op = true) : TurnOk F m k0 l h k (k.turn op a) (stepP F l) := by
  have ht : op = 10 ∨ op = 11 ∨ op = 13 ∨ op = 14 := by simpa [turnsP] using ht
  obtain ⟨t1, t2, t3⟩ := hl.top
  have hlow := t1.low hF
  have hleg := t1.legal hF
  rw [stepP_at hl.fr]
  have hzl := hl.fin
  rcases ht with rfl | rfl | rfl | rfl
  · obtain ⟨new, n1, n2, n3, n4, _⟩ := levelled hF hl r 0 (by omega)
    rw [stepQ_jump hop, if_pos hl.high, har]
    have hp0 : k.pops 0 = k := rfl
    refine turn_does hl r new (.jump a.toNat) k.level rfl (by rw [← hp0]; exact n1) n2 (by rw [n3]; exact hzl) n4 _ (by rw [n3]; rfl) ?_ (by rw [n3]; exact ⟨rfl, rfl⟩)
    rw [n3]
    have hs : (k.ws.drop 0).map (Opd.val l.f.loc) ++ h.f.stk = l.f.stk := by
      obtain ⟨hst1, hloc, _⟩ := r.stk
      rw [hst1, hloc]
      rfl
    rw [hs]
    rfl
  · rw [hop, har, show popsP 11 a = 1 by simp [popsP, popsT]] at hlow
    obtain ⟨new, n1, n2, n3, n4, n5, n6, n7⟩ := levelled hF hl r 1 (by omega)
    rw [popOs_one] at n5 n6 n7
    generalize hO : (popOs 1 k.ws).headD .pop = o at *
    have e6 : l.f.stk = (o.get l.f.loc ((k.ws.drop 1).map (Opd.val l.f.loc) ++ h.f.stk)).1 :: (o.get l.f.loc ((k.ws.drop 1).map (Opd.val l.f.loc) ++ h.f.stk)).2 := n6.symm
    rw [stepQ_branch hop e6, if_pos hl.high, har]
    have hf3 : (dexecs F new h).f = { l.f with stk := (k.ws.drop 1).map (Opd.val l.f.loc) ++ h.f.stk } := by rw [n3]; rfl
    refine turn_does hl r new (.branch o a.toNat) (k.pops 1).level (by rw [← hO]; rfl) n1 n2 (by rw [n3]; exact hzl) ⟨n4, by rw [hf3]; exact n5.1, ?_⟩ _ (by rw [n3]; rfl) ?_ (by rw [n3]; exact ⟨rfl, rfl⟩)
    · rw [hf3]
      intro hk0
      exact (t1.stk _ (by rw [e6]; exact List.mem_cons_self)).2.2 hk0
    · rw [n3]
      rfl
  · obtain ⟨j0, j1⟩ := legal_call hleg hop
    rw [hop, har, show popsP 13 a = 1 + a by simp [popsP]] at hlow
    rw [har] at j0 j1
    obtain ⟨new, n1, n2, n3, n4, _⟩ := levelled hF hl r 0 (by omega)
    rw [stepQ_call hop, if_pos hl.high, har]
    have hp0 : k.pops 0 = k := rfl
    have hs : (k.ws.drop 0).map (Opd.val l.f.loc) ++ h.f.stk = l.f.stk := by
      obtain ⟨hst1, hloc, _⟩ := r.stk
      rw [hst1, hloc]
      rfl
    rw [hs] at n3
    have hl3 : dexecs F new h = l := by
      rw [n3]
      have := hl.fr
      obtain ⟨fr, arr, out, gives, steps, fin, high, made, cH, cU, cD⟩ := l
      simp only [Mc.f, Mc.r] at this ⊢
      rw [← this]
    rw [hl3] at n4
    have hcs : ∀ (st ch : Nat), callP F a.toNat l.f l.r { l with steps := st, cH := ch } = { callP F a.toNat l.f l.r l with steps := st, cH := ch } ∧ (callP F a.toNat l.f l.r l).steps = l.steps ∧ (callP F a.toNat l.f l.r l).cH = l.cH := fun st ch => by
      unfold callP
      split
      · exact ⟨rfl, rfl, rfl⟩
      · split
        · exact ⟨rfl, rfl, rfl⟩
        · split
          · exact ⟨rfl, rfl, rfl⟩
          · exact ⟨rfl, rfl, rfl⟩
    obtain ⟨q1, q2, q3⟩ := hcs (l.steps + 1) (l.cH + 1)
    rw [q1]
    refine turn_does hl r new (.call a.toNat) k.level rfl (by rw [← hp0]; exact n1) n2 (by rw [hl3]; exact hzl) ⟨by rw [hl3]; exact n4, by omega, by rw [hl3]; omega⟩ _ (by rw [hl3]; rfl) (by rw [hl3]; rfl) (by rw [hl3]; exact ⟨q2, q3⟩)
  · rw [hop, har, show popsP 14 a = 1 by simp [popsP, popsT]] at hlow
    obtain ⟨new, n1, n2, n3, n4, n5, n6, n7⟩ := levelled hF hl r 1 (by omega)
    rw [popOs_one] at n5 n6 n7
    generalize hO : (popOs 1 k.ws).headD .pop = o at *
    have e6 : l.f.stk = (o.get l.f.loc ((k.ws.drop 1).map (Opd.val l.f.loc) ++ h.f.stk)).1 :: (o.get l.f.loc ((k.ws.drop 1).map (Opd.val l.f.loc) ++ h.f.stk)).2 := n6.symm
    rw [stepQ_return hop, if_pos hl.high]
    have hf3 : (dexecs F new h).f = { l.f with stk := (k.ws.drop 1).map (Opd.val l.f.loc) ++ h.f.stk } := by rw [n3]; rfl
    have hdx : dexec F (.ret o) (dexecs F new h) = returnP l.f l.r l := by
      simp only [dexec]
      rw [hf3]
      simp only
      rw [← e6, n3]
      show returnP l.f l.r _ = _
      unfold returnP
      rw [e6]
    have hrs : ∀ (st ch : Nat), returnP l.f l.r { l with steps := st, cH := ch } = { returnP l.f l.r l with steps := st, cH := ch } ∧ (returnP l.f l.r l).steps = l.steps ∧ (returnP l.f l.r l).cH = l.cH := fun st ch => by
      unfold returnP
      rw [e6]
      simp only
      split <;> exact ⟨rfl, rfl, rfl⟩
    obtain ⟨q1, q2, q3⟩ := hrs (l.steps + 1) (l.cH + 1)
    rw [q1]
    refine turn_does hl r new (.ret o) (k.pops 1).level (by rw [← hO]; rfl) n1 n2 (by rw [n3]; exact hzl) ⟨n4, by rw [hf3]; exact n5.1⟩ _ (by rw [hdx]) (by rw [hdx]) (by rw [hdx]; exact ⟨q2, q3⟩)

theorem settle_seen (k : Mk) : k.settle.seen = k.seen := by unfold Mk.settle; split <;> rfl
theorem level_seen (k : Mk) : k.level.seen = k.seen := by unfold Mk.level; split <;> exact settle_seen k
theorem str_seen (op a : Int) (k : Mk) : (k.str op a).seen = k.seen := by
  unfold Mk.str
  repeat' split
  all_goals first | rfl | exact settle_seen _ | exact level_seen _
theorem trn_seen (op a : Int) (k : Mk) : (k.trn op a).seen = k.seen := by
  unfold Mk.trn
  repeat' split
  all_goals first | rfl | exact level_seen _

/-- The sizes of a run's parts. -/
structure Bd (l : Mc) : Prop where
  out : l.out.length ≤ l.steps
  arr : l.arr.length ≤ l.steps
  cH : l.cH ≤ l.steps

theorem call_cH (A : Nat) (f : Fr) (rest : List Fr) (s : Mc) : (callP F A f rest s).cH = s.cH := by
  unfold callP
  repeat' split
  all_goals rfl
theorem return_cH (f : Fr) (rest : List Fr) (s : Mc) : (returnP f rest s).cH = s.cH := by
  unfold returnP
  repeat' split
  all_goals rfl
theorem step_cHeq {l : Mc} {f : Fr} {rest : List Fr} (hs : l.fr = f :: rest) : (stepP F l).cH = l.cH + (if l.high.headD false = true then 1 else 0) := by
  rw [stepP_at hs]
  unfold stepQ
  dsimp only
  generalize (if l.high.headD false = true then 1 else 0) = c
  split
  · rfl
  · split
    · split <;> rfl
    · split
      · exact call_cH _ _ _ _
      · split
        · exact return_cH _ _ _
        · rfl
theorem step_cHle {l : Mc} {f : Fr} {rest : List Fr} (hs : l.fr = f :: rest) : (stepP F l).cH ≤ l.cH + 1 := by
  rw [step_cHeq hs]
  split <;> omega
theorem Bd.step {l : Mc} (h : Bd l) (h0 : l.fin = 0) {f : Fr} {rest : List Fr} (hs : l.fr = f :: rest) : Bd (stepP F l) := by
  have h1 := step_sizes (F := F) hs
  have h2 := (step_facts (F := F) h0 (by rw [hs]; simp)).steps
  have h3 := step_cHle (F := F) hs
  exact ⟨by have := h.out; omega, by have := h.arr; omega, by have := h.cH; omega⟩

theorem mk_seen (g : PF) : ∀ (n p : Nat) (k : Mk), k.seen ≤ (mkFrom g n p k).seen
  | 0, _, k => Nat.le_refl _
  | n + 1, p, k => by
    unfold mkFrom
    split
    · show k.seen ≤ (k.trn _ _).seen + 1
      rw [trn_seen]
      omega
    · have := mk_seen g n (p + 1) (k.straight (g.op p) (g.ar p))
      have e : (k.straight (g.op p) (g.ar p)).seen = k.seen + 1 := by unfold Mk.straight; simp only; rw [str_seen]
      omega

theorem settle_grows (q : Mk) : ∃ ds, q.settle.ds = q.ds ++ ds := by
  unfold Mk.settle
  split
  · exact ⟨[], by simp⟩
  · exact ⟨_, rfl⟩
theorem level_grows (q : Mk) : ∃ ds, q.level.ds = q.ds ++ ds := by
  obtain ⟨d, hd⟩ := settle_grows q
  unfold Mk.level
  split
  · exact ⟨d, hd⟩
  · exact ⟨d ++ [.pass (q.seen - q.passed)], by show q.settle.ds ++ _ = _; rw [hd]; simp⟩
theorem then_grows {k1 q : Mk} {ds : List Deed} (d : Deed) (e : q.ds = k1.ds ++ ds) : ∃ ds, (q.then_ d).ds = k1.ds ++ ds := ⟨ds ++ [d], by show q.ds ++ [d] = _; rw [e]; simp⟩
theorem trn_grows (op a : Int) (k : Mk) : ∃ ds, (k.trn op a).ds = k.ds ++ ds := by
  obtain ⟨d1, h1⟩ := level_grows k
  obtain ⟨d2, h2⟩ := level_grows (k.pops 1)
  unfold Mk.trn
  repeat' split
  · exact then_grows _ h1
  · exact then_grows (k1 := k) _ h2
  · exact then_grows _ h1
  · exact then_grows (k1 := k) _ h2
theorem str_grows (op a : Int) (k : Mk) : ∃ ds, (k.str op a).ds = k.ds ++ ds := by
  obtain ⟨d2, h2⟩ := settle_grows (k.pops (npop op))
  obtain ⟨d3, h3⟩ := level_grows (k.pops (npop op))
  unfold Mk.str
  repeat' split
  all_goals first | exact then_grows (k1 := k) _ h2 | exact then_grows (k1 := k) _ h3 | exact then_grows (k1 := k) (ds := []) _ (List.append_nil _).symm | exact ⟨[], (List.append_nil _).symm⟩
theorem mk_grows (g : PF) : ∀ (n p : Nat) (k : Mk), ∃ ds, (mkFrom g n p k).ds = k.ds ++ ds
  | 0, _, k => ⟨[], by simp [mkFrom]⟩
  | n + 1, p, k => by
    unfold mkFrom
    split
    · obtain ⟨d3, h3⟩ := trn_grows (g.op p) (g.ar p) k
      exact ⟨d3 ++ [.one], by show (k.trn _ _).ds ++ [.one] = _; rw [h3]; simp⟩
    · obtain ⟨d1, h1⟩ := mk_grows g n (p + 1) (k.straight (g.op p) (g.ar p))
      obtain ⟨d2, h2⟩ := str_grows (g.op p) (g.ar p) k
      exact ⟨d2 ++ d1, by rw [h1]; show (k.str _ _).ds ++ d1 = _; rw [h2]; simp⟩

/-- What the rest of a stretch does: n steps, or fewer, the last of which is trapped. -/
def RestOk (F : Nat → PF) (m k0 : Nat) (l h : Mc) (k k' : Mk) : Prop :=
  ∃ new n t, k'.ds = k.ds ++ new ∧ 1 ≤ n ∧ n ≤ k'.seen - k.seen ∧ Steps F n l t ∧ t.steps = l.steps + n ∧ DeedsOk F m k0 new h ∧
    ((n = k'.seen - k.seen ∧ t.fin < 3 ∧ dexecs F new h = t) ∨ (3 ≤ t.fin ∧ dexecs F new h = { t with steps := t.steps - 1, cH := t.cH - 1 }))

end Go.Proofs.YtkafkipjedpohaaGreatDoor

/-
  Compiled code of the project's machine: what a deed reads.
-/
namespace Go.Proofs.YtkafkipjedpohaaGreatDoor
open Go.RowKit

abbrev Bxs := List (Nat × Array Value × TypeId)

/-- A pointer to a block's beginning. -/
abbrev ptr (b : Nat) : Value := .pointer (some ⟨b, 0, none⟩)

/-- A function value that reads. -/
def OpdV (l : Bxs) (o : Opd) (v : Value) : Prop :=
  match o with
  | .pop => v = .func (.func 179) #[] #[]
  | .con x => ∃ b, v = .func (.func 180) #[] #[ptr b] ∧ (b, #[.int .i64 x.k, .int .i64 x.n], 43) ∈ l
  | .loc i => ∃ b op, v = .func (.func 168) #[] #[ptr b] ∧ (b, #[.int .i64 op, .int .i64 i], 33) ∈ l

theorem OpdV.mono {l l' : Bxs} {o : Opd} {v : Value} (h : OpdV l o v) (hl : ∀ t, t ∈ l → t ∈ l') : OpdV l' o v := by
  cases o with
  | pop => exact h
  | con x => obtain ⟨b, h1, h2⟩ := h; exact ⟨b, h1, hl _ h2⟩
  | loc i => obtain ⟨b, op, h1, h2⟩ := h; exact ⟨b, op, h1, hl _ h2⟩

/-- A function value, as it is called. -/
def FnV (v : Value) (g : Nat) (cap : Array Value) : Prop := v = .func (.func g) #[] cap ∧ ∀ args X, (callFunc g args).run Tryz.prog X = .ok (.enter g args) X

/-- What a call that reads leaves. -/
def GetE (w0 w : World) (B mb : Nat) (A0 : AdM) (s : Mc) (en : Int) (l : Bxs) (f : Fr) (rest : List Fr) (o : Opd) (e : Ending) (w' : World) : Prop :=
  e = .returned (.agg #[.int .i64 (o.get f.loc f.stk).1.k, .int .i64 (o.get f.loc f.stk).1.n]) ∧ Cur w0 B mb A0 { s with fr := { f with stk := (o.get f.loc f.stk).2 } :: rest } en l w' ∧ w'.cell? ⟨A0.FB rest.length, 2, none⟩ = w.cell? ⟨A0.FB rest.length, 2, none⟩

theorem Cur.fbz {w0 w : World} {B mb : Nat} {A0 : AdM} {s : Mc} {en : Int} {l : Bxs} (h : Cur w0 B mb A0 s en l w) {f : Fr} {rest : List Fr} (hs : s.fr = f :: rest) : A0.FB rest.length < w.heap.size := by
  obtain ⟨_, A, l1, g1, _, _⟩ := h
  have := (l1.fb rest.length (by rw [hs]; simp)).1
  rw [fb_of g1] at this
  exact heap_lt this
/-- No box is the frame's block. -/
theorem Cur.fbne {w0 w : World} {B mb : Nat} {A0 : AdM} {s : Mc} {en : Int} {l : Bxs} (h : Cur w0 B mb A0 s en l w) {f : Fr} {rest : List Fr} (hs : s.fr = f :: rest) : ∀ t, t ∈ l → t.1 ≠ A0.FB rest.length := fun t ht e => by
  obtain ⟨_, A, l1, g1, _, b1⟩ := h
  have h1 := (l1.fb rest.length (by rw [hs]; simp)).2.2
  rw [fb_of g1, ← e, (b1 t ht).2] at h1
  omega
/-- A new block is none of the boxes. -/
theorem Cur.boxfar {w0 w : World} {B mb : Nat} {A0 : AdM} {s : Mc} {en : Int} {l : Bxs} (h : Cur w0 B mb A0 s en l w) : ∀ u, u ∈ l → u.1 ≠ w.heap.size := fun u hu => by
  have := h.lt u hu
  omega

set_option maxRecDepth 100000 in
set_option maxHeartbeats 1000000 in
theorem get_pop {w0 w : World} {B mb : Nat} {A0 : AdM} {s : Mc} {en : Int} {l : Bxs} (h : Cur w0 B mb A0 s en l w) {f : Fr} {rest : List Fr} (hs : s.fr = f :: rest) (ho : f.stk ≠ []) (hn : f.stk.length ≤ 60) :
    Calls Tryz.prog 179 #[ptr (A0.FB rest.length)] w (GetE w0 w B mb A0 s en l f rest .pop) := by
  obtain ⟨v, st, hst⟩ : ∃ v st, f.stk = v :: st := by
    cases hc : f.stk with
    | nil => exact absurd hc ho
    | cons x r => exact ⟨x, r, rfl⟩
  have H0 := hid (h.box #[.int .i64 0, .int .i64 0] 43)
  have hbl : Below w.heap.size w (w.alloc (.cells #[.int .i64 0, .int .i64 0] 43)) := (Below.refl _ _).alloc (Nat.le_refl _) _
  have hfz := h.fbz hs
  have HC := hid (hbl.cell (p := ⟨A0.FB rest.length, 2, none⟩) hfz)
  have hle := h.le.1
  have HL := hid h.lt
  unfold GetE
  simp only [Opd.get, hst, List.headD_cons, List.tail_cons]
  have hlen : st.length ≤ 64 := by rw [hst] at hn; simp at hn; omega
  have HP := hid (H0.out.popL hs hst hlen)
  have HB := hid h.boxfar
  have HFZ := hid (h.fbne hs)
  generalize hfb : A0.FB rest.length = fb at *
  clear hfb hbl H0 h hst ho hn hlen
  go_enter Tryz.func179, Tryz.ntmps179
  go_wp2_with fail
  generalize w.alloc (.cells #[.int .i64 0, .int .i64 0] 43) = W at *
  refine HP.out.mono ?_
  rintro e w1 ⟨rfl, c1, k1⟩
  obtain ⟨x0, x1, z0, z1⟩ := c1.hb.two List.mem_cons_self
  have H2 := hid (c1.write0 hle HB.out (.int .i64 v.k) (.int .i64 v.n))
  have HK := hid (k1.trans HC.out)
  clear c1 k1 HP HC
  go_wp2
  have k2 : ((w1.setCell ⟨w.heap.size, 0, none⟩ (.int .i64 v.k)).setCell ⟨w.heap.size, 1, none⟩ (.int .i64 v.n)).cell? ⟨fb, 2, none⟩ = w.cell? ⟨fb, 2, none⟩ := by
    rw [World.cell?_setCell_far _ _ _ _ (by show ¬ w.heap.size = fb; omega), World.cell?_setCell_far _ _ _ _ (by show ¬ w.heap.size = fb; omega)]
    exact HK.out
  obtain ⟨y0, y1, _, _⟩ := H2.out.hb.two List.mem_cons_self
  exact bodyPost_ret (v := .agg #[.int .i64 v.k, .int .i64 v.n]) (by simp [results, Tryz.results179, go_sem, y0, y1]) rfl ⟨rfl, H2.out.drop (fun t ht => List.mem_cons_of_mem _ ht), k2⟩

set_option maxRecDepth 100000 in
set_option maxHeartbeats 1000000 in
theorem get_con {w0 w : World} {B mb : Nat} {A0 : AdM} {s : Mc} {en : Int} {l : Bxs} (h : Cur w0 B mb A0 s en l w) {f : Fr} {rest : List Fr} (hs : s.fr = f :: rest) (x : V) (b : Nat) (hb : (b, #[.int .i64 x.k, .int .i64 x.n], 43) ∈ l) :
    Calls Tryz.prog 180 #[ptr (A0.FB rest.length), ptr b] w (GetE w0 w B mb A0 s en l f rest (.con x)) := by
  have H0 := hid (h.box #[.int .i64 0, .int .i64 0] 43)
  have hbl : Below w.heap.size w (w.alloc (.cells #[.int .i64 0, .int .i64 0] 43)) := (Below.refl _ _).alloc (Nat.le_refl _) _
  have hfz := h.fbz hs
  have HC := hid (hbl.cell (p := ⟨A0.FB rest.length, 2, none⟩) hfz)
  have hle := h.le.1
  unfold GetE
  simp only [Opd.get]
  have HB := hid h.boxfar
  obtain ⟨v0, v1, _, _⟩ := H0.out.hb.two (List.mem_cons_of_mem _ hb)
  obtain ⟨x0, x1, z0, z1⟩ := H0.out.hb.two List.mem_cons_self
  have hfr : ({ s with fr := { f with stk := f.stk } :: rest } : Mc) = s := by
    obtain ⟨fr, arr, out, gives, steps, fin, high, made, cH, cU, cD⟩ := s
    simp only at hs
    rw [hs]
  rw [hfr]
  have H2 := hid (h.box #[.int .i64 x.k, .int .i64 x.n] 43)
  have hbl2 : Below w.heap.size w (w.alloc (.cells #[.int .i64 x.k, .int .i64 x.n] 43)) := (Below.refl _ _).alloc (Nat.le_refl _) _
  have HC2 := hid (hbl2.cell (p := ⟨A0.FB rest.length, 2, none⟩) hfz)
  clear hbl2
  have hbw : b < w.heap.size := h.lt _ hb
  generalize hfb : A0.FB rest.length = fb at *
  clear hfb hbl H0 h hfr hb
  go_enter Tryz.func180, Tryz.ntmps180
  go_wp2
  clear x0 x1 z0 z1 v0 v1
  obtain ⟨y0, y1, _, _⟩ := H2.out.hb.two List.mem_cons_self
  exact bodyPost_ret (v := .agg #[.int .i64 x.k, .int .i64 x.n]) (by simp [results, Tryz.results180, go_sem]) rfl ⟨rfl, H2.out.drop (fun t ht => List.mem_cons_of_mem _ ht), HC2.out⟩

set_option maxRecDepth 100000 in
set_option maxHeartbeats 1000000 in
theorem get_loc {w0 w : World} {B mb : Nat} {A0 : AdM} {s : Mc} {en : Int} {l : Bxs} (h : Cur w0 B mb A0 s en l w) {f : Fr} {rest : List Fr} (hs : s.fr = f :: rest) (i : Nat) (hi : i < f.loc.length) (op : Int) (b : Nat) (hb : (b, #[.int .i64 op, .int .i64 i], 33) ∈ l) :
    Calls Tryz.prog 168 #[ptr (A0.FB rest.length), ptr b] w (GetE w0 w B mb A0 s en l f rest (.loc i)) := by
  have H0 := hid (h.box #[.int .i64 0, .int .i64 0] 43).drew
  have hbl : Below w.heap.size w (w.alloc (.cells #[.int .i64 0, .int .i64 0] 43)).drew := ((Below.refl _ _).alloc (Nat.le_refl _) _).drew
  have hfz := h.fbz hs
  have HC := hid (hbl.cell (p := ⟨A0.FB rest.length, 2, none⟩) hfz)
  have hle := h.le.1
  unfold GetE
  simp only [Opd.get]
  have HB := hid h.boxfar
  obtain ⟨lb, lcap, k0, k1, k2, f1, f2, _⟩ := H0.out.loc hs hi
  have hbm : (b, #[Value.int .i64 op, Value.int .i64 i], 33) ∈ l := hb
  have hfr : ({ s with fr := { f with stk := f.stk } :: rest } : Mc) = s := by
    obtain ⟨fr, arr, out, gives, steps, fin, high, made, cH, cU, cD⟩ := s
    simp only at hs
    rw [hs]
  rw [hfr]
  have hbw : b < w.heap.size := h.lt _ hb
  generalize hfb : A0.FB rest.length = fb at *
  have hlz : lb < w.heap.size := by
    obtain ⟨lb', lcap', j0, j1, _⟩ := h.loc hs hi
    rw [hfb] at j0
    have e := HC.out.trans j0
    rw [k0] at e
    injection e with e
    injection e with e
    injection e with e
    injection e with e
    rw [e]
    exact World.block_lt_of_cell? w _ j1
  generalize hx : f.loc.getD i vnil = x at *
  clear hfb h hfr hb hx
  have hi0 : (0 : Int) ≤ (i : Int) := by omega
  have hi1 : (i : Int) < (f.loc.length : Int) := by omega
  have hne : ¬ w.heap.size = lb := by omega
  have hnf : ¬ w.heap.size = fb := by omega
  go_enter Tryz.func168, Tryz.ntmps168
  go_wp2_with fail
  generalize hll : f.loc.length = ll at *
  have hbl0 : Hb l (w.alloc (.cells #[.int .i64 0, .int .i64 0] 43)).drew := fun t ht => H0.out.hb t (List.mem_cons_of_mem _ ht)
  have HS0 := hid (And.intro hbl0 (And.intro k0 (And.intro k1 k2)))
  clear hbl0
  refine region_lex (fun w' => Hb l w' ∧ w'.cell? ⟨fb, 2, none⟩ = some (.slice (some ⟨lb, 0, none⟩) ll lcap) ∧ w'.cell? ⟨lb, i * 2, none⟩ = some (.int .i64 x.k) ∧ w'.cell? ⟨lb, i * 2 + 1, none⟩ = some (.int .i64 x.n)) [(false, 0), (false, 1), (false, 2), (false, 3), (false, 4), (false, 5), (false, 6), (false, 7), (true, 8)] (by kernel_rfl) (by kernel_rfl) (panic_frame _ _ _) HS0.out ?_
  simp only [lexL, List.getElem?_cons_zero, List.getElem?_cons_succ]
  iterate 8 (refine lexW_free (by rfl) (by intro w' hS'; obtain ⟨hb, y0, y1, y2⟩ := hS'; obtain ⟨u0, u1, _, _⟩ := hb.two hbm; clear hb; go_simp; exact rfl) ?_; simp only [Act.put, List.setIfInBounds_toArray, List.set_cons_zero, List.set_cons_succ])
  have H2 := hid (H0.out.write0 hle HB.out (.int .i64 x.k) (.int .i64 x.n))
  obtain ⟨x0, x1, z0, z1⟩ := H0.out.hb.two List.mem_cons_self
  have S0 := hid HS0.out
  clear HS0 k0 k1 k2 f1 f2 H0 hbl
  generalize (w.alloc (.cells #[.int .i64 0, .int .i64 0] 43)).drew = W at *
  refine lexW_sole (fun K hK => ?_)
  go_simp
  refine hK.out _ _ ⟨fun t ht => H2.out.hb t (List.mem_cons_of_mem _ ht), ?_, ?_, ?_⟩ ?_
  · rw [World.cell?_setCell_far _ _ _ _ hnf, World.cell?_setCell_far _ _ _ _ hnf]; exact S0.out.2.1
  · rw [World.cell?_setCell_far _ _ _ _ hne, World.cell?_setCell_far _ _ _ _ hne]; exact S0.out.2.2.1
  · rw [World.cell?_setCell_far _ _ _ _ hne, World.cell?_setCell_far _ _ _ _ hne]; exact S0.out.2.2.2
  clear hK K x0 x1 z0 z1
  refine lexW_done ?_
  go_wp2
  have k2 : ((W.setCell ⟨w.heap.size, 0, none⟩ (.int .i64 x.k)).setCell ⟨w.heap.size, 1, none⟩ (.int .i64 x.n)).cell? ⟨fb, 2, none⟩ = w.cell? ⟨fb, 2, none⟩ := by
    rw [World.cell?_setCell_far _ _ _ _ hnf, World.cell?_setCell_far _ _ _ _ hnf]
    exact HC.out
  obtain ⟨y0, y1, _, _⟩ := H2.out.hb.two List.mem_cons_self
  exact bodyPost_ret (v := .agg #[.int .i64 x.k, .int .i64 x.n]) (by simp [results, Tryz.results168, go_sem, y0, y1]) rfl ⟨rfl, H2.out.drop (fun t ht => List.mem_cons_of_mem _ ht), k2⟩

theorem cf_pop (args : Array Value) (X : World) : (callFunc 179 args).run Tryz.prog X = .ok (.enter 179 args) X := by go_simp
theorem cf_con (args : Array Value) (X : World) : (callFunc 180 args).run Tryz.prog X = .ok (.enter 180 args) X := by go_simp
theorem cf_loc (args : Array Value) (X : World) : (callFunc 168 args).run Tryz.prog X = .ok (.enter 168 args) X := by go_simp

/-- Whatever a deed reads. -/
theorem Cur.get {w0 w : World} {B mb : Nat} {A0 : AdM} {s : Mc} {en : Int} {l : Bxs} (h : Cur w0 B mb A0 s en l w) {f : Fr} {rest : List Fr} (hs : s.fr = f :: rest) {o : Opd} {g : Nat} {cap : Array Value} (hv : OpdV l o (.func (.func g) #[] cap)) (ho : OpdOk f.loc.length f.stk o) (hn : f.stk.length ≤ 60) :
    Calls Tryz.prog g (#[ptr (A0.FB rest.length)] ++ cap) w (GetE w0 w B mb A0 s en l f rest o) := by
  cases o with
  | pop =>
    injection hv with h1 h2 h3
    injection h1 with h1
    subst h1 h3
    exact get_pop h hs ho hn
  | con x =>
    obtain ⟨b, h1, h2⟩ := hv
    injection h1 with h1 _ h3
    injection h1 with h1
    subst h1 h3
    exact get_con h hs x b h2
  | loc i =>
    obtain ⟨b, op, h1, h2⟩ := hv
    injection h1 with h1 _ h3
    injection h1 with h1
    subst h1 h3
    exact get_loc h hs i ho op b h2
theorem OpdV.fn {l : Bxs} {o : Opd} {v : Value} (h : OpdV l o v) : ∃ g cap, FnV v g cap := by
  cases o with
  | pop => exact ⟨_, _, h, cf_pop⟩
  | con x => obtain ⟨b, h1, _⟩ := h; exact ⟨_, _, h1, cf_con⟩
  | loc i => obtain ⟨b, op, h1, _⟩ := h; exact ⟨_, _, h1, cf_loc⟩
end Go.Proofs.YtkafkipjedpohaaGreatDoor
