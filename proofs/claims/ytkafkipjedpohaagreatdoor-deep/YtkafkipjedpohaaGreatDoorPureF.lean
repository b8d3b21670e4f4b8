import Derived.Test.YtkafkipjedpohaaGreatDoorPureD

/-
  Code that is made of instructions, as plain mathematics: what waits, the deeds, how a stretch is made, that it does what the steps do. No Go here.
-/
namespace Go.Proofs.YtkafkipjedpohaaGreatDoor

/-- What a deed reads: the top of the stack; a value; a local. -/
inductive Opd where
  | pop : Opd
  | con : V → Opd
  | loc : Nat → Opd

def Opd.val (l : List V) : Opd → V
  | .pop => vnil
  | .con v => v
  | .loc i => l.getD i vnil
/-- It is read: the value, and the stack behind that. -/
def Opd.get (l : List V) (st : List V) : Opd → V × List V
  | .pop => (st.headD vnil, st.tail)
  | .con v => (v, st)
  | .loc i => (l.getD i vnil, st)
def gets (l : List V) : List Opd → List V → List V × List V
  | [], st => ([], st)
  | o :: os, st => ((o.get l st).1 :: (gets l os (o.get l st).2).1, (gets l os (o.get l st).2).2)

/-- It may wait. -/
def WOk (n : Nat) : Opd → Prop
  | .pop => False
  | .con _ => True
  | .loc i => i < n
/-- It may be read. -/
def OpdOk (n : Nat) (st : List V) : Opd → Prop
  | .pop => st ≠ []
  | .con _ => True
  | .loc i => i < n
def OpdsOk (l : List V) : List Opd → List V → Prop
  | [], _ => True
  | o :: os, st => OpdOk l.length st o ∧ OpdsOk l os (o.get l st).2

theorem WOk.get {l st : List V} {o : Opd} (h : WOk l.length o) : o.get l st = (o.val l, st) ∧ OpdOk l.length st o := by
  cases o with
  | pop => exact h.elim
  | con v => exact ⟨rfl, trivial⟩
  | loc i => exact ⟨rfl, h⟩

theorem gets_wait {l : List V} : ∀ (os : List Opd) (st : List V), (∀ o, o ∈ os → WOk l.length o) → gets l os st = (os.map (Opd.val l), st) ∧ OpdsOk l os st
  | [], st, _ => ⟨rfl, trivial⟩
  | o :: os, st, h => by
    obtain ⟨h1, h2⟩ := (h o List.mem_cons_self).get (st := st)
    obtain ⟨h3, h4⟩ := gets_wait os st (fun o ho => h o (List.mem_cons_of_mem _ ho))
    refine ⟨?_, h2, by rw [h1]; exact h4⟩
    simp only [gets, h1, h3, List.map_cons]
theorem gets_pops {l : List V} : ∀ (n : Nat) (st : List V), n ≤ st.length → gets l (List.replicate n .pop) st = (st.take n, st.drop n) ∧ OpdsOk l (List.replicate n .pop) st
  | 0, st, _ => ⟨rfl, trivial⟩
  | n + 1, st, h => by
    cases st with
    | nil => simp at h
    | cons v r =>
      obtain ⟨h3, h4⟩ := gets_pops (l := l) n r (by simpa using h)
      refine ⟨?_, by simp [OpdOk], h4⟩
      show (v :: (gets l (List.replicate n .pop) r).1, (gets l (List.replicate n .pop) r).2) = _
      rw [h3]
      rfl
theorem gets_append {l : List V} : ∀ (os qs : List Opd) (st : List V), gets l (os ++ qs) st = ((gets l os st).1 ++ (gets l qs (gets l os st).2).1, (gets l qs (gets l os st).2).2)
  | [], qs, st => rfl
  | o :: os, qs, st => by
    show ((o.get l st).1 :: (gets l (os ++ qs) (o.get l st).2).1, (gets l (os ++ qs) (o.get l st).2).2) = _
    rw [gets_append os qs]
    rfl
theorem ok_append {l : List V} : ∀ (os qs : List Opd) (st : List V), OpdsOk l os st → OpdsOk l qs (gets l os st).2 → OpdsOk l (os ++ qs) st
  | [], _, _, _, h => h
  | _ :: os, qs, _, h, h2 => ⟨h.1, ok_append os qs _ h.2 h2⟩

/-- What n pops take of what waits, the top first. -/
def popOs (n : Nat) (ws : List Opd) : List Opd := ws.take n ++ List.replicate (n - ws.length) .pop

theorem gets_popOs {l : List V} {ws : List Opd} (hw : ∀ o, o ∈ ws → WOk l.length o) (n : Nat) (st : List V) (hn : n ≤ ws.length + st.length) :
    let r := gets l (popOs n ws) ((ws.drop n).map (Opd.val l) ++ st)
    OpdsOk l (popOs n ws) ((ws.drop n).map (Opd.val l) ++ st) ∧ r.1 ++ r.2 = ws.map (Opd.val l) ++ st ∧ r.1.length = n := by
  intro r
  have ht : ∀ o, o ∈ ws.take n → WOk l.length o := fun o ho => hw o (List.mem_of_mem_take ho)
  obtain ⟨g1, g2⟩ := gets_wait (ws.take n) ((ws.drop n).map (Opd.val l) ++ st) ht
  by_cases h : n ≤ ws.length
  · have e : popOs n ws = ws.take n := by unfold popOs; rw [show n - ws.length = 0 by omega]; simp
    have hr : r = ((ws.take n).map (Opd.val l), (ws.drop n).map (Opd.val l) ++ st) := by show gets _ _ _ = _; rw [e, g1]
    refine ⟨by rw [e]; exact g2, ?_, by rw [hr]; simp; omega⟩
    rw [hr]
    show (ws.take n).map (Opd.val l) ++ ((ws.drop n).map (Opd.val l) ++ st) = _
    rw [← List.append_assoc, ← List.map_append, List.take_append_drop]
  · have e1 : ws.drop n = [] := List.drop_of_length_le (by omega)
    have e2 : ws.take n = ws := List.take_of_length_le (by omega)
    have e : popOs n ws = ws ++ List.replicate (n - ws.length) .pop := by unfold popOs; rw [e2]
    rw [e2, e1] at g1 g2
    simp only [List.map_nil, List.nil_append] at g1 g2
    obtain ⟨p1, p2⟩ := gets_pops (l := l) (n - ws.length) st (by omega)
    have hr : r = (ws.map (Opd.val l) ++ st.take (n - ws.length), st.drop (n - ws.length)) := by
      show gets _ _ _ = _
      rw [e, e1, gets_append]
      simp only [List.map_nil, List.nil_append, g1, p1]
    refine ⟨?_, ?_, ?_⟩
    · rw [e, e1]
      simp only [List.map_nil, List.nil_append]
      exact ok_append _ _ _ g2 (by rw [g1]; exact p2)
    · rw [hr]
      simp
    · rw [hr]
      simp
      omega

/-- What code does. -/
inductive Deed where
  | settle (ws : List Opd)
  | pass (n : Nat)
  | ins (op a : Int) (os : List Opd)
  | jump (a : Nat)
  | branch (o : Opd) (a : Nat)
  | call (a : Nat)
  | ret (o : Opd)
  | one

/-- The frame at hand. -/
def Mc.f (s : Mc) : Fr := s.fr.headD ⟨0, 0, [], []⟩
def Mc.r (s : Mc) : List Fr := s.fr.tail

def dexec (F : Nat → PF) (d : Deed) (s : Mc) : Mc :=
  match d with
  | .settle ws => { s with fr := { s.f with stk := (ws.map (Opd.val s.f.loc)).reverse ++ s.f.stk } :: s.r }
  | .pass n => { s with steps := s.steps + n, cH := s.cH + n, fr := { s.f with pc := s.f.pc + n } :: s.r }
  | .ins op a os =>
    let x := execP op a { s.f with stk := (gets s.f.loc os s.f.stk).1 ++ (gets s.f.loc os s.f.stk).2 } s.arr s.out
    { s with fr := x.1 :: s.r, arr := x.2.1, out := x.2.2.1, fin := x.2.2.2 }
  | .jump a => { s with fr := { s.f with pc := a } :: s.r }
  | .branch o a => { s with fr := { s.f with stk := (o.get s.f.loc s.f.stk).2, pc := if zeroP (o.get s.f.loc s.f.stk).1 = true then a else s.f.pc + 1 } :: s.r }
  | .call a => callP F a s.f s.r s
  | .ret o => returnP { s.f with stk := (o.get s.f.loc s.f.stk).1 :: (o.get s.f.loc s.f.stk).2 } s.r s
  | .one => { s with steps := s.steps + 1, cH := s.cH + 1 }

def dexecs (F : Nat → PF) : List Deed → Mc → Mc
  | [], s => s
  | d :: ds, s => if 3 ≤ (dexec F d s).fin then dexec F d s else dexecs F ds (dexec F d s)

theorem dexecs_cons {F : Nat → PF} (d : Deed) (ds : List Deed) (s : Mc) : dexecs F (d :: ds) s = if 3 ≤ (dexec F d s).fin then dexec F d s else dexecs F ds (dexec F d s) := rfl
theorem dexecs_append {F : Nat → PF} : ∀ (ds es : List Deed) (s : Mc), (dexecs F ds s).fin < 3 → dexecs F (ds ++ es) s = dexecs F es (dexecs F ds s)
  | [], _, _, _ => rfl
  | d :: ds, es, s, h => by
    rw [List.cons_append, dexecs_cons, dexecs_cons]
    rw [dexecs_cons] at h
    by_cases h3 : 3 ≤ (dexec F d s).fin
    · rw [if_pos h3] at h; omega
    · rw [if_neg h3] at h
      rw [if_neg h3, if_neg h3]
      exact dexecs_append ds es _ h
theorem dexecs_trap {F : Nat → PF} : ∀ (ds es : List Deed) (s : Mc), 3 ≤ (dexecs F ds s).fin → s.fin < 3 → dexecs F (ds ++ es) s = dexecs F ds s
  | [], _, s, h, h0 => by have : 3 ≤ s.fin := h; omega
  | d :: ds, es, s, h, h0 => by
    rw [List.cons_append, dexecs_cons, dexecs_cons]
    rw [dexecs_cons] at h
    by_cases h3 : 3 ≤ (dexec F d s).fin
    · rw [if_pos h3, if_pos h3]
    · rw [if_neg h3] at h
      rw [if_neg h3, if_neg h3]
      exact dexecs_trap ds es _ h (by omega)

/-- How a stretch is made: the deeds, what waits (the top first), how many instructions were seen, and passed. -/
structure Mk where
  ds : List Deed
  ws : List Opd
  seen : Nat
  passed : Nat

def Mk.then_ (k : Mk) (d : Deed) : Mk := { k with ds := k.ds ++ [d] }
def Mk.wait (k : Mk) (o : Opd) : Mk := { k with ws := o :: k.ws }
def Mk.pops (k : Mk) (n : Nat) : Mk := { k with ws := k.ws.drop n }
def Mk.settle (k : Mk) : Mk := if k.ws = [] then k else { k with ws := [], ds := k.ds ++ [.settle k.ws.reverse] }
def Mk.level (k : Mk) : Mk := if k.seen - k.passed = 0 then k.settle else { k.settle with passed := k.seen, ds := k.settle.ds ++ [.pass (k.seen - k.passed)] }

/-- How many values of those that wait an instruction takes. -/
def npop (op : Int) : Nat := if op = 3 ∨ op = 19 ∨ op = 15 ∨ op = 18 then 1 else if op = 17 then 3 else 2

def Mk.str (op a : Int) (k : Mk) : Mk :=
  if op = 0 then k.wait (.con (vnum a))
  else if op = 1 then k.wait (.con vnil)
  else if op = 12 then k.wait (.con ⟨3, a⟩)
  else if op = 2 then k.wait (.loc a.toNat)
  else if op = 19 then (k.pops 1).then_ (.ins op a (popOs 1 k.ws))
  else if op = 20 then match k.ws with
    | [] => k.then_ (.ins op a [.pop])
    | _ :: r => { k with ws := r }
  else if op = 21 then match k.ws with
    | [] => k.then_ (.ins op a [])
    | o :: r => { k with ws := o :: o :: r }
  else if op = 3 ∨ op = 9 then (k.pops (npop op)).settle.then_ (.ins op a (popOs (npop op) k.ws))
  else (k.pops (npop op)).level.then_ (.ins op a (popOs (npop op) k.ws))
def Mk.straight (op a : Int) (k : Mk) : Mk := { k.str op a with seen := (k.str op a).seen + 1 }

def Mk.trn (op a : Int) (k : Mk) : Mk :=
  if op = 10 then k.level.then_ (.jump a.toNat)
  else if op = 11 then (k.pops 1).level.then_ (.branch ((popOs 1 k.ws).headD .pop) a.toNat)
  else if op = 13 then k.level.then_ (.call a.toNat)
  else (k.pops 1).level.then_ (.ret ((popOs 1 k.ws).headD .pop))
def Mk.turn (op a : Int) (k : Mk) : Mk := { (k.trn op a).then_ .one with seen := (k.trn op a).seen + 1 }

def turnsP (op : Int) : Bool := decide (op = 10 ∨ op = 11 ∨ op = 13 ∨ op = 14)

/-- The stretch from instruction p on, of which n are left. -/
def mkFrom (f : PF) : Nat → Nat → Mk → Mk
  | 0, _, k => k
  | n + 1, p, k => if turnsP (f.op p) = true then k.turn (f.op p) (f.ar p) else mkFrom f n (p + 1) (k.straight (f.op p) (f.ar p))
def mkOf (f : PF) (p : Nat) : Mk := mkFrom f (f.cn - p) p ⟨[], [], 0, 0⟩

/-- n steps, none of them but the last one the last. -/
inductive Steps (F : Nat → PF) : Nat → Mc → Mc → Prop
  | none (s : Mc) : Steps F 0 s s
  | more {n : Nat} {s t : Mc} : s.fin = 0 → Steps F n (stepP F s) t → Steps F (n + 1) s t

/-- What a deed finds: the frame at hand, the k0-th, in the high gear. -/
structure DBase (m k0 : Nat) (s : Mc) : Prop where
  fr : s.fr = s.f :: s.r
  len : s.r.length = k0
  high : s.high.headD false = true
  hl : s.high.length = k0 + 1
  steps : s.steps ≤ 100000
  cH : s.cH ≤ 100000
  out : s.out.length ≤ 100000
  arr : s.arr.length ≤ 100000
  cells : cellsP s.arr ≤ 200
  pc : s.f.pc ≤ 64
  stk : s.f.stk.length ≤ 16
  rest : ∀ g, g ∈ s.r → g.stk.length ≤ 16
  k0 : k0 ≤ 23
  fin : s.fin = 0
  sok : AllOk m s.arr.length s.f.stk
  lok : AllOk m s.arr.length s.f.loc

def DeedOk (m k0 : Nat) (d : Deed) (s : Mc) : Prop :=
  match d with
  | .settle ws => DBase m k0 s ∧ (∀ o, o ∈ ws → WOk s.f.loc.length o) ∧ ws.length ≤ 16
  | .pass n => DBase m k0 s ∧ n ≤ 64
  | .ins op a os => DBase m k0 s ∧ OpdsOk s.f.loc os s.f.stk ∧ (gets s.f.loc os s.f.stk).1.length = os.length ∧ AllOk m s.arr.length ((gets s.f.loc os s.f.stk).1 ++ (gets s.f.loc os s.f.stk).2) ∧ ((gets s.f.loc os s.f.stk).1 ++ (gets s.f.loc os s.f.stk).2).length ≤ 16 ∧
      popsP op a ≤ ((gets s.f.loc os s.f.stk).1 ++ (gets s.f.loc os s.f.stk).2).length ∧ (op = 3 → 0 ≤ a ∧ a < s.f.loc.length)
  | .jump _ => DBase m k0 s
  | .branch o _ => DBase m k0 s ∧ OpdOk s.f.loc.length s.f.stk o ∧ ((o.get s.f.loc s.f.stk).1.k = 0 → (o.get s.f.loc s.f.stk).1.n = 0)
  | .call a => DBase m k0 s ∧ a ≤ 8 ∧ a + 1 ≤ s.f.stk.length
  | .ret o => DBase m k0 s ∧ OpdOk s.f.loc.length s.f.stk o
  | .one => s.steps ≤ 100000 ∧ s.cH ≤ 100000
def DeedsOk (F : Nat → PF) (m k0 : Nat) : List Deed → Mc → Prop
  | [], _ => True
  | d :: ds, s => DeedOk m k0 d s ∧ ((dexec F d s).fin < 3 → DeedsOk F m k0 ds (dexec F d s))
end Go.Proofs.YtkafkipjedpohaaGreatDoor

/-
  A stretch does what its steps do. No Go here.
-/
namespace Go.Proofs.YtkafkipjedpohaaGreatDoor

variable {m : Nat} {F : Nat → PF} {K : Nat → Nat → Bool} {H : Nat → Nat → Int}

/-- What is known of a run ahead of a step, its frame at hand (the k0-th) in the high gear. -/
structure LowOk (m : Nat) (F : Nat → PF) (K : Nat → Nat → Bool) (H : Nat → Nat → Int) (k0 : Nat) (l : Mc) : Prop where
  inv : Inv m F K H l
  low : Low16 H l
  fin : l.fin = 0
  steps : l.steps ≤ 100000
  cH : l.cH ≤ 100000
  out : l.out.length ≤ 100000
  arr : l.arr.length ≤ 100000
  high : l.high.headD false = true
  len : l.r.length = k0

theorem LowOk.fr {k0 : Nat} {l : Mc} (h : LowOk m F K H k0 l) : l.fr = l.f :: l.r := by
  obtain ⟨f, rest, e, _⟩ := h.inv.top
  unfold Mc.f Mc.r
  rw [e]
  rfl
theorem LowOk.top {k0 : Nat} {l : Mc} (h : LowOk m F K H k0 l) : FrOk m l.arr.length F K H 0 l.f ∧ (∀ g, g ∈ l.r → FrOk m l.arr.length F K H 1 g) ∧ l.r.length + 1 ≤ 24 := by
  obtain ⟨f, rest, e, h1, h2, h3⟩ := h.inv.top
  have e1 : l.f = f := by unfold Mc.f; rw [e]; rfl
  have e2 : l.r = rest := by unfold Mc.r; rw [e]; rfl
  rw [e1, e2]
  exact ⟨h1, h2, h3⟩

/-- How the run of the steps (l) and that of the deeds (h) stand to one another. -/
structure Rel (l h : Mc) (k : Mk) : Prop where
  eq : l = { h with fr := { h.f with pc := h.f.pc + (k.seen - k.passed), stk := k.ws.map (Opd.val h.f.loc) ++ h.f.stk } :: h.r, steps := h.steps + (k.seen - k.passed), cH := h.cH + (k.seen - k.passed) }
  fr : h.fr = h.f :: h.r
  ws : ∀ o, o ∈ k.ws → WOk h.f.loc.length o
  le : k.passed ≤ k.seen
  fin : h.fin = 0

theorem dbase {k0 : Nat} {l : Mc} (hF : Fine m F K H) (hl : LowOk m F K H k0 l) (s : Mc) (f' : Fr) (st ch : Nat) (hs : s = { l with fr := f' :: l.r, steps := st, cH := ch }) (h1 : f'.loc = l.f.loc) (h2 : f'.stk <:+ l.f.stk) (h3 : f'.pc ≤ l.f.pc) (h4 : st ≤ l.steps) (h5 : ch ≤ l.cH) : DBase m k0 s := by
  subst hs
  obtain ⟨t1, t2, t3⟩ := hl.top
  have hh := hl.inv.highs
  rw [hl.fr] at hh
  have hsz := t1.sizes hF (by omega) (hl.low l.f (by rw [hl.fr]; exact List.mem_cons_self))
  have hpc := t1.pc
  have hcn := (hF.fn _ t1.fn).cn
  refine ⟨rfl, hl.len, hl.high, by have := hl.len; simp at hh; show l.high.length = _; omega, by show st ≤ _; have := hl.steps; omega, by show ch ≤ _; have := hl.cH; omega, hl.out, hl.arr, hl.inv.cells, by show f'.pc ≤ _; omega, by show f'.stk.length ≤ _; have := h2.length_le; omega, fun g hg => ?_, by have := hl.len; omega, hl.fin, fun v hv => t1.stk v (h2.mem hv), fun v hv => t1.loc v (by rw [← h1]; exact hv)⟩
  have hg' : g ∈ l.r := hg
  exact ((t2 g hg').sizes hF (by omega) (hl.low g (by rw [hl.fr]; exact List.mem_cons_of_mem _ hg'))).2

/-- What waits is pushed. -/
theorem settle_does {k0 : Nat} {h : Mc} (k : Mk) (hb : DBase m k0 h) (hw : ∀ o, o ∈ k.ws → WOk h.f.loc.length o) (hl : k.ws.length ≤ 16) :
    ∃ new, k.settle.ds = k.ds ++ new ∧ k.settle.ws = [] ∧ k.settle.seen = k.seen ∧ k.settle.passed = k.passed ∧ DeedsOk F m k0 new h ∧ dexecs F new h = { h with fr := { h.f with stk := k.ws.map (Opd.val h.f.loc) ++ h.f.stk } :: h.r } := by
  unfold Mk.settle
  by_cases e : k.ws = []
  · rw [if_pos e]
    refine ⟨[], by simp, e, rfl, rfl, trivial, ?_⟩
    rw [e]
    show h = _
    have := hb.fr
    obtain ⟨fr, arr, out, gives, steps, fin, high, made, cH, cU, cD⟩ := h
    simp only [Mc.f, Mc.r] at this
    simp only [Mc.f, Mc.r, List.map_nil, List.nil_append]
    rw [← this]
  · rw [if_neg e]
    refine ⟨[.settle k.ws.reverse], rfl, rfl, rfl, rfl, ⟨⟨hb, fun o ho => hw o (by simpa using ho), by simpa using hl⟩, fun _ => trivial⟩, ?_⟩
    have h0 : (dexec F (.settle k.ws.reverse) h).fin = 0 := hb.fin
    rw [dexecs_cons, if_neg (by omega)]
    show dexec F (.settle k.ws.reverse) h = _
    simp only [dexec, List.map_reverse, List.reverse_reverse]

theorem DBase.stk' {k0 : Nat} {h : Mc} (hb : DBase m k0 h) (st : List V) (h1 : st.length ≤ 16) (h2 : AllOk m h.arr.length st) : DBase m k0 { h with fr := { h.f with stk := st } :: h.r } :=
  ⟨rfl, hb.len, hb.high, hb.hl, hb.steps, hb.cH, hb.out, hb.arr, hb.cells, hb.pc, h1, hb.rest, hb.k0, hb.fin, h2, hb.lok⟩

/-- What waits is pushed, and what was seen is passed. -/
theorem level_does {k0 : Nat} {h : Mc} (k : Mk) (hb : DBase m k0 h) (hw : ∀ o, o ∈ k.ws → WOk h.f.loc.length o) (hl : (k.ws.map (Opd.val h.f.loc) ++ h.f.stk).length ≤ 16) (ho : AllOk m h.arr.length (k.ws.map (Opd.val h.f.loc) ++ h.f.stk)) (hle : k.passed ≤ k.seen) (hpc : h.f.pc + (k.seen - k.passed) ≤ 64) :
    ∃ new, k.level.ds = k.ds ++ new ∧ k.level.ws = [] ∧ k.level.seen = k.seen ∧ k.level.passed = k.seen ∧ DeedsOk F m k0 new h ∧ dexecs F new h = { h with fr := { h.f with pc := h.f.pc + (k.seen - k.passed), stk := k.ws.map (Opd.val h.f.loc) ++ h.f.stk } :: h.r, steps := h.steps + (k.seen - k.passed), cH := h.cH + (k.seen - k.passed) } := by
  obtain ⟨new, n1, n2, n3, n4, n5, n6⟩ := settle_does (F := F) k hb hw (by simp at hl; omega)
  unfold Mk.level
  by_cases e : k.seen - k.passed = 0
  · rw [if_pos e]
    refine ⟨new, n1, n2, n3, by rw [n4]; omega, n5, ?_⟩
    rw [n6, e]
    rfl
  · rw [if_neg e]
    have hf2 : (dexecs F new h).fin < 3 := by rw [n6]; show h.fin < 3; rw [hb.fin]; decide
    refine ⟨new ++ [.pass (k.seen - k.passed)], by show k.settle.ds ++ _ = _; rw [n1]; simp, n2, n3, rfl, ?_, ?_⟩
    · have hp : DeedsOk F m k0 [.pass (k.seen - k.passed)] (dexecs F new h) := by
        refine ⟨⟨?_, by omega⟩, fun _ => trivial⟩
        rw [n6]
        exact hb.stk' _ hl ho
      clear n1 n6
      revert n5 hf2 hp
      have hgen : ∀ (ds es : List Deed) (s : Mc), DeedsOk F m k0 ds s → (dexecs F ds s).fin < 3 → DeedsOk F m k0 es (dexecs F ds s) → DeedsOk F m k0 (ds ++ es) s := by
        intro ds
        induction ds with
        | nil => intro es s _ _ h; exact h
        | cons d ds ih =>
          intro es s h1 h2 h3
          refine ⟨h1.1, fun h4 => ?_⟩
          rw [dexecs_cons, if_neg (by omega)] at h2 h3
          exact ih es _ (h1.2 h4) h2 h3
      exact fun h1 h2 h3 => hgen _ _ _ h1 h2 h3
    · rw [dexecs_append _ _ _ hf2, n6, dexecs_cons]
      rw [if_neg (by show ¬ 3 ≤ h.fin; rw [hb.fin]; decide)]
      rfl

theorem deeds_append {k0 : Nat} : ∀ (ds es : List Deed) (s : Mc), DeedsOk F m k0 ds s → ((dexecs F ds s).fin < 3 → DeedsOk F m k0 es (dexecs F ds s)) → s.fin < 3 → DeedsOk F m k0 (ds ++ es) s := by
  intro ds
  induction ds with
  | nil => intro es s _ h h0; exact h h0
  | cons d ds ih =>
    intro es s h1 h3 _
    refine ⟨h1.1, fun h4 => ?_⟩
    rw [dexecs_cons, if_neg (by omega)] at h3
    exact ih es _ (h1.2 h4) h3 h4

/-- What one instruction more makes of a stretch. -/
def OneOk (F : Nat → PF) (m k0 : Nat) (l h : Mc) (k k' : Mk) (l' : Mc) : Prop :=
  ∃ new, k'.ds = k.ds ++ new ∧ DeedsOk F m k0 new h ∧ ((l'.fin = 0 ∧ (dexecs F new h).fin = 0 ∧ Rel l' (dexecs F new h) k') ∨ (3 ≤ l'.fin ∧ dexecs F new h = { l' with steps := l.steps, cH := l.cH }))

theorem step_exec {k0 : Nat} {l : Mc} (hl : LowOk m F K H k0 l) {op a : Int} (hop : (F l.f.fn).op l.f.pc = op) (har : (F l.f.fn).ar l.f.pc = a) (h10 : op ≠ 10) (h11 : op ≠ 11) (h13 : op ≠ 13) (h14 : op ≠ 14) :
    stepP F l = { l with steps := l.steps + 1, cH := l.cH + 1, fr := (if (execP op a l.f l.arr l.out).2.2.2 = 0 then { (execP op a l.f l.arr l.out).1 with pc := l.f.pc + 1 } else (execP op a l.f l.arr l.out).1) :: l.r, arr := (execP op a l.f l.arr l.out).2.1, out := (execP op a l.f l.arr l.out).2.2.1, fin := (execP op a l.f l.arr l.out).2.2.2 } := by
  subst hop har
  rw [stepP_at hl.fr, stepQ_exec h10 h11 h13 h14, if_pos hl.high]
end Go.Proofs.YtkafkipjedpohaaGreatDoor
