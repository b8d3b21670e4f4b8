

/-
  The plain mathematics of Load: what is wrong with a program, over instructions that are functions of their number. No Go here.
-/
namespace Go.Proofs.YtkafkipjedpohaaGreatDoor

/-- A function of a program, as plain data: how many arguments, locals, instructions; each instruction's Op and A by its number. -/
structure PF where
  args : Int
  locals : Int
  cn : Nat
  op : Nat → Int
  ar : Nat → Int

/-- What is known while the flow is followed. -/
structure St where
  K : Nat → Bool
  L : Nat → Bool
  H : Nat → Int

def upd {α : Type} (f : Nat → α) (i : Nat) (v : α) : Nat → α := fun j => if j = i then v else f j

theorem upd_same {α : Type} (f : Nat → α) (i : Nat) (v : α) : upd f i v i = v := by simp [upd]
theorem upd_other {α : Type} (f : Nat → α) (i j : Nat) (v : α) (h : j ≠ i) : upd f i v j = f j := by simp [upd, h]

def legalP (op a locals n funcs : Int) : Bool :=
  if op = 2 ∨ op = 3 then decide (0 ≤ a ∧ a < locals)
  else if op = 10 ∨ op = 11 then decide (0 ≤ a ∧ a < n)
  else if op = 12 then decide (0 ≤ a ∧ a < funcs)
  else if op = 13 then decide (0 ≤ a ∧ a ≤ 8)
  else decide (0 ≤ op ∧ op ≤ 21)

/-- check.known and check.operandFits. -/
def fitsP (op a locals n funcs : Int) : Bool :=
  if op = 2 ∨ op = 3 then decide (0 ≤ a ∧ a < locals)
  else if op = 10 ∨ op = 11 then decide (0 ≤ a ∧ a < n)
  else if op = 12 then decide (0 ≤ a ∧ a < funcs)
  else if op = 13 then decide (0 ≤ a ∧ a < 9)
  else true

theorem legal_fits (op a locals n funcs : Int) : legalP op a locals n funcs = (decide (0 ≤ op ∧ op < 22) && fitsP op a locals n funcs) := by
  unfold legalP fitsP
  rw [Bool.eq_iff_iff]
  by_cases h1 : op = 2 ∨ op = 3
  · have : 0 ≤ op ∧ op < 22 := by omega
    simp [h1, this]
  · by_cases h2 : op = 10 ∨ op = 11
    · have : 0 ≤ op ∧ op < 22 := by omega
      simp [h1, h2, this]
    · by_cases h3 : op = 12
      · subst h3; simp
      · by_cases h4 : op = 13
        · subst h4; simp; omega
        · simp [h1, h2, h3, h4]; omega

theorem legal_range {op a locals n funcs : Int} (h : legalP op a locals n funcs = true) : 0 ≤ op ∧ op < 22 := by
  rw [legal_fits] at h
  simp at h
  omega

theorem legal_jump {op a locals n funcs : Int} (h : legalP op a locals n funcs = true) (hj : op = 10 ∨ op = 11) : 0 ≤ a ∧ a < n := by
  unfold legalP at h
  rw [if_neg (by omega), if_pos hj] at h
  simpa using h

theorem legal_call {op a locals n funcs : Int} (h : legalP op a locals n funcs = true) (hj : op = 13) : 0 ≤ a ∧ a ≤ 8 := by
  subst hj
  simpa [legalP] using h

/-- What an instruction pops, a Call's arguments left out; pushes. -/
def popsT (op : Int) : Int :=
  if op = 0 ∨ op = 1 ∨ op = 2 ∨ op = 12 ∨ op = 10 then 0
  else if op = 4 ∨ op = 5 ∨ op = 6 ∨ op = 7 ∨ op = 8 ∨ op = 9 ∨ op = 16 then 2
  else if op = 17 then 3
  else 1
def popsP (op a : Int) : Int := if op = 13 then 1 + a else popsT op
def pushesP (op : Int) : Int :=
  if op = 3 ∨ op = 10 ∨ op = 11 ∨ op = 14 ∨ op = 17 ∨ op = 19 ∨ op = 20 then 0
  else if op = 21 then 2
  else 1

theorem popsT_bd (op : Int) : 0 ≤ popsT op ∧ popsT op ≤ 3 := by unfold popsT; split <;> (try split) <;> (try split) <;> omega
theorem pushesP_bd (op : Int) : 0 ≤ pushesP op ∧ pushesP op ≤ 2 := by unfold pushesP; split <;> (try split) <;> omega
theorem popsP_bd {op a : Int} (h : op = 13 → 0 ≤ a ∧ a ≤ 8) : 0 ≤ popsP op a ∧ popsP op a ≤ 9 := by
  unfold popsP
  have := popsT_bd op
  split
  · have := h (by assumption); omega
  · omega

/-- Where an instruction goes. -/
def afterP (op a : Int) (i : Nat) : List Int :=
  if op = 14 then [] else if op = 10 then [a] else if op = 11 then [(i : Int) + 1, a] else [(i : Int) + 1]

def reachP (n : Nat) (s : St) (to h : Int) : Int × St :=
  if (n : Int) ≤ to then (3, s)
  else if s.K to.toNat = true ∧ s.H to.toNat ≠ h then (4, s)
  else (0, { K := upd s.K to.toNat true, L := s.L, H := upd s.H to.toNat h })

def reachAll (n : Nat) (h : Int) : List Int → St → Int × St
  | [], s => (0, s)
  | t :: r, s => if (reachP n s t h).1 = 0 then reachAll n h r (reachP n s t h).2 else reachP n s t h

def lookP (n : Nat) (op ar : Nat → Int) (s : St) (i : Nat) : Int × St :=
  if s.H i < popsP (op i) (ar i) then (4, { s with L := upd s.L i true })
  else if 16 < s.H i - popsP (op i) (ar i) + pushesP (op i) then (4, { s with L := upd s.L i true })
  else reachAll n (s.H i - popsP (op i) (ar i) + pushesP (op i)) (afterP (op i) (ar i) i) { s with L := upd s.L i true }

/-- The least number below n that has p; n, if there is none. -/
def leastP (p : Nat → Bool) : Nat → Nat
  | 0 => 0
  | n + 1 => if leastP p n < n then leastP p n else if p n = true then n else n + 1

theorem leastP_none (p : Nat → Bool) (n : Nat) (h : ∀ j, j < n → p j = false) : leastP p n = n := by
  induction n with
  | zero => rfl
  | succ n ih =>
    unfold leastP
    rw [ih (fun j hj => h j (by omega)), if_neg (by omega), h n (by omega)]
    simp

theorem leastP_eq (p : Nat → Bool) (n i : Nat) (hi : i < n) (hp : p i = true) (h : ∀ j, j < i → p j = false) : leastP p n = i := by
  induction n with
  | zero => omega
  | succ n ih =>
    unfold leastP
    by_cases e : i = n
    · subst e
      rw [leastP_none p i h, if_neg (by omega), if_pos hp]
    · rw [ih (by omega), if_pos (by omega)]

theorem leastP_spec (p : Nat → Bool) (n : Nat) : (leastP p n < n ∧ p (leastP p n) = true ∧ ∀ j, j < leastP p n → p j = false) ∨ (leastP p n = n ∧ ∀ j, j < n → p j = false) := by
  induction n with
  | zero => right; exact ⟨rfl, fun j hj => by omega⟩
  | succ n ih =>
    unfold leastP
    rcases ih with ⟨h1, h2, h3⟩ | ⟨h1, h2⟩
    · rw [if_pos h1]; left; exact ⟨by omega, h2, h3⟩
    · rw [h1, if_neg (by omega)]
      cases hn : p n
      · right; simp
        intro j hj
        by_cases e : j = n
        · rw [e]; exact hn
        · exact h2 j (by omega)
      · left; simp; exact ⟨hn, h2⟩

def waits (s : St) : Nat → Bool := fun j => s.K j && !s.L j

/-- The flow of a function: an error and where. -/
def flowP (n : Nat) (op ar : Nat → Int) : Nat → St → Int × Int
  | 0, _ => (0, 0)
  | f + 1, s =>
    if leastP (waits s) n < n then
      if (lookP n op ar s (leastP (waits s) n)).1 = 0 then flowP n op ar f (lookP n op ar s (leastP (waits s) n)).2
      else ((lookP n op ar s (leastP (waits s) n)).1, (leastP (waits s) n : Int))
    else (0, 0)

/-- How many below n were not looked at. -/
def unl (L : Nat → Bool) : Nat → Nat
  | 0 => 0
  | n + 1 => unl L n + if L n = true then 0 else 1

theorem unl_le (L : Nat → Bool) (n : Nat) : unl L n ≤ n := by
  induction n with
  | zero => simp [unl]
  | succ n ih => unfold unl; split <;> omega
theorem unl_upd_ge (L : Nat → Bool) (n i : Nat) (h : n ≤ i) : unl (upd L i true) n = unl L n := by
  induction n with
  | zero => rfl
  | succ n ih => unfold unl; rw [ih (by omega), upd_other _ _ _ _ (by omega)]
theorem unl_upd (L : Nat → Bool) (n i : Nat) (hi : i < n) (h : L i = false) : unl (upd L i true) n + 1 = unl L n := by
  induction n with
  | zero => omega
  | succ n ih =>
    unfold unl
    by_cases e : i = n
    · subst e; rw [unl_upd_ge _ _ _ (Nat.le_refl _), upd_same, h]; simp
    · have := ih (by omega)
      rw [upd_other _ _ _ _ (by omega)]; omega

theorem reachP_L (n : Nat) (s : St) (to h : Int) : (reachP n s to h).2.L = s.L := by unfold reachP; split <;> (try split) <;> rfl
theorem reachAll_L (n : Nat) (h : Int) (l : List Int) (s : St) : (reachAll n h l s).2.L = s.L := by
  induction l generalizing s with
  | nil => rfl
  | cons t r ih => unfold reachAll; split; rw [ih, reachP_L]; exact reachP_L _ _ _ _
theorem lookP_L (n : Nat) (op ar : Nat → Int) (s : St) (i : Nat) : (lookP n op ar s i).2.L = upd s.L i true := by
  unfold lookP; split; rfl; split; rfl; rw [reachAll_L]

/-- Heights are small: what keeps the program's sums within their bounds. -/
def HB (s : St) : Prop := ∀ j, 0 ≤ s.H j ∧ s.H j ≤ 16
theorem reachP_HB {n : Nat} {s : St} {to h : Int} (hs : HB s) (h0 : 0 ≤ h ∧ h ≤ 16) : HB (reachP n s to h).2 := by
  unfold reachP; split
  · exact hs
  · split
    · exact hs
    · intro j; simp only [upd]; split
      · exact h0
      · exact hs j
theorem reachAll_HB {n : Nat} {h : Int} (h0 : 0 ≤ h ∧ h ≤ 16) (l : List Int) {s : St} (hs : HB s) : HB (reachAll n h l s).2 := by
  induction l generalizing s with
  | nil => exact hs
  | cons t r ih =>
    unfold reachAll; split
    · exact ih (reachP_HB hs h0)
    · exact reachP_HB hs h0
theorem lookP_HB {n : Nat} {op ar : Nat → Int} {s : St} {i : Nat} (hs : HB s) : HB (lookP n op ar s i).2 := by
  unfold lookP; split
  · exact hs
  · split
    · exact hs
    · refine reachAll_HB ⟨?_, by omega⟩ _ hs
      have := pushesP_bd (op i); omega

def s0 : St := { K := upd (fun _ => false) 0 true, L := fun _ => false, H := fun _ => 0 }
theorem HB_s0 : HB s0 := fun _ => ⟨by simp [s0], by simp [s0]⟩

def sizesP (f : PF) : Bool := decide (0 ≤ f.locals ∧ f.locals ≤ 8) && decide (0 ≤ f.args ∧ f.args ≤ f.locals) && decide (1 ≤ f.cn ∧ f.cn ≤ 64)
def badP (m : Nat) (f : PF) : Nat → Bool := fun j => !legalP (f.op j) (f.ar j) f.locals f.cn m

/-- A function's fault. -/
def funP (m k : Nat) (f : PF) : Int × Int :=
  if sizesP f = false ∨ (k = 0 ∧ f.args ≠ 0) then (1, 0)
  else if leastP (badP m f) f.cn < f.cn then (2, (leastP (badP m f) f.cn : Int))
  else flowP f.cn f.op f.ar (f.cn + 1) s0

def faultP (m : Nat) (F : Nat → PF) : Nat → Bool := fun k => decide ((funP m k (F k)).1 ≠ 0)

/-- A program's fault. -/
def progP (m : Nat) (F : Nat → PF) : Int × Int × Int :=
  if m < 1 ∨ 8 < m then (1, 0, 0)
  else if leastP (faultP m F) m < m then ((funP m (leastP (faultP m F) m) (F (leastP (faultP m F) m))).1, (leastP (faultP m F) m : Int), (funP m (leastP (faultP m F) m) (F (leastP (faultP m F) m))).2)
  else (0, 0, 0)

end Go.Proofs.YtkafkipjedpohaaGreatDoor
/-
  The plain mathematics of runs: the machine, and what holds in a run of a program in which nothing is wrong. No Go here.
-/
namespace Go.Proofs.YtkafkipjedpohaaGreatDoor

/-! Heights: what a flow without a fault has settled. -/

/-- Every instruction that is come to has one height, which is enough and not too much, and leads to instructions that are there. -/
structure Closed (n : Nat) (op ar : Nat → Int) (K : Nat → Bool) (H : Nat → Int) : Prop where
  first : K 0 = true ∧ H 0 = 0
  low : ∀ i, i < n → K i = true → popsP (op i) (ar i) ≤ H i
  high : ∀ i, i < n → K i = true → H i - popsP (op i) (ar i) + pushesP (op i) ≤ 16
  next : ∀ i, i < n → K i = true → ∀ t, t ∈ afterP (op i) (ar i) i → t < n ∧ K t.toNat = true ∧ H t.toNat = H i - popsP (op i) (ar i) + pushesP (op i)

theorem reachP_ok {n : Nat} {s : St} {to h : Int} (e : (reachP n s to h).1 = 0) :
    to < n ∧ (∀ j, s.K j = true → (reachP n s to h).2.K j = true ∧ (reachP n s to h).2.H j = s.H j) ∧ (reachP n s to h).2.K to.toNat = true ∧ (reachP n s to h).2.H to.toNat = h := by
  unfold reachP at e ⊢
  by_cases h1 : (n : Int) ≤ to
  · rw [if_pos h1] at e; simp at e
  · rw [if_neg h1] at e ⊢
    by_cases h2 : s.K to.toNat = true ∧ s.H to.toNat ≠ h
    · rw [if_pos h2] at e; simp at e
    · rw [if_neg h2]
      refine ⟨by omega, fun j hj => ?_, upd_same _ _ _, upd_same _ _ _⟩
      by_cases e2 : j = to.toNat
      · subst e2
        refine ⟨upd_same _ _ _, ?_⟩
        show upd s.H to.toNat h to.toNat = _
        rw [upd_same]
        by_cases e3 : s.H to.toNat = h
        · exact e3.symm
        · exact absurd ⟨hj, e3⟩ h2
      · exact ⟨(upd_other _ _ _ _ e2).trans hj, upd_other _ _ _ _ e2⟩

theorem reachAll_ok {n : Nat} {h : Int} : ∀ {l : List Int} {s : St}, (reachAll n h l s).1 = 0 →
    (∀ j, s.K j = true → (reachAll n h l s).2.K j = true ∧ (reachAll n h l s).2.H j = s.H j) ∧ (∀ t, t ∈ l → t < n ∧ (reachAll n h l s).2.K t.toNat = true ∧ (reachAll n h l s).2.H t.toNat = h) := by
  intro l
  induction l with
  | nil => intro s _; exact ⟨fun j hj => ⟨hj, rfl⟩, fun t ht => by cases ht⟩
  | cons t r ih =>
    intro s e
    unfold reachAll at e ⊢
    by_cases h0 : (reachP n s t h).1 = 0
    · rw [if_pos h0] at e ⊢
      obtain ⟨a1, a2, a3, a4⟩ := reachP_ok h0
      obtain ⟨b1, b2⟩ := ih e
      refine ⟨fun j hj => ?_, fun u hu => ?_⟩
      · obtain ⟨c1, c2⟩ := a2 j hj
        obtain ⟨d1, d2⟩ := b1 j c1
        exact ⟨d1, d2.trans c2⟩
      · rcases List.mem_cons.1 hu with rfl | hu
        · obtain ⟨d1, d2⟩ := b1 _ a3
          exact ⟨a1, d1, d2.trans a4⟩
        · exact b2 u hu
    · rw [if_neg h0] at e
      exact absurd e h0

/-- While the flow is followed. -/
structure Along (n : Nat) (op ar : Nat → Int) (s : St) : Prop where
  first : s.K 0 = true ∧ s.H 0 = 0
  good : ∀ i, i < n → s.L i = true → popsP (op i) (ar i) ≤ s.H i ∧ s.H i - popsP (op i) (ar i) + pushesP (op i) ≤ 16 ∧ s.K i = true ∧
    ∀ t, t ∈ afterP (op i) (ar i) i → t < n ∧ s.K t.toNat = true ∧ s.H t.toNat = s.H i - popsP (op i) (ar i) + pushesP (op i)

theorem along_s0 (n : Nat) (op ar : Nat → Int) : Along n op ar s0 := ⟨⟨by simp [s0, upd], by simp [s0]⟩, fun i _ h => by simp [s0] at h⟩

theorem Along.look {n : Nat} {op ar : Nat → Int} {s : St} (h : Along n op ar s) {i : Nat} (hk : s.K i = true) (e : (lookP n op ar s i).1 = 0) : Along n op ar (lookP n op ar s i).2 := by
  unfold lookP at e ⊢
  by_cases h1 : s.H i < popsP (op i) (ar i)
  · rw [if_pos h1] at e; simp at e
  · rw [if_neg h1] at e ⊢
    by_cases h2 : 16 < s.H i - popsP (op i) (ar i) + pushesP (op i)
    · rw [if_pos h2] at e; simp at e
    · rw [if_neg h2] at e ⊢
      obtain ⟨b1, b2⟩ := reachAll_ok e
      have bL := reachAll_L n (s.H i - popsP (op i) (ar i) + pushesP (op i)) (afterP (op i) (ar i) i) { s with L := upd s.L i true }
      generalize (reachAll n (s.H i - popsP (op i) (ar i) + pushesP (op i)) (afterP (op i) (ar i) i) { s with L := upd s.L i true }).2 = s' at *
      refine ⟨⟨(b1 0 h.first.1).1, (b1 0 h.first.1).2.trans h.first.2⟩, fun j hj hL => ?_⟩
      rw [bL] at hL
      by_cases e2 : j = i
      · subst e2
        obtain ⟨c1, c2⟩ := b1 j hk
        rw [c2]
        exact ⟨by show popsP (op j) (ar j) ≤ s.H j; omega, by show s.H j - popsP (op j) (ar j) + pushesP (op j) ≤ 16; omega, c1, b2⟩
      · have hL' : s.L j = true := by rw [← upd_other s.L i j true e2]; exact hL
        obtain ⟨g1, g2, g3, g4⟩ := h.good j hj hL'
        obtain ⟨c1, c2⟩ := b1 j g3
        rw [c2]
        refine ⟨g1, g2, c1, fun t ht => ?_⟩
        obtain ⟨k1, k2, k3⟩ := g4 t ht
        obtain ⟨d1, d2⟩ := b1 _ k2
        exact ⟨k1, d1, d2.trans k3⟩

theorem flow_closed {n : Nat} {op ar : Nat → Int} : ∀ {f : Nat} {s : St}, unl s.L n < f → Along n op ar s → (flowP n op ar f s).1 = 0 → ∃ K H, Closed n op ar K H := by
  intro f
  induction f with
  | zero => intro s h; omega
  | succ f ih =>
    intro s hu ha e
    unfold flowP at e
    rcases leastP_spec (waits s) n with ⟨h1, h2, h3⟩ | ⟨h1, h2⟩
    · rw [if_pos h1] at e
      have hw : s.K (leastP (waits s) n) = true ∧ s.L (leastP (waits s) n) = false := by simpa [waits] using h2
      by_cases h0 : (lookP n op ar s (leastP (waits s) n)).1 = 0
      · rw [if_pos h0] at e
        refine ih ?_ (ha.look hw.1 h0) e
        rw [lookP_L]
        have := unl_upd s.L n _ h1 hw.2
        omega
      · rw [if_neg h0] at e
        exact absurd e h0
    · have hall : ∀ i, i < n → s.K i = true → s.L i = true := fun i hi hk => by
        have := h2 i hi
        simpa [waits, hk] using this
      exact ⟨s.K, s.H, ha.first, fun i hi hk => (ha.good i hi (hall i hi hk)).1, fun i hi hk => (ha.good i hi (hall i hi hk)).2.1, fun i hi hk => (ha.good i hi (hall i hi hk)).2.2.2⟩

/-- A function in which nothing is wrong. -/
structure FunFine (m k : Nat) (f : PF) (K : Nat → Bool) (H : Nat → Int) : Prop where
  locals : 0 ≤ f.locals ∧ f.locals ≤ 8
  args : 0 ≤ f.args ∧ f.args ≤ f.locals ∧ (k = 0 → f.args = 0)
  cn : 1 ≤ f.cn ∧ f.cn ≤ 64
  legal : ∀ i, i < f.cn → legalP (f.op i) (f.ar i) f.locals f.cn m = true
  closed : Closed f.cn f.op f.ar K H

theorem fun_fine {m k : Nat} {f : PF} (h : (funP m k f).1 = 0) : ∃ K H, FunFine m k f K H := by
  unfold funP at h
  by_cases h1 : sizesP f = false ∨ (k = 0 ∧ f.args ≠ 0)
  · rw [if_pos h1] at h; simp at h
  · rw [if_neg h1] at h
    have hs : sizesP f = true := by
      cases e : sizesP f
      · exact absurd (Or.inl e) h1
      · rfl
    unfold sizesP at hs
    simp only [Bool.and_eq_true, decide_eq_true_eq] at hs
    obtain ⟨⟨⟨l0, l8⟩, a0, al⟩, n1, n64⟩ := hs
    rcases leastP_spec (badP m f) f.cn with ⟨h2, h3, h4⟩ | ⟨h2, h3⟩
    · rw [if_pos h2] at h; simp at h
    · rw [if_neg (by omega)] at h
      obtain ⟨K, H, hc⟩ := flow_closed (by have := unl_le s0.L f.cn; omega) (along_s0 f.cn f.op f.ar) h
      refine ⟨K, H, ⟨l0, l8⟩, ⟨a0, al, fun e => ?_⟩, ⟨n1, n64⟩, fun i hi => ?_, hc⟩
      · by_cases e2 : f.args = 0
        · exact e2
        · exact absurd (Or.inr ⟨e, e2⟩) h1
      · have := h3 i hi
        simpa [badP] using this

end Go.Proofs.YtkafkipjedpohaaGreatDoor
/-
  The machine: one instruction after the other, as the document says; what holds in a run. No Go here.
-/
namespace Go.Proofs.YtkafkipjedpohaaGreatDoor

/-- A value: its kind, its number. -/
structure V where
  k : Int
  n : Int

def vnil : V := ⟨0, 0⟩
def vnum (n : Int) : V := ⟨1, n⟩

/-- Cut to 64 bits. -/
def w64 (n : Int) : Int := (n + 9223372036854775808) % 18446744073709551616 - 9223372036854775808

/-- A frame: its function, its next instruction, its locals, its stack (the top first). -/
structure Fr where
  fn : Nat
  pc : Nat
  loc : List V
  stk : List V

/-- A run: frames (the one at hand first), arrays, what was printed, what it gave, steps, how it ended (0: it has not); which frames are high (as the frames), which functions are compiled, the counts. -/
structure Mc where
  fr : List Fr
  arr : List (List V)
  out : List V
  gives : V
  steps : Nat
  fin : Int
  high : List Bool
  made : Nat → Bool
  cH : Nat
  cU : Nat
  cD : Nat

def twoP (op : Int) (a b : V) : V × Int :=
  if op = 9 then ((if a.k = b.k ∧ a.n = b.n then vnum 1 else vnum 0), 0)
  else if a.k ≠ 1 ∨ b.k ≠ 1 then (vnil, 3)
  else if op = 4 then (vnum (w64 (a.n + b.n)), 0)
  else if op = 5 then (vnum (w64 (a.n - b.n)), 0)
  else if op = 6 then (vnum (w64 (a.n * b.n)), 0)
  else if op = 8 then ((if a.n < b.n then vnum 1 else vnum 0), 0)
  else if b.n = 0 then (vnil, 4)
  else (vnum (w64 (a.n.tdiv b.n)), 0)

def cellsP (arr : List (List V)) : Int := (arr.map fun l => (l.length : Int)).sum

/-- The trap of a cell that may not be; 0: it may. -/
def whereP (arr : List (List V)) (a i : V) : Int :=
  if a.k ≠ 2 ∨ i.k ≠ 1 then 3
  else if i.n < 0 ∨ ((arr.getD a.n.toNat []).length : Int) ≤ i.n then 5
  else 0

/-- What goes on to the instruction behind: the frame, the arrays, what was printed, the trap. -/
def execP (op a : Int) (f : Fr) (arr : List (List V)) (out : List V) : Fr × List (List V) × List V × Int :=
  if op = 0 then ({ f with stk := vnum a :: f.stk }, arr, out, 0)
  else if op = 1 then ({ f with stk := vnil :: f.stk }, arr, out, 0)
  else if op = 12 then ({ f with stk := ⟨3, a⟩ :: f.stk }, arr, out, 0)
  else if op = 2 then ({ f with stk := f.loc.getD a.toNat vnil :: f.stk }, arr, out, 0)
  else match f.stk with
  | [] => (f, arr, out, 0)
  | x :: r =>
    if op = 3 then ({ f with stk := r, loc := f.loc.set a.toNat x }, arr, out, 0)
    else if op = 19 then ({ f with stk := r }, arr, out ++ [x], 0)
    else if op = 20 then ({ f with stk := r }, arr, out, 0)
    else if op = 21 then ({ f with stk := x :: x :: r }, arr, out, 0)
    else if op = 15 then
      if x.k ≠ 1 then ({ f with stk := r }, arr, out, 3)
      else if x.n < 0 then ({ f with stk := r }, arr, out, 5)
      else if 200 - cellsP arr < x.n then ({ f with stk := r }, arr, out, 8)
      else ({ f with stk := ⟨2, (arr.length : Int)⟩ :: r }, arr ++ [List.replicate x.n.toNat vnil], out, 0)
    else if op = 18 then
      if x.k ≠ 2 then ({ f with stk := r }, arr, out, 3)
      else ({ f with stk := vnum ((arr.getD x.n.toNat []).length : Int) :: r }, arr, out, 0)
    else match r with
    | [] => (f, arr, out, 0)
    | y :: q =>
      if op = 16 then
        if whereP arr y x = 0 then ({ f with stk := (arr.getD y.n.toNat []).getD x.n.toNat vnil :: q }, arr, out, 0)
        else ({ f with stk := q }, arr, out, whereP arr y x)
      else if op = 17 then match q with
        | [] => (f, arr, out, 0)
        | z :: p =>
          if whereP arr z y = 0 then ({ f with stk := p }, arr.set z.n.toNat ((arr.getD z.n.toNat []).set y.n.toNat x), out, 0)
          else ({ f with stk := p }, arr, out, whereP arr z y)
      else if (twoP op y x).2 = 0 then ({ f with stk := (twoP op y x).1 :: q }, arr, out, 0)
      else ({ f with stk := q }, arr, out, (twoP op y x).2)

def zeroP (v : V) : Bool := decide (v.k = 0 ∨ (v.k = 1 ∧ v.n = 0))

/-- Call with A arguments: of frame f, the others behind it. -/
def callP (F : Nat → PF) (A : Nat) (f : Fr) (rest : List Fr) (s : Mc) : Mc :=
  match f.stk.drop A with
  | [] => s
  | g :: r =>
    if g.k ≠ 3 ∨ (F g.n.toNat).args ≠ A then { s with fr := { f with stk := r } :: rest, fin := 6 }
    else if 24 ≤ rest.length + 1 then { s with fr := { f with stk := r } :: rest, fin := 7 }
    else { s with
      fr := { fn := g.n.toNat, pc := 0, loc := (f.stk.take A).reverse ++ List.replicate ((F g.n.toNat).locals.toNat - A) vnil, stk := [] } :: { f with pc := f.pc + 1, stk := r } :: rest,
      high := s.made g.n.toNat :: s.high }

/-- Return. -/
def returnP (f : Fr) (rest : List Fr) (s : Mc) : Mc :=
  match f.stk with
  | [] => s
  | v :: _ => match rest with
    | [] => { s with fr := [], high := s.high.drop 1, gives := v, fin := 1 }
    | g :: r => { s with fr := { g with stk := v :: g.stk } :: r, high := s.high.drop 1 }

/-- One step. -/
def stepP (F : Nat → PF) (s0 : Mc) : Mc :=
  match s0.fr with
  | [] => s0
  | f :: rest =>
    let s := { s0 with steps := s0.steps + 1, cH := s0.cH + (if s0.high.headD false = true then 1 else 0) }
    let op := (F f.fn).op f.pc
    let a := (F f.fn).ar f.pc
    if op = 10 then { s with fr := { f with pc := a.toNat } :: rest }
    else if op = 11 then match f.stk with
      | [] => s
      | v :: r => { s with fr := { f with pc := (if zeroP v = true then a.toNat else f.pc + 1), stk := r } :: rest }
    else if op = 13 then callP F a.toNat f rest s
    else if op = 14 then returnP f rest s
    else
      let x := execP op a f s.arr s.out
      { s with fr := (if x.2.2.2 = 0 then { x.1 with pc := f.pc + 1 } else x.1) :: rest, arr := x.2.1, out := x.2.2.1, fin := x.2.2.2 }

/-- The head of a loop? -/
def headP (f : PF) (i : Nat) : Bool := (List.range f.cn).any fun k => decide (i ≤ k ∧ (f.op k = 10 ∨ f.op k = 11) ∧ f.ar k = (i : Int))

/-- Which frames go down: of function n (Drop), or all (Exit). -/
def downs (all : Bool) (n : Int) : List Fr → List Bool → List Bool × Nat
  | f :: fr, h :: hs =>
    let r := downs all n fr hs
    if h = true ∧ (all = true ∨ (f.fn : Int) = n) then (false :: r.1, r.2 + 1) else (h :: r.1, r.2)
  | _, hs => (hs, 0)

/-- An event. -/
def comesP (F : Nat → PF) (kind n : Int) (s : Mc) : Mc :=
  if kind = 1 then { s with made := upd s.made n.toNat true }
  else if kind = 3 then match s.fr with
    | [] => s
    | f :: _ => if s.high.headD false = false ∧ s.made f.fn = true ∧ headP (F f.fn) f.pc = true then { s with high := true :: s.high.drop 1, cU := s.cU + 1 } else s
  else
    let d := downs (decide (kind = 4)) n s.fr s.high
    { s with high := d.1, cD := s.cD + d.2, made := if kind = 2 then upd s.made n.toNat false else s.made }

/-! What holds in a run. -/

/-- An array that is there, a function that is there. -/
def VOk (m na : Nat) (v : V) : Prop := (v.k = 2 → 0 ≤ v.n ∧ v.n < na) ∧ (v.k = 3 → 0 ≤ v.n ∧ v.n < m) ∧ (v.k = 0 → v.n = 0)
theorem VOk.mono {m na na' : Nat} {v : V} (h : VOk m na v) (hn : na ≤ na') : VOk m na' v := ⟨fun e => ⟨(h.1 e).1, by have := (h.1 e).2; omega⟩, h.2⟩
theorem vnil_ok (m na : Nat) : VOk m na vnil := ⟨fun e => by simp [vnil] at e, fun e => by simp [vnil] at e, fun _ => rfl⟩
theorem vnum_ok (m na : Nat) (n : Int) : VOk m na (vnum n) := ⟨fun e => by simp [vnum] at e, fun e => by simp [vnum] at e, fun e => by simp [vnum] at e⟩
def AllOk (m na : Nat) (l : List V) : Prop := ∀ v, v ∈ l → VOk m na v
theorem AllOk.mono {m na na' : Nat} {l : List V} (h : AllOk m na l) (hn : na ≤ na') : AllOk m na' l := fun v hv => (h v hv).mono hn
theorem AllOk.cons {m na : Nat} {v : V} {l : List V} (hv : VOk m na v) (h : AllOk m na l) : AllOk m na (v :: l) := fun u hu => by
  rcases List.mem_cons.1 hu with rfl | hu
  · exact hv
  · exact h u hu

/-- A program in which nothing is wrong: what each function's flow has settled. -/
structure Fine (m : Nat) (F : Nat → PF) (K : Nat → Nat → Bool) (H : Nat → Nat → Int) : Prop where
  size : 1 ≤ m ∧ m ≤ 8
  fn : ∀ k, k < m → FunFine m k (F k) (K k) (H k)

/-- A frame whose stack is d lower than its next instruction finds it (0: the one at hand; 1: one that waits for a Return). -/
structure FrOk (m na : Nat) (F : Nat → PF) (K : Nat → Nat → Bool) (H : Nat → Nat → Int) (d : Int) (f : Fr) : Prop where
  fn : f.fn < m
  pc : f.pc < (F f.fn).cn
  known : K f.fn f.pc = true
  locs : (f.loc.length : Int) = (F f.fn).locals
  height : (f.stk.length : Int) + d = H f.fn f.pc
  loc : AllOk m na f.loc
  stk : AllOk m na f.stk

theorem FrOk.mono {m na na' : Nat} {F : Nat → PF} {K : Nat → Nat → Bool} {H : Nat → Nat → Int} {d : Int} {f : Fr} (h : FrOk m na F K H d f) (hn : na ≤ na') : FrOk m na' F K H d f :=
  ⟨h.fn, h.pc, h.known, h.locs, h.height, h.loc.mono hn, h.stk.mono hn⟩

/-- A run that has not ended. -/
structure Inv (m : Nat) (F : Nat → PF) (K : Nat → Nat → Bool) (H : Nat → Nat → Int) (s : Mc) : Prop where
  top : ∃ f rest, s.fr = f :: rest ∧ FrOk m s.arr.length F K H 0 f ∧ (∀ g, g ∈ rest → FrOk m s.arr.length F K H 1 g) ∧ rest.length + 1 ≤ 24
  highs : s.high.length = s.fr.length
  arrs : ∀ l, l ∈ s.arr → AllOk m s.arr.length l
  cells : cellsP s.arr ≤ 200

end Go.Proofs.YtkafkipjedpohaaGreatDoor
/-
  What holds in a run is kept by every step. No Go here.
-/
namespace Go.Proofs.YtkafkipjedpohaaGreatDoor

theorem AllOk.getD {m na : Nat} {l : List V} (h : AllOk m na l) (i : Nat) : VOk m na (l.getD i vnil) := by
  by_cases hi : i < l.length
  · rw [List.getD_eq_getElem?_getD, List.getElem?_eq_getElem hi]
    exact h _ (List.getElem_mem _)
  · rw [List.getD_eq_getElem?_getD, List.getElem?_eq_none (by omega)]
    exact vnil_ok _ _
theorem AllOk.set {m na : Nat} {l : List V} (h : AllOk m na l) (i : Nat) {v : V} (hv : VOk m na v) : AllOk m na (l.set i v) := fun u hu => by
  rcases List.mem_or_eq_of_mem_set hu with hu | rfl
  · exact h u hu
  · exact hv
theorem AllOk.tail {m na : Nat} {v : V} {l : List V} (h : AllOk m na (v :: l)) : AllOk m na l := fun u hu => h u (List.mem_cons_of_mem _ hu)
theorem AllOk.head {m na : Nat} {v : V} {l : List V} (h : AllOk m na (v :: l)) : VOk m na v := h v List.mem_cons_self

theorem two_ok (m na : Nat) (op : Int) (a b : V) : VOk m na (twoP op a b).1 := by
  unfold twoP
  repeat' split
  all_goals first | exact vnum_ok _ _ _ | exact vnil_ok _ _

theorem cells_append (arr : List (List V)) (l : List V) : cellsP (arr ++ [l]) = cellsP arr + l.length := by
  simp [cellsP]
theorem cells_set (arr : List (List V)) (i : Nat) (l : List V) (h : l.length = (arr.getD i []).length) : cellsP (arr.set i l) = cellsP arr := by
  unfold cellsP
  induction arr generalizing i with
  | nil => simp
  | cons a r ih =>
    cases i with
    | zero => simp at h; simp [h]
    | succ i => simp only [List.set_cons_succ, List.map_cons, List.sum_cons]; rw [ih i (by simpa using h)]

/-- What an instruction that goes on leaves. -/
structure Went (m : Nat) (op a : Int) (f : Fr) (arr : List (List V)) (x : Fr × List (List V) × List V × Int) : Prop where
  fn : x.1.fn = f.fn
  pc : x.1.pc = f.pc
  locs : x.1.loc.length = f.loc.length
  height : x.2.2.2 = 0 → (x.1.stk.length : Int) = f.stk.length - popsP op a + pushesP op
  more : arr.length ≤ x.2.1.length
  loc : AllOk m x.2.1.length x.1.loc
  stk : AllOk m x.2.1.length x.1.stk
  arrs : ∀ l, l ∈ x.2.1 → AllOk m x.2.1.length l
  cells : cellsP x.2.1 ≤ 200

theorem where_ok {arr : List (List V)} {a i : V} (h : whereP arr a i = 0) : a.k = 2 ∧ i.k = 1 ∧ 0 ≤ i.n ∧ i.n < (arr.getD a.n.toNat []).length := by
  unfold whereP at h
  by_cases h1 : a.k ≠ 2 ∨ i.k ≠ 1
  · rw [if_pos h1] at h; simp at h
  · rw [if_neg h1] at h
    by_cases h2 : i.n < 0 ∨ ((arr.getD a.n.toNat []).length : Int) ≤ i.n
    · rw [if_pos h2] at h; simp at h
    · omega

theorem arr_getD_ok {m : Nat} {arr : List (List V)} (h : ∀ l, l ∈ arr → AllOk m arr.length l) (i : Nat) : AllOk m arr.length (arr.getD i []) := by
  by_cases hi : i < arr.length
  · rw [List.getD_eq_getElem?_getD, List.getElem?_eq_getElem hi]
    exact h _ (List.getElem_mem _)
  · rw [List.getD_eq_getElem?_getD, List.getElem?_eq_none (by omega)]
    intro v hv; cases hv

set_option maxHeartbeats 1000000 in
theorem exec_went {m : Nat} {op a : Int} {f : Fr} {arr : List (List V)} {out : List V} {locals n : Int} (hl : legalP op a locals n m = true) (h10 : op ≠ 10) (h11 : op ≠ 11) (h13 : op ≠ 13) (h14 : op ≠ 14)
    (hp : popsP op a ≤ f.stk.length) (ho : AllOk m arr.length f.loc) (hs : AllOk m arr.length f.stk) (ha : ∀ l, l ∈ arr → AllOk m arr.length l) (hc : cellsP arr ≤ 200) :
    Went m op a f arr (execP op a f arr out) := by
  have hr := legal_range hl
  obtain ⟨fn, pc, loc, stk⟩ := f
  simp only at hp ho hs
  by_cases e0 : op = 0
  · subst e0
    simp only [execP, if_pos]
    exact ⟨rfl, rfl, rfl, fun _ => by simp [popsP, popsT, pushesP], Nat.le_refl _, ho, hs.cons (vnum_ok _ _ _), ha, hc⟩
  by_cases e1 : op = 1
  · subst e1
    simp only [execP, if_pos, if_neg e0]
    exact ⟨rfl, rfl, rfl, fun _ => by simp [popsP, popsT, pushesP], Nat.le_refl _, ho, hs.cons (vnil_ok _ _), ha, hc⟩
  by_cases e12 : op = 12
  · subst e12
    have hf : 0 ≤ a ∧ a < m := by simpa [legalP] using hl
    simp only [execP, if_pos, if_neg e0, if_neg e1]
    exact ⟨rfl, rfl, rfl, fun _ => by simp [popsP, popsT, pushesP], Nat.le_refl _, ho, hs.cons ⟨fun e => by simp at e, fun _ => hf, fun e => by simp at e⟩, ha, hc⟩
  by_cases e2 : op = 2
  · subst e2
    simp only [execP, if_pos, if_neg e0, if_neg e1, if_neg e12]
    exact ⟨rfl, rfl, rfl, fun _ => by simp [popsP, popsT, pushesP], Nat.le_refl _, ho, hs.cons (ho.getD _), ha, hc⟩
  have hp1 : 1 ≤ popsP op a := by
    unfold popsP popsT
    rw [if_neg h13, if_neg (by omega)]
    split
    · omega
    · split <;> omega
  cases stk with
  | nil => simp at hp; omega
  | cons x r =>
    simp only [execP, if_neg e0, if_neg e1, if_neg e12, if_neg e2]
    by_cases e3 : op = 3
    · subst e3
      simp only [if_pos]
      exact ⟨rfl, rfl, by simp, fun _ => by simp [popsP, popsT, pushesP], Nat.le_refl _, ho.set _ hs.head, hs.tail, ha, hc⟩
    by_cases e19 : op = 19
    · subst e19
      simp only [if_pos, if_neg e3]
      exact ⟨rfl, rfl, rfl, fun _ => by simp [popsP, popsT, pushesP], Nat.le_refl _, ho, hs.tail, ha, hc⟩
    by_cases e20 : op = 20
    · subst e20
      simp only [if_pos, if_neg e3, if_neg e19]
      exact ⟨rfl, rfl, rfl, fun _ => by simp [popsP, popsT, pushesP], Nat.le_refl _, ho, hs.tail, ha, hc⟩
    by_cases e21 : op = 21
    · subst e21
      simp only [if_pos, if_neg e3, if_neg e19, if_neg e20]
      exact ⟨rfl, rfl, rfl, fun _ => by simp [popsP, popsT, pushesP]; omega, Nat.le_refl _, ho, hs.cons hs.head, ha, hc⟩
    by_cases e15 : op = 15
    · subst e15
      simp only [if_pos, if_neg e3, if_neg e19, if_neg e20, if_neg e21]
      split
      · exact ⟨rfl, rfl, rfl, fun e => by simp at e, Nat.le_refl _, ho, hs.tail, ha, hc⟩
      · split
        · exact ⟨rfl, rfl, rfl, fun e => by simp at e, Nat.le_refl _, ho, hs.tail, ha, hc⟩
        · split
          · exact ⟨rfl, rfl, rfl, fun e => by simp at e, Nat.le_refl _, ho, hs.tail, ha, hc⟩
          · have hle : arr.length ≤ (arr ++ [List.replicate x.n.toNat vnil]).length := by simp
            refine ⟨rfl, rfl, rfl, fun _ => by simp [popsP, popsT, pushesP], hle, ho.mono hle, (hs.tail.mono hle).cons ⟨fun _ => by simp; omega, fun e => by simp at e, fun e => by simp at e⟩, fun l hm => ?_, ?_⟩
            · rcases List.mem_append.1 hm with hm | hm
              · exact (ha l hm).mono hle
              · rw [List.mem_singleton] at hm
                subst hm
                intro v hv
                rw [List.mem_replicate] at hv
                rw [hv.2]
                exact vnil_ok _ _
            · show cellsP (arr ++ [List.replicate x.n.toNat vnil]) ≤ 200
              rw [cells_append, List.length_replicate]
              omega
    by_cases e18 : op = 18
    · subst e18
      simp only [if_pos, if_neg e3, if_neg e19, if_neg e20, if_neg e21, if_neg e15]
      split
      · exact ⟨rfl, rfl, rfl, fun e => by simp at e, Nat.le_refl _, ho, hs.tail, ha, hc⟩
      · exact ⟨rfl, rfl, rfl, fun _ => by simp [popsP, popsT, pushesP], Nat.le_refl _, ho, hs.tail.cons (vnum_ok _ _ _), ha, hc⟩
    simp only [if_neg e3, if_neg e19, if_neg e20, if_neg e21, if_neg e15, if_neg e18]
    have hp2 : 2 ≤ popsP op a := by
      unfold popsP popsT
      rw [if_neg h13, if_neg (by omega)]
      split
      · omega
      · split <;> omega
    cases r with
    | nil => simp at hp; omega
    | cons y q =>
      simp only
      by_cases e16 : op = 16
      · subst e16
        simp only [if_pos]
        split
        · exact ⟨rfl, rfl, rfl, fun _ => by simp [popsP, popsT, pushesP]; omega, Nat.le_refl _, ho, hs.tail.tail.cons ((arr_getD_ok ha _).getD _), ha, hc⟩
        · exact ⟨rfl, rfl, rfl, fun e => absurd e (by assumption), Nat.le_refl _, ho, hs.tail.tail, ha, hc⟩
      by_cases e17 : op = 17
      · subst e17
        simp only [if_pos, if_neg e16]
        cases q with
        | nil => simp [popsP, popsT] at hp
        | cons z p =>
          simp only
          split
          · rename_i hw
            obtain ⟨w1, w2, w3, w4⟩ := where_ok hw
            refine ⟨rfl, rfl, rfl, fun _ => by simp [popsP, popsT, pushesP]; omega, by simp, by simpa using ho, by simpa using hs.tail.tail.tail, fun l hm => ?_, ?_⟩
            · simp only [List.length_set]
              rcases List.mem_or_eq_of_mem_set hm with hm | rfl
              · exact ha l hm
              · exact (arr_getD_ok ha _).set _ hs.head
            · show cellsP (arr.set z.n.toNat _) ≤ 200
              rw [cells_set _ _ _ (by simp)]
              exact hc
          · exact ⟨rfl, rfl, rfl, fun e => absurd e (by assumption), Nat.le_refl _, ho, hs.tail.tail.tail, ha, hc⟩
      have hpp : popsP op a = 2 := by
        unfold popsP popsT
        rw [if_neg h13, if_neg (by omega), if_pos (by omega)]
      have hqq : pushesP op = 1 := by
        unfold pushesP
        rw [if_neg (by omega), if_neg (by omega)]
      simp only [if_neg e16, if_neg e17]
      split
      · exact ⟨rfl, rfl, rfl, fun _ => by rw [hpp, hqq]; simp; omega, Nat.le_refl _, ho, hs.tail.tail.cons (two_ok _ _ _ _ _), ha, hc⟩
      · exact ⟨rfl, rfl, rfl, fun e => absurd e (by assumption), Nat.le_refl _, ho, hs.tail.tail, ha, hc⟩
end Go.Proofs.YtkafkipjedpohaaGreatDoor
/-
  What holds in a run is kept by every step: the steps. No Go here.
-/
namespace Go.Proofs.YtkafkipjedpohaaGreatDoor

section
variable {m : Nat} {F : Nat → PF} {K : Nat → Nat → Bool} {H : Nat → Nat → Int}

/-- The frame at hand stands where it comes to. -/
theorem FrOk.goes {na : Nat} {f f' : Fr} (hF : Fine m F K H) (hf : FrOk m na F K H 0 f) {t : Int} (ht : t ∈ afterP ((F f.fn).op f.pc) ((F f.fn).ar f.pc) f.pc) {d : Int}
    (h1 : f'.fn = f.fn) (h2 : f'.pc = t.toNat) (h3 : f'.loc.length = f.loc.length) (h4 : (f'.stk.length : Int) + d = f.stk.length - popsP ((F f.fn).op f.pc) ((F f.fn).ar f.pc) + pushesP ((F f.fn).op f.pc)) {na' : Nat} (h5 : AllOk m na' f'.loc) (h6 : AllOk m na' f'.stk) (h7 : 0 ≤ t) :
    FrOk m na' F K H d f' := by
  obtain ⟨c1, c2, c3⟩ := (hF.fn f.fn hf.fn).closed.next f.pc hf.pc hf.known t ht
  refine ⟨by rw [h1]; exact hf.fn, by rw [h1, h2]; omega, by rw [h1, h2]; exact c2, by rw [h1, h3]; exact hf.locs, ?_, h5, h6⟩
  rw [h1, h2, c3, h4, ← hf.height]
  omega

theorem FrOk.low {na : Nat} {f : Fr} (hF : Fine m F K H) (hf : FrOk m na F K H 0 f) : popsP ((F f.fn).op f.pc) ((F f.fn).ar f.pc) ≤ f.stk.length := by
  have := (hF.fn f.fn hf.fn).closed.low f.pc hf.pc hf.known
  have := hf.height
  omega

theorem FrOk.legal {na : Nat} {d : Int} {f : Fr} (hF : Fine m F K H) (hf : FrOk m na F K H d f) : legalP ((F f.fn).op f.pc) ((F f.fn).ar f.pc) (F f.fn).locals (F f.fn).cn m = true :=
  (hF.fn f.fn hf.fn).legal f.pc hf.pc

theorem call_inv (hF : Fine m F K H) {s : Mc} {f : Fr} {rest : List Fr} (hf : FrOk m s.arr.length F K H 0 f) (hr : ∀ g, g ∈ rest → FrOk m s.arr.length F K H 1 g) (hh : s.high.length = rest.length + 1)
    (ha : ∀ l, l ∈ s.arr → AllOk m s.arr.length l) (hc : cellsP s.arr ≤ 200) (hop : (F f.fn).op f.pc = 13) (_hs : s.fr = f :: rest) (h0 : (callP F ((F f.fn).ar f.pc).toNat f rest s).fin = 0) :
    Inv m F K H (callP F ((F f.fn).ar f.pc).toNat f rest s) := by
  have hl := legal_call (hf.legal hF) hop
  have hp := hf.low hF
  rw [hop, show popsP 13 ((F f.fn).ar f.pc) = 1 + (F f.fn).ar f.pc by simp [popsP]] at hp
  unfold callP at h0 ⊢
  cases hd : f.stk.drop ((F f.fn).ar f.pc).toNat with
  | nil =>
    have := congrArg List.length hd
    simp at this
    omega
  | cons g r =>
    have hlen := congrArg List.length hd
    simp only [List.length_drop, List.length_cons] at hlen
    have hg : g ∈ f.stk := List.mem_of_mem_drop (by rw [hd]; exact List.mem_cons_self)
    have hrs : AllOk m s.arr.length r := fun v hv => hf.stk v (List.mem_of_mem_drop (by rw [hd]; exact List.mem_cons_of_mem _ hv))
    rw [hd] at h0
    simp only at h0 ⊢
    by_cases h1 : g.k ≠ 3 ∨ (F g.n.toNat).args ≠ (((F f.fn).ar f.pc).toNat : Int)
    · rw [if_pos h1] at h0; simp at h0
    · rw [if_neg h1] at h0 ⊢
      by_cases h2 : 24 ≤ rest.length + 1
      · rw [if_pos h2] at h0; simp at h0
      · rw [if_neg h2]
        have hk : g.k = 3 := by omega
        have hgv := (hf.stk g hg).2.1 hk
        have hfn : g.n.toNat < m := by omega
        have hff := hF.fn g.n.toNat hfn
        refine ⟨⟨_, _, rfl, ⟨hfn, ?_, hff.closed.first.1, ?_, ?_, ?_, fun v hv => by cases hv⟩, fun q hq => ?_, by simp; omega⟩, by simp [hh], ha, hc⟩
        · have := hff.cn; simp only; omega
        · have := hff.args
          have := hff.locals
          simp only [List.length_append, List.length_reverse, List.length_take, List.length_replicate]
          omega
        · simp only [List.length_nil]; rw [hff.closed.first.2]; simp
        · intro v hv
          rcases List.mem_append.1 hv with hv | hv
          · exact hf.stk v (List.mem_of_mem_take (List.mem_reverse.1 hv))
          · rw [(List.mem_replicate.1 hv).2]; exact vnil_ok _ _
        · rcases List.mem_cons.1 hq with rfl | hq
          · refine hf.goes hF (t := (f.pc : Int) + 1) ?_ ?_ ?_ ?_ ?_ ?_ ?_ ?_
            · rw [hop]; simp [afterP]
            · rfl
            · show f.pc + 1 = ((f.pc : Int) + 1).toNat; omega
            · rfl
            · rw [hop]
              simp only [popsP, pushesP, if_true]
              simp
              omega
            · exact hf.loc
            · exact hrs
            · omega
          · exact hr q hq

theorem step_inv (hF : Fine m F K H) {s : Mc} (hI : Inv m F K H s) (h0 : (stepP F s).fin = 0) : Inv m F K H (stepP F s) := by
  obtain ⟨⟨f, rest, hfr, hf, hr, hn⟩, hh, ha, hc⟩ := hI
  have hlow := hf.low hF
  have hleg := hf.legal hF
  rw [hfr, List.length_cons] at hh
  unfold stepP at h0 ⊢
  rw [hfr] at h0 ⊢
  simp only at h0 ⊢
  by_cases e10 : (F f.fn).op f.pc = 10
  · rw [if_pos e10]
    have hj := legal_jump hleg (Or.inl e10)
    refine ⟨⟨_, _, rfl, ?_, hr, hn⟩, by simpa using hh, ha, hc⟩
    refine hf.goes hF (t := (F f.fn).ar f.pc) ?_ ?_ ?_ ?_ ?_ ?_ ?_ ?_
    · rw [e10]; simp [afterP]
    · rfl
    · rfl
    · rfl
    · rw [e10]; simp [popsP, popsT, pushesP]
    · exact hf.loc
    · exact hf.stk
    · exact hj.1
  rw [if_neg e10] at h0 ⊢
  by_cases e11 : (F f.fn).op f.pc = 11
  · rw [if_pos e11] at h0 ⊢
    have hj := legal_jump hleg (Or.inr e11)
    rw [e11, show popsP 11 ((F f.fn).ar f.pc) = 1 by simp [popsP, popsT]] at hlow
    cases hst : f.stk with
    | nil => rw [hst] at hlow; simp at hlow
    | cons v r =>
      have hsv := hf.stk
      rw [hst] at hsv
      simp only
      refine ⟨⟨_, _, rfl, ?_, hr, hn⟩, by simpa using hh, ha, hc⟩
      by_cases hz : zeroP v = true
      · rw [if_pos hz]
        refine hf.goes hF (t := (F f.fn).ar f.pc) ?_ ?_ ?_ ?_ ?_ ?_ ?_ ?_
        · rw [e11]; simp [afterP]
        · rfl
        · rfl
        · rfl
        · rw [e11, hst]; simp [popsP, popsT, pushesP]
        · exact hf.loc
        · exact hsv.tail
        · exact hj.1
      · rw [if_neg hz]
        refine hf.goes hF (t := (f.pc : Int) + 1) ?_ ?_ ?_ ?_ ?_ ?_ ?_ ?_
        · rw [e11]; simp [afterP]
        · rfl
        · show f.pc + 1 = ((f.pc : Int) + 1).toNat; omega
        · rfl
        · rw [e11, hst]; simp [popsP, popsT, pushesP]
        · exact hf.loc
        · exact hsv.tail
        · omega
  rw [if_neg e11] at h0 ⊢
  by_cases e13 : (F f.fn).op f.pc = 13
  · rw [if_pos e13] at h0 ⊢
    exact call_inv hF (s := { s with fr := f :: rest, steps := s.steps + 1, cH := s.cH + (if s.high.headD false = true then 1 else 0) }) hf hr (by simpa using hh) ha hc e13 rfl (by simpa [hfr] using h0)
  rw [if_neg e13] at h0 ⊢
  by_cases e14 : (F f.fn).op f.pc = 14
  · rw [if_pos e14] at h0 ⊢
    unfold returnP at h0 ⊢
    rw [e14, show popsP 14 ((F f.fn).ar f.pc) = 1 by simp [popsP, popsT]] at hlow
    cases hst : f.stk with
    | nil => rw [hst] at hlow; simp at hlow
    | cons v r =>
      have hsv := hf.stk
      rw [hst] at hsv h0
      cases rest with
      | nil => simp at h0
      | cons g q =>
        have hg := hr g List.mem_cons_self
        simp only
        refine ⟨⟨_, _, rfl, ⟨hg.fn, hg.pc, hg.known, hg.locs, ?_, hg.loc, hg.stk.cons hsv.head⟩, fun u hu => hr u (List.mem_cons_of_mem _ hu), by simp at hn; omega⟩, by simp at hh; simp [hh], ha, hc⟩
        have := hg.height
        simp
        omega
  rw [if_neg e14] at h0 ⊢
  have hw := exec_went (out := s.out) hleg e10 e11 e13 e14 hlow hf.loc hf.stk ha hc
  simp only at h0
  rw [if_pos h0]
  have haft : (f.pc : Int) + 1 ∈ afterP ((F f.fn).op f.pc) ((F f.fn).ar f.pc) f.pc := by
    unfold afterP
    rw [if_neg e14, if_neg e10, if_neg e11]
    simp
  refine ⟨⟨_, _, rfl, ?_, fun g hg => (hr g hg).mono hw.more, hn⟩, by simpa using hh, hw.arrs, hw.cells⟩
  refine hf.goes hF (t := (f.pc : Int) + 1) haft ?_ ?_ ?_ ?_ ?_ ?_ ?_
  · exact hw.fn
  · show f.pc + 1 = ((f.pc : Int) + 1).toNat; omega
  · exact hw.locs
  · have := hw.height h0
    show ((execP _ _ f s.arr s.out).1.stk.length : Int) + 0 = _
    rw [this]
    omega
  · exact hw.loc
  · exact hw.stk
  · omega
end
end Go.Proofs.YtkafkipjedpohaaGreatDoor
