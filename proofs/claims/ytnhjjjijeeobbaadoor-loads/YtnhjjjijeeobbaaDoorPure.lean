/-
  The plain mathematics of Load: what is wrong with a program, over instructions that are functions of their number. No Go here.
-/
namespace Go.Proofs.YtnhjjjijeeobbaaDoor

/-- A function of a program, as plain data: how many arguments, locals, instructions; each instruction's Op and A by its number. -/
structure PF where
  args : Int
  locals : Int
  cn : Nat
  op : Nat → Int
  ar : Nat → Int

/-- What is known while the flow is followed. -/
structure St where
  K : Nat → Bool
  L : Nat → Bool
  H : Nat → Int

def upd {α : Type} (f : Nat → α) (i : Nat) (v : α) : Nat → α := fun j => if j = i then v else f j

theorem upd_same {α : Type} (f : Nat → α) (i : Nat) (v : α) : upd f i v i = v := by simp [upd]
theorem upd_other {α : Type} (f : Nat → α) (i j : Nat) (v : α) (h : j ≠ i) : upd f i v j = f j := by simp [upd, h]

def legalP (op a locals n funcs : Int) : Bool :=
  if op = 2 ∨ op = 3 then decide (0 ≤ a ∧ a < locals)
  else if op = 10 ∨ op = 11 then decide (0 ≤ a ∧ a < n)
  else if op = 12 then decide (0 ≤ a ∧ a < funcs)
  else if op = 13 then decide (0 ≤ a ∧ a ≤ 8)
  else decide (0 ≤ op ∧ op ≤ 21)

/-- check.known and check.operandFits. -/
def fitsP (op a locals n funcs : Int) : Bool :=
  if op = 2 ∨ op = 3 then decide (0 ≤ a ∧ a < locals)
  else if op = 10 ∨ op = 11 then decide (0 ≤ a ∧ a < n)
  else if op = 12 then decide (0 ≤ a ∧ a < funcs)
  else if op = 13 then decide (0 ≤ a ∧ a < 9)
  else true

theorem legal_fits (op a locals n funcs : Int) : legalP op a locals n funcs = (decide (0 ≤ op ∧ op < 22) && fitsP op a locals n funcs) := by
  unfold legalP fitsP
  rw [Bool.eq_iff_iff]
  by_cases h1 : op = 2 ∨ op = 3
  · have : 0 ≤ op ∧ op < 22 := by omega
    simp [h1, this]
  · by_cases h2 : op = 10 ∨ op = 11
    · have : 0 ≤ op ∧ op < 22 := by omega
      simp [h1, h2, this]
    · by_cases h3 : op = 12
      · subst h3; simp
      · by_cases h4 : op = 13
        · subst h4; simp; omega
        · simp [h1, h2, h3, h4]; omega

theorem legal_range {op a locals n funcs : Int} (h : legalP op a locals n funcs = true) : 0 ≤ op ∧ op < 22 := by
  rw [legal_fits] at h
  simp at h
  omega

theorem legal_jump {op a locals n funcs : Int} (h : legalP op a locals n funcs = true) (hj : op = 10 ∨ op = 11) : 0 ≤ a ∧ a < n := by
  unfold legalP at h
  rw [if_neg (by omega), if_pos hj] at h
  simpa using h

theorem legal_call {op a locals n funcs : Int} (h : legalP op a locals n funcs = true) (hj : op = 13) : 0 ≤ a ∧ a ≤ 8 := by
  subst hj
  simpa [legalP] using h

/-- What an instruction pops, a Call's arguments left out; pushes. -/
def popsT (op : Int) : Int :=
  if op = 0 ∨ op = 1 ∨ op = 2 ∨ op = 12 ∨ op = 10 then 0
  else if op = 4 ∨ op = 5 ∨ op = 6 ∨ op = 7 ∨ op = 8 ∨ op = 9 ∨ op = 16 then 2
  else if op = 17 then 3
  else 1
def popsP (op a : Int) : Int := if op = 13 then 1 + a else popsT op
def pushesP (op : Int) : Int :=
  if op = 3 ∨ op = 10 ∨ op = 11 ∨ op = 14 ∨ op = 17 ∨ op = 19 ∨ op = 20 then 0
  else if op = 21 then 2
  else 1

theorem popsT_bd (op : Int) : 0 ≤ popsT op ∧ popsT op ≤ 3 := by unfold popsT; split <;> (try split) <;> (try split) <;> omega
theorem pushesP_bd (op : Int) : 0 ≤ pushesP op ∧ pushesP op ≤ 2 := by unfold pushesP; split <;> (try split) <;> omega
theorem popsP_bd {op a : Int} (h : op = 13 → 0 ≤ a ∧ a ≤ 8) : 0 ≤ popsP op a ∧ popsP op a ≤ 9 := by
  unfold popsP
  have := popsT_bd op
  split
  · have := h (by assumption); omega
  · omega

/-- Where an instruction goes. -/
def afterP (op a : Int) (i : Nat) : List Int :=
  if op = 14 then [] else if op = 10 then [a] else if op = 11 then [(i : Int) + 1, a] else [(i : Int) + 1]

def reachP (n : Nat) (s : St) (to h : Int) : Int × St :=
  if (n : Int) ≤ to then (3, s)
  else if s.K to.toNat = true ∧ s.H to.toNat ≠ h then (4, s)
  else (0, { K := upd s.K to.toNat true, L := s.L, H := upd s.H to.toNat h })

def reachAll (n : Nat) (h : Int) : List Int → St → Int × St
  | [], s => (0, s)
  | t :: r, s => if (reachP n s t h).1 = 0 then reachAll n h r (reachP n s t h).2 else reachP n s t h

def lookP (n : Nat) (op ar : Nat → Int) (s : St) (i : Nat) : Int × St :=
  if s.H i < popsP (op i) (ar i) then (4, { s with L := upd s.L i true })
  else if 16 < s.H i - popsP (op i) (ar i) + pushesP (op i) then (4, { s with L := upd s.L i true })
  else reachAll n (s.H i - popsP (op i) (ar i) + pushesP (op i)) (afterP (op i) (ar i) i) { s with L := upd s.L i true }

/-- The least number below n that has p; n, if there is none. -/
def leastP (p : Nat → Bool) : Nat → Nat
  | 0 => 0
  | n + 1 => if leastP p n < n then leastP p n else if p n = true then n else n + 1

theorem leastP_le (p : Nat → Bool) (n : Nat) : leastP p n ≤ n := by
  induction n with
  | zero => simp [leastP]
  | succ n ih => unfold leastP; split <;> (try split) <;> omega

theorem leastP_none (p : Nat → Bool) (n : Nat) (h : ∀ j, j < n → p j = false) : leastP p n = n := by
  induction n with
  | zero => rfl
  | succ n ih =>
    unfold leastP
    rw [ih (fun j hj => h j (by omega)), if_neg (by omega), h n (by omega)]
    simp

theorem leastP_eq (p : Nat → Bool) (n i : Nat) (hi : i < n) (hp : p i = true) (h : ∀ j, j < i → p j = false) : leastP p n = i := by
  induction n with
  | zero => omega
  | succ n ih =>
    unfold leastP
    by_cases e : i = n
    · subst e
      rw [leastP_none p i h, if_neg (by omega), if_pos hp]
    · rw [ih (by omega), if_pos (by omega)]

theorem leastP_spec (p : Nat → Bool) (n : Nat) : (leastP p n < n ∧ p (leastP p n) = true ∧ ∀ j, j < leastP p n → p j = false) ∨ (leastP p n = n ∧ ∀ j, j < n → p j = false) := by
  induction n with
  | zero => right; exact ⟨rfl, fun j hj => by omega⟩
  | succ n ih =>
    unfold leastP
    rcases ih with ⟨h1, h2, h3⟩ | ⟨h1, h2⟩
    · rw [if_pos h1]; left; exact ⟨by omega, h2, h3⟩
    · rw [h1, if_neg (by omega)]
      cases hn : p n
      · right; simp
        intro j hj
        by_cases e : j = n
        · rw [e]; exact hn
        · exact h2 j (by omega)
      · left; simp; exact ⟨hn, h2⟩

theorem leastP_congr (p q : Nat → Bool) (n : Nat) (h : ∀ j, j < n → p j = q j) : leastP p n = leastP q n := by
  induction n with
  | zero => rfl
  | succ n ih => unfold leastP; rw [ih (fun j hj => h j (by omega)), h n (by omega)]

def waits (s : St) : Nat → Bool := fun j => s.K j && !s.L j

/-- The flow of a function: an error and where. -/
def flowP (n : Nat) (op ar : Nat → Int) : Nat → St → Int × Int
  | 0, _ => (0, 0)
  | f + 1, s =>
    if leastP (waits s) n < n then
      if (lookP n op ar s (leastP (waits s) n)).1 = 0 then flowP n op ar f (lookP n op ar s (leastP (waits s) n)).2
      else ((lookP n op ar s (leastP (waits s) n)).1, (leastP (waits s) n : Int))
    else (0, 0)

/-- How many below n were not looked at. -/
def unl (L : Nat → Bool) : Nat → Nat
  | 0 => 0
  | n + 1 => unl L n + if L n = true then 0 else 1

theorem unl_le (L : Nat → Bool) (n : Nat) : unl L n ≤ n := by
  induction n with
  | zero => simp [unl]
  | succ n ih => unfold unl; split <;> omega
theorem unl_upd_ge (L : Nat → Bool) (n i : Nat) (h : n ≤ i) : unl (upd L i true) n = unl L n := by
  induction n with
  | zero => rfl
  | succ n ih => unfold unl; rw [ih (by omega), upd_other _ _ _ _ (by omega)]
theorem unl_upd (L : Nat → Bool) (n i : Nat) (hi : i < n) (h : L i = false) : unl (upd L i true) n + 1 = unl L n := by
  induction n with
  | zero => omega
  | succ n ih =>
    unfold unl
    by_cases e : i = n
    · subst e; rw [unl_upd_ge _ _ _ (Nat.le_refl _), upd_same, h]; simp
    · have := ih (by omega)
      rw [upd_other _ _ _ _ (by omega)]; omega

theorem reachP_L (n : Nat) (s : St) (to h : Int) : (reachP n s to h).2.L = s.L := by unfold reachP; split <;> (try split) <;> rfl
theorem reachAll_L (n : Nat) (h : Int) (l : List Int) (s : St) : (reachAll n h l s).2.L = s.L := by
  induction l generalizing s with
  | nil => rfl
  | cons t r ih => unfold reachAll; split; rw [ih, reachP_L]; exact reachP_L _ _ _ _
theorem lookP_L (n : Nat) (op ar : Nat → Int) (s : St) (i : Nat) : (lookP n op ar s i).2.L = upd s.L i true := by
  unfold lookP; split; rfl; split; rfl; rw [reachAll_L]

/-- Heights are small: what keeps the program's sums within their bounds. -/
def HB (s : St) : Prop := ∀ j, 0 ≤ s.H j ∧ s.H j ≤ 16
theorem reachP_HB {n : Nat} {s : St} {to h : Int} (hs : HB s) (h0 : 0 ≤ h ∧ h ≤ 16) : HB (reachP n s to h).2 := by
  unfold reachP; split
  · exact hs
  · split
    · exact hs
    · intro j; simp only [upd]; split
      · exact h0
      · exact hs j
theorem reachAll_HB {n : Nat} {h : Int} (h0 : 0 ≤ h ∧ h ≤ 16) (l : List Int) {s : St} (hs : HB s) : HB (reachAll n h l s).2 := by
  induction l generalizing s with
  | nil => exact hs
  | cons t r ih =>
    unfold reachAll; split
    · exact ih (reachP_HB hs h0)
    · exact reachP_HB hs h0
theorem lookP_HB {n : Nat} {op ar : Nat → Int} {s : St} {i : Nat} (hs : HB s) : HB (lookP n op ar s i).2 := by
  unfold lookP; split
  · exact hs
  · split
    · exact hs
    · refine reachAll_HB ⟨?_, by omega⟩ _ hs
      have := pushesP_bd (op i); omega

def s0 : St := { K := upd (fun _ => false) 0 true, L := fun _ => false, H := fun _ => 0 }
theorem HB_s0 : HB s0 := fun _ => ⟨by simp [s0], by simp [s0]⟩

def sizesP (f : PF) : Bool := decide (0 ≤ f.locals ∧ f.locals ≤ 8) && decide (0 ≤ f.args ∧ f.args ≤ f.locals) && decide (1 ≤ f.cn ∧ f.cn ≤ 64)
def badP (m : Nat) (f : PF) : Nat → Bool := fun j => !legalP (f.op j) (f.ar j) f.locals f.cn m

/-- A function's fault. -/
def funP (m k : Nat) (f : PF) : Int × Int :=
  if sizesP f = false ∨ (k = 0 ∧ f.args ≠ 0) then (1, 0)
  else if leastP (badP m f) f.cn < f.cn then (2, (leastP (badP m f) f.cn : Int))
  else flowP f.cn f.op f.ar (f.cn + 1) s0

def faultP (m : Nat) (F : Nat → PF) : Nat → Bool := fun k => decide ((funP m k (F k)).1 ≠ 0)

/-- A program's fault. -/
def progP (m : Nat) (F : Nat → PF) : Int × Int × Int :=
  if m < 1 ∨ 8 < m then (1, 0, 0)
  else if leastP (faultP m F) m < m then ((funP m (leastP (faultP m F) m) (F (leastP (faultP m F) m))).1, (leastP (faultP m F) m : Int), (funP m (leastP (faultP m F) m) (F (leastP (faultP m F) m))).2)
  else (0, 0, 0)

end Go.Proofs.YtnhjjjijeeobbaaDoor
