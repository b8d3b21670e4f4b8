import Derived.Test.YtkafkipjedpohaaGreatDoorPureC

/-
  The states of a run from its beginning. No Go here.
-/
namespace Go.Proofs.YtkafkipjedpohaaGreatDoor

theorem exec_sizes (op a : Int) (f : Fr) (arr : List (List V)) (out : List V) : (execP op a f arr out).2.1.length ≤ arr.length + 1 ∧ (execP op a f arr out).2.2.1.length ≤ out.length + 1 := by
  have t0 : ∀ (g : Fr) (ar : List (List V)) (t : Int), ar.length ≤ arr.length + 1 → ((g, ar, out, t) : Fr × List (List V) × List V × Int).2.1.length ≤ arr.length + 1 ∧ ((g, ar, out, t) : Fr × List (List V) × List V × Int).2.2.1.length ≤ out.length + 1 := fun _ _ _ h => ⟨h, by dsimp only; omega⟩
  unfold execP
  by_cases e : op = 0
  · rw [if_pos e]; exact t0 _ _ _ (by simp)
  rw [if_neg e]
  clear e
  by_cases e : op = 1
  · rw [if_pos e]; exact t0 _ _ _ (by simp)
  rw [if_neg e]
  clear e
  by_cases e : op = 12
  · rw [if_pos e]; exact t0 _ _ _ (by simp)
  rw [if_neg e]
  clear e
  by_cases e : op = 2
  · rw [if_pos e]; exact t0 _ _ _ (by simp)
  rw [if_neg e]
  clear e
  cases f with
  | mk fn pc loc stk =>
  cases stk with
  | nil => exact t0 _ _ _ (by simp)
  | cons x r =>
  dsimp only
  by_cases e : op = 3
  · rw [if_pos e]; exact t0 _ _ _ (by simp)
  rw [if_neg e]
  clear e
  by_cases e : op = 19
  · rw [if_pos e]; exact ⟨by dsimp only; omega, by simp⟩
  rw [if_neg e]
  clear e
  by_cases e : op = 20
  · rw [if_pos e]; exact t0 _ _ _ (by simp)
  rw [if_neg e]
  clear e
  by_cases e : op = 21
  · rw [if_pos e]; exact t0 _ _ _ (by simp)
  rw [if_neg e]
  clear e
  by_cases e : op = 15
  · rw [if_pos e]
    by_cases e : x.k ≠ 1
    · rw [if_pos e]; exact t0 _ _ _ (by simp)
    rw [if_neg e]
    clear e
    by_cases e : x.n < 0
    · rw [if_pos e]; exact t0 _ _ _ (by simp)
    rw [if_neg e]
    clear e
    by_cases e : 200 - cellsP arr < x.n
    · rw [if_pos e]; exact t0 _ _ _ (by simp)
    rw [if_neg e]
    exact t0 _ _ _ (by simp)
  rw [if_neg e]
  clear e
  by_cases e : op = 18
  · rw [if_pos e]
    by_cases e : x.k ≠ 2
    · rw [if_pos e]; exact t0 _ _ _ (by simp)
    rw [if_neg e]
    exact t0 _ _ _ (by simp)
  rw [if_neg e]
  clear e
  cases r with
  | nil => exact t0 _ _ _ (by simp)
  | cons y q =>
  dsimp only
  by_cases e : op = 16
  · rw [if_pos e]
    by_cases e : whereP arr y x = 0
    · rw [if_pos e]; exact t0 _ _ _ (by simp)
    rw [if_neg e]
    exact t0 _ _ _ (by simp)
  rw [if_neg e]
  clear e
  by_cases e : op = 17
  · rw [if_pos e]
    cases q with
    | nil => exact t0 _ _ _ (by simp)
    | cons z p =>
    dsimp only
    by_cases e : whereP arr z y = 0
    · rw [if_pos e]; exact t0 _ _ _ (by simp)
    rw [if_neg e]
    exact t0 _ _ _ (by simp)
  rw [if_neg e]
  clear e
  by_cases e : (twoP op y x).2 = 0
  · rw [if_pos e]; exact t0 _ _ _ (by simp)
  rw [if_neg e]
  exact t0 _ _ _ (by simp)

theorem call_arr {F : Nat → PF} (A : Nat) (f : Fr) (rest : List Fr) (s : Mc) : (callP F A f rest s).arr = s.arr := by
  unfold callP
  repeat' split
  all_goals rfl
theorem return_arr (f : Fr) (rest : List Fr) (s : Mc) : (returnP f rest s).arr = s.arr ∧ (returnP f rest s).out = s.out := by
  unfold returnP
  repeat' split
  all_goals exact ⟨rfl, rfl⟩
theorem call_out {F : Nat → PF} (A : Nat) (f : Fr) (rest : List Fr) (s : Mc) : (callP F A f rest s).out = s.out := by
  unfold callP
  repeat' split
  all_goals rfl

theorem step_sizes {F : Nat → PF} {s : Mc} {f : Fr} {rest : List Fr} (hs : s.fr = f :: rest) : (stepP F s).arr.length ≤ s.arr.length + 1 ∧ (stepP F s).out.length ≤ s.out.length + 1 := by
  rw [stepP_at hs]
  by_cases e10 : (F f.fn).op f.pc = 10
  · rw [stepQ_jump e10]
    exact ⟨Nat.le_succ _, Nat.le_succ _⟩
  by_cases e11 : (F f.fn).op f.pc = 11
  · cases hst : f.stk with
    | nil =>
      unfold stepQ
      dsimp only
      rw [if_neg e10, if_pos e11, hst]
      exact ⟨Nat.le_succ _, Nat.le_succ _⟩
    | cons v r =>
      rw [stepQ_branch e11 hst]
      exact ⟨Nat.le_succ _, Nat.le_succ _⟩
  by_cases e13 : (F f.fn).op f.pc = 13
  · rw [stepQ_call e13, call_arr, call_out]
    exact ⟨Nat.le_succ _, Nat.le_succ _⟩
  by_cases e14 : (F f.fn).op f.pc = 14
  · rw [stepQ_return e14, (return_arr _ _ _).1, (return_arr _ _ _).2]
    exact ⟨Nat.le_succ _, Nat.le_succ _⟩
  · rw [stepQ_exec e10 e11 e13 e14]
    exact exec_sizes _ _ _ _ _

theorem trap_len {F : Nat → PF} {s : Mc} {f : Fr} {rest : List Fr} (hs : s.fr = f :: rest) (h0 : s.fin = 0) (h3 : 3 ≤ (stepP F s).fin) : ∃ f', (stepP F s).fr = f' :: rest := by
  rw [stepP_at hs] at h3 ⊢
  by_cases e10 : (F f.fn).op f.pc = 10
  · rw [stepQ_jump e10]
    exact ⟨_, rfl⟩
  by_cases e11 : (F f.fn).op f.pc = 11
  · cases hst : f.stk with
    | nil =>
      unfold stepQ at h3
      dsimp only at h3
      rw [if_neg e10, if_pos e11, hst] at h3
      dsimp only at h3
      omega
    | cons v r =>
      rw [stepQ_branch e11 hst]
      exact ⟨_, rfl⟩
  by_cases e13 : (F f.fn).op f.pc = 13
  · rw [stepQ_call e13] at h3 ⊢
    unfold callP at h3 ⊢
    cases hd : f.stk.drop ((F f.fn).ar f.pc).toNat with
    | nil =>
      rw [hd] at h3
      dsimp only at h3
      omega
    | cons g r =>
      rw [hd] at h3
      dsimp only at h3 ⊢
      by_cases q1 : g.k ≠ 3 ∨ (F g.n.toNat).args ≠ (((F f.fn).ar f.pc).toNat : Int)
      · rw [if_pos q1]
        exact ⟨_, rfl⟩
      · rw [if_neg q1] at h3 ⊢
        by_cases q2 : 24 ≤ rest.length + 1
        · rw [if_pos q2]
          exact ⟨_, rfl⟩
        · rw [if_neg q2] at h3
          dsimp only at h3
          omega
  by_cases e14 : (F f.fn).op f.pc = 14
  · rw [stepQ_return e14] at h3
    unfold returnP at h3
    cases hst : f.stk with
    | nil =>
      rw [hst] at h3
      dsimp only at h3
      omega
    | cons v r =>
      rw [hst] at h3
      cases rest with
      | nil => dsimp only at h3; omega
      | cons g0 r0 => dsimp only at h3; omega
  · rw [stepQ_exec e10 e11 e13 e14]
    exact ⟨_, rfl⟩

/-- What is known of the states of a run. -/
structure Road (m : Nat) (F : Nat → PF) (K : Nat → Nat → Bool) (H : Nat → Nat → Int) (S : Nat → Mc) : Prop where
  first : (S 0).fin = 0
  go : ∀ j, (S j).fin = 0 → Inv m F K H (S j) ∧ Low16 H (S j) ∧ (S j).steps = j ∧ (S j).out.length ≤ j ∧ (S j).arr.length ≤ j ∧ S (j + 1) = stepP F (S j)
  stay : ∀ j k, (S j).fin ≠ 0 → j ≤ k → S k = S j
  fin : ∀ j, (S j).fin = 0 ∨ (S j).fin = 1 ∨ (3 ≤ (S j).fin ∧ (S j).fin ≤ 8)
  fr : ∀ j, (S j).fr = [] ↔ (S j).fin = 1

theorem start_inv {m : Nat} {F : Nat → PF} {K : Nat → Nat → Bool} {H : Nat → Nat → Int} (hF : Fine m F K H) : Inv m F K H (startP F) ∧ Low16 H (startP F) := by
  have h0 := hF.fn 0 hF.size.1
  refine ⟨⟨⟨_, [], rfl, ⟨hF.size.1, ?_, h0.closed.first.1, ?_, ?_, ?_, (fun v hv => by cases hv)⟩, (fun g hg => by cases hg), (by simp)⟩, rfl, (fun l hl => by cases hl), (by simp [startP, cellsP])⟩, ?_⟩
  · have := h0.cn
    show 0 < (F 0).cn
    omega
  · have := h0.locals
    show ((List.replicate (F 0).locals.toNat vnil).length : Int) = (F 0).locals
    rw [List.length_replicate]
    omega
  · show ((([] : List V).length : Nat) : Int) + 0 = H 0 0
    rw [h0.closed.first.2]
    rfl
  · intro v hv
    rw [(List.mem_replicate.1 hv).2]
    exact vnil_ok _ _
  · intro g hg
    obtain rfl : g = { fn := 0, pc := 0, loc := List.replicate (F 0).locals.toNat vnil, stk := [] } := by simpa [startP] using hg
    show H 0 0 ≤ 16
    rw [h0.closed.first.2]
    decide

theorem road {m : Nat} {F : Nat → PF} {K : Nat → Nat → Bool} {H : Nat → Nat → Int} (hF : Fine m F K H) : Road m F K H (nthP F (startP F)) := by
  obtain ⟨hI, h16⟩ := start_inv hF
  have hA := nth_at hF hI rfl rfl rfl
  have hs : ∀ j, (nthP F (startP F) j).fin = 0 → nthP F (startP F) (j + 1) = stepP F (nthP F (startP F) j) := fun j hz => by
    show (if _ then _ else _) = _
    rw [if_pos hz]
  have hx : ∀ j, (nthP F (startP F) j).fin = 0 → Low16 H (nthP F (startP F) j) ∧ (nthP F (startP F) j).out.length ≤ j ∧ (nthP F (startP F) j).arr.length ≤ j := by
    intro j
    induction j with
    | zero => exact fun _ => ⟨h16, Nat.zero_le _, Nat.zero_le _⟩
    | succ j ih =>
      intro hz
      by_cases hy : (nthP F (startP F) j).fin = 0
      · obtain ⟨i1, i2, i3⟩ := ih hy
        have hi := ((hA j).inv hy).1
        rw [hs j hy] at hz ⊢
        obtain ⟨f, rest, hfr, _⟩ := hi.top
        obtain ⟨z1, z2⟩ := step_sizes (F := F) hfr
        exact ⟨step16 hF hi i1 hz, by omega, by omega⟩
      · rw [show nthP F (startP F) (j + 1) = nthP F (startP F) j from nth_stay hy 1] at hz
        exact absurd hz hy
  refine ⟨rfl, fun j hz => ?_, fun j k hz hk => ?_, fun j => (hA j).fin, fun j => (hA j).fr⟩
  · obtain ⟨i1, i2, i3⟩ := hx j hz
    exact ⟨((hA j).inv hz).1, i1, ((hA j).inv hz).2, i2, i3, hs j hz⟩
  · have := nth_stay hz (k - j)
    rw [show j + (k - j) = k by omega] at this
    exact this
end Go.Proofs.YtkafkipjedpohaaGreatDoor

/-
  How great the states of a run are, also of one that has ended. No Go here.
-/
namespace Go.Proofs.YtkafkipjedpohaaGreatDoor

theorem cells_cons (l : List V) (arr : List (List V)) : cellsP (l :: arr) = (l.length : Int) + cellsP arr := by unfold cellsP; rw [List.map_cons, List.sum_cons]
theorem cells_pos : ∀ arr : List (List V), 0 ≤ cellsP arr
  | [] => by unfold cellsP; simp
  | l :: arr => by rw [cells_cons]; have := cells_pos arr; omega
theorem mem_cells {l : List V} : ∀ {arr : List (List V)}, l ∈ arr → (l.length : Int) ≤ cellsP arr
  | [], h => by cases h
  | k :: arr, h => by
    rw [cells_cons]
    have := cells_pos arr
    rcases List.mem_cons.1 h with rfl | h
    · omega
    · have := mem_cells h; omega

/-- If this is a trap, nothing but the stack has turned, which is not higher. -/
def Trapd (f : Fr) (arr : List (List V)) (x : Fr × List (List V) × List V × Int) : Prop := x.2.2.2 ≠ 0 → x.2.1 = arr ∧ x.1.loc = f.loc ∧ x.1.stk.length ≤ f.stk.length
theorem exec_trapd (op a : Int) (f : Fr) (arr : List (List V)) (out : List V) : Trapd f arr (execP op a f arr out) := by
  unfold execP
  by_cases e : op = 0
  · rw [if_pos e]; first | exact fun h => absurd rfl h | exact fun _ => ⟨rfl, rfl, by simp only [List.length_cons]; omega⟩ | exact fun _ => ⟨rfl, rfl, Nat.le_refl _⟩
  rw [if_neg e]
  clear e
  by_cases e : op = 1
  · rw [if_pos e]; first | exact fun h => absurd rfl h | exact fun _ => ⟨rfl, rfl, by simp only [List.length_cons]; omega⟩ | exact fun _ => ⟨rfl, rfl, Nat.le_refl _⟩
  rw [if_neg e]
  clear e
  by_cases e : op = 12
  · rw [if_pos e]; first | exact fun h => absurd rfl h | exact fun _ => ⟨rfl, rfl, by simp only [List.length_cons]; omega⟩ | exact fun _ => ⟨rfl, rfl, Nat.le_refl _⟩
  rw [if_neg e]
  clear e
  by_cases e : op = 2
  · rw [if_pos e]; first | exact fun h => absurd rfl h | exact fun _ => ⟨rfl, rfl, by simp only [List.length_cons]; omega⟩ | exact fun _ => ⟨rfl, rfl, Nat.le_refl _⟩
  rw [if_neg e]
  clear e
  cases f with
  | mk fn pc loc stk =>
  cases stk with
  | nil => first | exact fun h => absurd rfl h | exact fun _ => ⟨rfl, rfl, by simp only [List.length_cons]; omega⟩ | exact fun _ => ⟨rfl, rfl, Nat.le_refl _⟩
  | cons x r =>
  dsimp only
  by_cases e : op = 3
  · rw [if_pos e]; first | exact fun h => absurd rfl h | exact fun _ => ⟨rfl, rfl, by simp only [List.length_cons]; omega⟩ | exact fun _ => ⟨rfl, rfl, Nat.le_refl _⟩
  rw [if_neg e]
  clear e
  by_cases e : op = 19
  · rw [if_pos e]; first | exact fun h => absurd rfl h | exact fun _ => ⟨rfl, rfl, by simp only [List.length_cons]; omega⟩ | exact fun _ => ⟨rfl, rfl, Nat.le_refl _⟩
  rw [if_neg e]
  clear e
  by_cases e : op = 20
  · rw [if_pos e]; first | exact fun h => absurd rfl h | exact fun _ => ⟨rfl, rfl, by simp only [List.length_cons]; omega⟩ | exact fun _ => ⟨rfl, rfl, Nat.le_refl _⟩
  rw [if_neg e]
  clear e
  by_cases e : op = 21
  · rw [if_pos e]; first | exact fun h => absurd rfl h | exact fun _ => ⟨rfl, rfl, by simp only [List.length_cons]; omega⟩ | exact fun _ => ⟨rfl, rfl, Nat.le_refl _⟩
  rw [if_neg e]
  clear e
  by_cases e : op = 15
  · rw [if_pos e]
    by_cases e : x.k ≠ 1
    · rw [if_pos e]; first | exact fun h => absurd rfl h | exact fun _ => ⟨rfl, rfl, by simp only [List.length_cons]; omega⟩ | exact fun _ => ⟨rfl, rfl, Nat.le_refl _⟩
    rw [if_neg e]
    clear e
    by_cases e : x.n < 0
    · rw [if_pos e]; first | exact fun h => absurd rfl h | exact fun _ => ⟨rfl, rfl, by simp only [List.length_cons]; omega⟩ | exact fun _ => ⟨rfl, rfl, Nat.le_refl _⟩
    rw [if_neg e]
    clear e
    by_cases e : 200 - cellsP arr < x.n
    · rw [if_pos e]; first | exact fun h => absurd rfl h | exact fun _ => ⟨rfl, rfl, by simp only [List.length_cons]; omega⟩ | exact fun _ => ⟨rfl, rfl, Nat.le_refl _⟩
    rw [if_neg e]
    first | exact fun h => absurd rfl h | exact fun _ => ⟨rfl, rfl, by simp only [List.length_cons]; omega⟩ | exact fun _ => ⟨rfl, rfl, Nat.le_refl _⟩
  rw [if_neg e]
  clear e
  by_cases e : op = 18
  · rw [if_pos e]
    by_cases e : x.k ≠ 2
    · rw [if_pos e]; first | exact fun h => absurd rfl h | exact fun _ => ⟨rfl, rfl, by simp only [List.length_cons]; omega⟩ | exact fun _ => ⟨rfl, rfl, Nat.le_refl _⟩
    rw [if_neg e]
    first | exact fun h => absurd rfl h | exact fun _ => ⟨rfl, rfl, by simp only [List.length_cons]; omega⟩ | exact fun _ => ⟨rfl, rfl, Nat.le_refl _⟩
  rw [if_neg e]
  clear e
  cases r with
  | nil => first | exact fun h => absurd rfl h | exact fun _ => ⟨rfl, rfl, by simp only [List.length_cons]; omega⟩ | exact fun _ => ⟨rfl, rfl, Nat.le_refl _⟩
  | cons y q =>
  dsimp only
  by_cases e : op = 16
  · rw [if_pos e]
    by_cases e : whereP arr y x = 0
    · rw [if_pos e]; first | exact fun h => absurd rfl h | exact fun _ => ⟨rfl, rfl, by simp only [List.length_cons]; omega⟩ | exact fun _ => ⟨rfl, rfl, Nat.le_refl _⟩
    rw [if_neg e]
    first | exact fun h => absurd rfl h | exact fun _ => ⟨rfl, rfl, by simp only [List.length_cons]; omega⟩ | exact fun _ => ⟨rfl, rfl, Nat.le_refl _⟩
  rw [if_neg e]
  clear e
  by_cases e : op = 17
  · rw [if_pos e]
    cases q with
    | nil => first | exact fun h => absurd rfl h | exact fun _ => ⟨rfl, rfl, by simp only [List.length_cons]; omega⟩ | exact fun _ => ⟨rfl, rfl, Nat.le_refl _⟩
    | cons z p =>
    dsimp only
    by_cases e : whereP arr z y = 0
    · rw [if_pos e]; first | exact fun h => absurd rfl h | exact fun _ => ⟨rfl, rfl, by simp only [List.length_cons]; omega⟩ | exact fun _ => ⟨rfl, rfl, Nat.le_refl _⟩
    rw [if_neg e]
    first | exact fun h => absurd rfl h | exact fun _ => ⟨rfl, rfl, by simp only [List.length_cons]; omega⟩ | exact fun _ => ⟨rfl, rfl, Nat.le_refl _⟩
  rw [if_neg e]
  clear e
  by_cases e : (twoP op y x).2 = 0
  · rw [if_pos e]; first | exact fun h => absurd rfl h | exact fun _ => ⟨rfl, rfl, by simp only [List.length_cons]; omega⟩ | exact fun _ => ⟨rfl, rfl, Nat.le_refl _⟩
  rw [if_neg e]
  first | exact fun h => absurd rfl h | exact fun _ => ⟨rfl, rfl, by simp only [List.length_cons]; omega⟩ | exact fun _ => ⟨rfl, rfl, Nat.le_refl _⟩

/-- How great the parts of a state are. -/
structure Szs (s : Mc) : Prop where
  fr : s.fr.length ≤ 24
  ls : ∀ g, g ∈ s.fr → g.loc.length ≤ 8 ∧ g.stk.length ≤ 16
  al : ∀ l, l ∈ s.arr → l.length ≤ 200

variable {m : Nat} {F : Nat → PF} {K : Nat → Nat → Bool} {H : Nat → Nat → Int}

theorem FrOk.sizes {na : Nat} {d : Int} {f : Fr} (hF : Fine m F K H) (h : FrOk m na F K H d f) (hd : 0 ≤ d) (h16 : H f.fn f.pc ≤ 16) : f.loc.length ≤ 8 ∧ f.stk.length ≤ 16 := by
  have h1 := (hF.fn f.fn h.fn).locals
  have h2 := h.locs
  have h3 := h.height
  omega

theorem Inv.szs {s : Mc} (hF : Fine m F K H) (h : Inv m F K H s) (h16 : Low16 H s) : Szs s := by
  obtain ⟨f, rest, hs, hf, hr, h24⟩ := h.top
  refine ⟨by rw [hs]; exact h24, fun g hg => ?_, fun l hl => ?_⟩
  · have hg16 := h16 g hg
    rw [hs] at hg
    rcases List.mem_cons.1 hg with rfl | hg
    · exact hf.sizes hF (by omega) hg16
    · exact (hr g hg).sizes hF (by omega) hg16
  · have := mem_cells hl
    have := h.cells
    omega

theorem Szs.top {s : Mc} (h : Szs s) {f f' : Fr} {rest : List Fr} (hs : s.fr = f :: rest) (h1 : f'.loc = f.loc) (h2 : f'.stk.length ≤ f.stk.length) : ∀ {s' : Mc}, s'.fr = f' :: rest → s'.arr = s.arr → Szs s' := by
  intro s' e1 e2
  refine ⟨?_, fun g hg => ?_, fun l hl => h.al l (by rw [← e2]; exact hl)⟩
  · have := h.fr
    rw [hs] at this
    rw [e1]
    exact this
  · rw [e1] at hg
    rcases List.mem_cons.1 hg with rfl | hg
    · have := h.ls f (by rw [hs]; exact List.mem_cons_self)
      rw [h1]
      omega
    · exact h.ls g (by rw [hs]; exact List.mem_cons_of_mem _ hg)

theorem step_szs {s : Mc} (hz : s.fin = 0) (h : Szs s) (hne : s.fr ≠ []) (h1 : (stepP F s).fin ≠ 0) : Szs (stepP F s) := by
  obtain ⟨f, rest, hs⟩ : ∃ f rest, s.fr = f :: rest := by
    cases e : s.fr with
    | nil => exact absurd e hne
    | cons f rest => exact ⟨f, rest, rfl⟩
  rw [stepP_at hs] at h1 ⊢
  by_cases e10 : (F f.fn).op f.pc = 10
  · rw [stepQ_jump e10] at h1
    exact absurd hz h1
  by_cases e11 : (F f.fn).op f.pc = 11
  · cases hst : f.stk with
    | nil =>
      unfold stepQ at h1
      dsimp only at h1
      rw [if_neg e10, if_pos e11, hst] at h1
      exact absurd hz h1
    | cons v r =>
      rw [stepQ_branch e11 hst] at h1
      exact absurd hz h1
  by_cases e13 : (F f.fn).op f.pc = 13
  · rw [stepQ_call e13] at h1 ⊢
    unfold callP at h1 ⊢
    have hd : ∀ A, (f.stk.drop A).length ≤ f.stk.length := fun A => by rw [List.length_drop]; omega
    split
    · exact absurd hz (by rename_i e; rw [e] at h1; exact h1)
    · rename_i g r e
      rw [e] at h1
      have hr : r.length ≤ f.stk.length := by have := hd ((F f.fn).ar f.pc).toNat; rw [e] at this; simp at this; omega
      dsimp only at h1
      split
      · exact h.top (f' := { f with stk := r }) hs rfl hr rfl rfl
      · rename_i e1
        rw [if_neg e1] at h1
        split
        · exact h.top (f' := { f with stk := r }) hs rfl hr rfl rfl
        · rename_i e2
          rw [if_neg e2] at h1
          exact absurd hz h1
  by_cases e14 : (F f.fn).op f.pc = 14
  · rw [stepQ_return e14] at h1 ⊢
    unfold returnP at h1 ⊢
    split
    · rename_i e
      rw [e] at h1
      exact absurd hz h1
    · rename_i v r e
      rw [e] at h1
      split
      · exact ⟨by simp, fun g hg => (by cases hg), h.al⟩
      · dsimp only at h1
        exact absurd hz h1
  · rw [stepQ_exec e10 e11 e13 e14] at h1 ⊢
    obtain ⟨t1, t2, t3⟩ := exec_trapd _ _ _ _ _ h1
    refine h.top hs (f' := _) ?_ ?_ rfl t1
    · rw [if_neg h1]; exact t2
    · rw [if_neg h1]; exact t3

theorem road_szs (hF : Fine m F K H) : ∀ j, Szs (nthP F (startP F) j) ∧ (nthP F (startP F) j).arr.length ≤ j ∧ (nthP F (startP F) j).out.length ≤ j := by
  have R := road hF
  intro j
  induction j with
  | zero =>
    obtain ⟨h1, h2, _⟩ := R.go 0 R.first
    exact ⟨h1.szs hF h2, Nat.le_refl _, Nat.le_refl _⟩
  | succ j ih =>
    by_cases hz : (nthP F (startP F) j).fin = 0
    · obtain ⟨h1, h2, h3, h4, h5, h6⟩ := R.go j hz
      obtain ⟨f, rest, hs, _⟩ := h1.top
      have hsz := step_sizes (F := F) hs
      rw [h6]
      refine ⟨?_, by omega, by omega⟩
      by_cases hy : (stepP F (nthP F (startP F) j)).fin = 0
      · obtain ⟨k1, k2, _⟩ := R.go (j + 1) (by rw [h6]; exact hy)
        rw [h6] at k1 k2
        exact k1.szs hF k2
      · exact step_szs hz (h1.szs hF h2) (by rw [hs]; simp) hy
    · rw [R.stay j (j + 1) hz (by omega)]
      exact ⟨ih.1, by omega, by omega⟩

/-- A program in which nothing is wrong. -/
theorem prog_fine {m : Nat} {F : Nat → PF} (h : (progP m F).1 = 0) : ∃ K H, Fine m F K H := by
  unfold progP at h
  by_cases h1 : m < 1 ∨ 8 < m
  · rw [if_pos h1] at h; simp at h
  · rw [if_neg h1] at h
    rcases leastP_spec (faultP m F) m with ⟨h2, h3, h4⟩ | ⟨h2, h3⟩
    · rw [if_pos h2] at h
      have h5 : ∀ k, faultP m F k = true → (funP m k (F k)).1 ≠ 0 := fun k hk => by
        unfold faultP at hk
        simpa using hk
      exact absurd h (h5 _ h3)
    · have hf : ∀ k, k < m → ∃ K H, FunFine m k (F k) K H := fun k hk => fun_fine (by
        have := h3 k hk
        unfold faultP at this
        simpa using this)
      refine ⟨fun k => if hk : k < m then (hf k hk).choose else fun _ => false, fun k => if hk : k < m then (hf k hk).choose_spec.choose else fun _ => 0, ⟨by omega, fun k hk => ?_⟩⟩
      rw [dif_pos hk, dif_pos hk]
      exact (hf k hk).choose_spec.choose_spec
end Go.Proofs.YtkafkipjedpohaaGreatDoor
