import Derived.Test.YtkafkipjedpohaaGreatDoorPureP

/-
  Runs of upshiftkeep's product, whole, as plain mathematics. No Go here.
-/
namespace Go.Proofs.YtkafkipjedpohaaGreatDoor

theorem hN_cons (b : Bool) (hs : List Bool) : hN (b :: hs) = bN b := rfl

/-- Which frames are high on the way down. -/
def prodH (b : Bool) (hs : List Bool) (d : Nat) : List Bool := List.replicate d b ++ hs
theorem prodH_succ (b : Bool) (hs : List Bool) (d : Nat) : b :: prodH b hs d = prodH b hs (d + 1) := by unfold prodH; rw [List.replicate_succ, List.cons_append]

/-- At the beginning of the d-th call. -/
def prodD (k : Int) (d : Nat) (hs : List Bool) (st c : Nat) (md : Nat → Bool) (cu cd : Nat) : Mc := prodM 0 [vnum (k - d)] [] (prodW k d) hs st c md cu cd

theorem prod_downs (k : Nat) (hk : k ≤ 40) (b : Bool) (hs : List Bool) (st c : Nat) (md : Nat → Bool) (cu cd : Nat) (hb : md 1 = b) (d : Nat) : ∀ e : Nat, d + e ≤ k → d + e ≤ 22 →
    Steps (prodF k) (8 * e) (prodD k d (b :: hs) st c md cu cd) (prodD k (d + e) (prodH b (b :: hs) e) (st + 8 * e) (c + 8 * e * bN b) md cu cd)
  | 0, _, _ => by simpa [prodH] using Steps.none _
  | e + 1, h1, h2 => by
    have ih := prod_downs k hk b hs st c md cu cd hb d e (by omega) (by omega)
    have h3 := prod_down k ((k : Int) - (d + e : Nat)) (prodW k (d + e)) (prodH b (b :: hs) e) (st + 8 * e) (c + 8 * e * bN b) md cu cd (by omega) (by omega) (by omega) (by rw [prodW_len]; omega)
    have hh : hN (prodH b (b :: hs) e) = bN b := by
      cases e with
      | zero => rfl
      | succ e => rw [← prodH_succ, hN_cons]
    rw [hh, hb, prodH_succ] at h3
    have h4 := ih.trans h3
    have e1 : (k : Int) - (d + e : Nat) - 1 = (k : Int) - (d + (e + 1) : Nat) := by omega
    have e2 : c + 8 * e * bN b + 8 * bN b = c + 8 * (e + 1) * bN b := by rw [Nat.mul_add 8 e 1, Nat.add_mul]; omega
    rw [e1, e2] at h4
    exact h4

/-- The product, cut to 64 bits. -/
def facW : Nat → Int
  | 0 => 1
  | n + 1 => w64 (((n + 1 : Nat) : Int) * facW n)

/-- On the way up: x goes to the frame that waits. -/
def prodU (k : Int) : Nat → Int → List Bool → Nat → Nat → (Nat → Bool) → Nat → Nat → Mc
  | 0, x, hs, st, c, md, cu, cd => ⟨[⟨0, 3, [], [vnum x]⟩], [], [], vnil, st, 0, hs, md, c, cu, cd⟩
  | d + 1, x, hs, st, c, md, cu, cd => prodM 8 [vnum (k - d)] [vnum x, vnum (k - d)] (prodW k d) hs st c md cu cd
theorem prodU_of (k : Int) (d : Nat) (x : Int) (hs : List Bool) (st c : Nat) (md : Nat → Bool) (cu cd : Nat) : ∃ g rest, prodW k d = g :: rest ∧ (⟨{ g with stk := vnum x :: g.stk } :: rest, [], [], vnil, st, 0, hs, md, c, cu, cd⟩ : Mc) = prodU k d x hs st c md cu cd := by
  cases d with
  | zero => exact ⟨_, _, rfl, rfl⟩
  | succ d => exact ⟨_, _, rfl, rfl⟩
/-- From the last call up to the end, in the low gear. -/
theorem prod_ups (k : Nat) (md : Nat → Bool) (cu cd c : Nat) : ∀ (d st : Nat), d ≤ k →
    Steps (prodF k) (2 * d + 1) (prodU k d (facW (k - d)) (List.replicate (d + 1) false) st c md cu cd) ⟨[], [], [], vnum (facW k), st + 2 * d + 1, 1, [], md, c, cu, cd⟩
  | 0, st, _ => by
    refine Steps.more rfl ?_
    have h := prod_r (k : Int) (facW (k - 0)) st c md cu cd
    rw [Nat.sub_zero] at h ⊢
    show Steps _ 0 (stepP _ ⟨[⟨0, 3, [], [vnum (facW k)]⟩], [], [], vnil, st, 0, [false], md, c, cu, cd⟩) _
    rw [h]
    exact Steps.none _
  | d + 1, st, hd => by
    have ih := prod_ups k md cu cd c d (st + 1 + 1) (by omega)
    obtain ⟨g, rest, hg, hu⟩ := prodU_of k d (w64 (((k : Int) - d) * facW (k - (d + 1)))) (List.replicate (d + 1) false) (st + 1 + 1) c md cu cd
    have ef : facW (k - d) = w64 (((k : Int) - d) * facW (k - (d + 1))) := by
      rw [show k - d = (k - (d + 1)) + 1 by omega]
      show w64 ((((k - (d + 1)) + 1 : Nat) : Int) * facW (k - (d + 1))) = _
      rw [show (((k - (d + 1)) + 1 : Nat) : Int) = (k : Int) - d by omega]
    rw [ef] at ih
    have h8 := prod_8 (k : Int) ((k : Int) - d) (facW (k - (d + 1))) (prodW k d) (List.replicate (d + 1 + 1) false) st c md cu cd
    have h9 := prod_9 (k : Int) ((k : Int) - d) (w64 (((k : Int) - d) * facW (k - (d + 1)))) g rest (List.replicate (d + 1 + 1) false) (st + 1) c md cu cd
    have z : c + hN (List.replicate (d + 1 + 1) false) = c := rfl
    have z2 : (List.replicate (d + 1 + 1) false).drop 1 = List.replicate (d + 1) false := by simp
    rw [z] at h8 h9
    rw [z2, hu] at h9
    rw [← hg] at h9
    have hl : 2 * (d + 1) + 1 = 2 * d + 1 + 1 + 1 := by omega
    rw [hl]
    refine Steps.more rfl ?_
    show Steps _ _ (stepP _ (prodM 8 [vnum ((k : Int) - d)] [vnum (facW (k - (d + 1))), vnum ((k : Int) - d)] (prodW k d) (List.replicate (d + 1 + 1) false) st c md cu cd)) _
    rw [h8]
    refine Steps.more rfl ?_
    rw [h9]
    have e3 : st + 1 + 1 + 2 * d + 1 = st + 2 * (d + 1) + 1 := by omega
    rw [e3] at ih
    exact ih
/-- From the last call on, in the low gear. -/
theorem prod_last (k : Nat) (st c : Nat) (md : Nat → Bool) (cu cd : Nat) :
    Steps (prodF k) (2 * k + 5) (prodD k k (List.replicate (k + 2) false) st c md cu cd) ⟨[], [], [], vnum (facW k), st + 2 * k + 5, 1, [], md, c, cu, cd⟩ := by
  obtain ⟨g, rest, hg, hu⟩ := prodU_of k k 1 (List.replicate (k + 1) false) (st + 1 + 1 + 1 + 1) c md cu cd
  have z : c + hN (List.replicate (k + 2) false) = c := rfl
  have z2 : (List.replicate (k + 2) false).drop 1 = List.replicate (k + 1) false := by simp
  have ih := prod_ups k md cu cd c k (st + 1 + 1 + 1 + 1) (Nat.le_refl _)
  rw [Nat.sub_self, show facW 0 = 1 from rfl] at ih
  have h0 := prod_0 (k : Int) 0 (prodW k k) (List.replicate (k + 2) false) st c md cu cd
  have h1 := prod_1z (k : Int) (prodW k k) (List.replicate (k + 2) false) (st + 1) c md cu cd
  have h2 := prod_10 (k : Int) 0 (prodW k k) (List.replicate (k + 2) false) (st + 1 + 1) c md cu cd
  have h3 := prod_11 (k : Int) 0 1 g rest (List.replicate (k + 2) false) (st + 1 + 1 + 1) c md cu cd
  rw [z] at h0 h1 h2 h3
  rw [z2, hu, ← hg] at h3
  unfold prodD
  rw [show (k : Int) - (k : Nat) = 0 by omega, show 2 * k + 5 = 2 * k + 1 + 1 + 1 + 1 + 1 by omega]
  refine Steps.more rfl ?_
  rw [h0]
  refine Steps.more rfl ?_
  rw [h1]
  refine Steps.more rfl ?_
  rw [h2]
  refine Steps.more rfl ?_
  rw [h3]
  rw [show st + 1 + 1 + 1 + 1 + 2 * k + 1 = st + 2 * k + 5 by omega] at ih
  exact ih
/-- How it begins. -/
theorem prod_begin (k : Int) (md : Nat → Bool) : Steps (prodF k) 3 ⟨[⟨0, 0, [], []⟩], [], [], vnil, 0, 0, [false], md, 0, 0, 0⟩ (prodD k 0 [md 1, false] 3 0 md 0 0) := by
  refine Steps.more rfl ?_
  rw [prod_b0]
  refine Steps.more rfl ?_
  rw [prod_b1]
  refine Steps.more rfl ?_
  rw [prod_b2]
  have e : k - ((0 : Nat) : Int) = k := by omega
  unfold prodD
  rw [e]
  exact Steps.none _
end Go.Proofs.YtkafkipjedpohaaGreatDoor

/-
  Runs of upshiftkeep's product with the events that Deep hands in, as plain mathematics. No Go here.
-/
namespace Go.Proofs.YtkafkipjedpohaaGreatDoor

theorem prodH_rep (b : Bool) (m d : Nat) : prodH b (List.replicate m b) d = List.replicate (d + m) b := by unfold prodH; rw [List.replicate_append_replicate]
/-- How it ends. -/
def prodE (x : V) (st c : Nat) (md : Nat → Bool) (cu cd : Nat) : Mc := ⟨[], [], [], x, st, 1, [], md, c, cu, cd⟩
/-- From the d-th call on, in the low gear. -/
theorem prod_rest (k : Nat) (hk : k ≤ 22) (d : Nat) (hd : d ≤ k) (st c : Nat) (md : Nat → Bool) (cu cd : Nat) (hm : md 1 = false) :
    Steps (prodF k) (8 * (k - d) + (2 * k + 5)) (prodD k d (List.replicate (d + 2) false) st c md cu cd) (prodE (vnum (facW k)) (st + 8 * (k - d) + 2 * k + 5) c md cu cd) := by
  have h1 := prod_downs k (by omega) false (List.replicate (d + 1) false) st c md cu cd hm d (k - d) (by omega) (by omega)
  rw [show false :: List.replicate (d + 1) false = List.replicate (d + 2) false from rfl, prodH_rep, show d + (k - d) = k by omega, show k - d + (d + 2) = k + 2 by omega, show c + 8 * (k - d) * bN false = c by simp [bN]] at h1
  exact h1.trans (prod_last k (st + 8 * (k - d)) c md cu cd)

variable {m : Nat} {K : Nat → Nat → Bool} {H : Nat → Nat → Int}

theorem prod_plain (k : Nat) (hk : k ≤ 22) (hF : Fine m (prodF k) K H) : ∀ n, 10 * k + 8 ≤ n → (evS (prodF k) (startP (prodF k)) [] n).1 = prodE (vnum (facW k)) (10 * k + 8) 0 (fun _ => false) 0 0 := fun n hn => by
  have hA := run_at hF (E := []) trivial (fun e he => by cases he)
  have hs := (prod_begin k (fun _ => false)).trans (prod_rest k hk 0 (by omega) 3 0 (fun _ => false) 0 0 rfl)
  rw [Nat.sub_zero, show 3 + (8 * k + (2 * k + 5)) = 10 * k + 8 by omega, show 3 + 8 * k + 2 * k + 5 = 10 * k + 8 by omega] at hs
  have h := evs_steps hF hA (10 * k + 8) 0 _ _ [] (show evS (prodF k) (startP (prodF k)) [] 0 = (⟨[⟨0, 0, [], []⟩], [], [], vnil, 0, 0, [false], fun _ => false, 0, 0, 0⟩, []) from rfl) rfl hs (by omega) (fun h => absurd rfl h)
  rw [Nat.zero_add] at h
  have h1 : evS (prodF k) (startP (prodF k)) [] (10 * k + 8) = (prodE (vnum (facW k)) (10 * k + 8) 0 (fun _ => false) 0 0, []) := h
  rw [evs_stay (n := 10 * k + 8) (by rw [h1]; show (1 : Int) ≠ 0; omega) n hn, h1]

/-- Where it is trapped. -/
def prodT (k : Int) : Mc := { prodM 7 [vnum (k - 22)] [vnum (k - 22)] (prodW k 22) (List.replicate 24 false) 187 0 (fun _ => false) 0 0 with fin := 7 }
theorem prod_trap (k : Nat) (hk : 23 ≤ k) (hk2 : k ≤ 40) (hF : Fine m (prodF k) K H) : ∀ n, 187 ≤ n → (evS (prodF k) (startP (prodF k)) [] n).1 = prodT k := fun n hn => by
  have hA := run_at hF (E := []) trivial (fun e he => by cases he)
  have h1 := prod_downs k (by omega) false [false] 3 0 (fun _ => false) 0 0 rfl 0 22 (by omega) (by omega)
  rw [show [false, false] = List.replicate 2 false from rfl, prodH_rep, show 0 + 8 * 22 * bN false = 0 from rfl] at h1
  have h2 := prod_deep k ((k : Int) - (0 + 22 : Nat)) (prodW k (0 + 22)) (List.replicate (22 + 2) false) (3 + 8 * 22) 0 (fun _ => false) 0 0 (by omega) (by rw [prodW_len])
  have hs := ((prod_begin k (fun _ => false)).trans h1).trans h2
  have h := evs_steps hF hA (3 + 8 * 22 + 8) 0 _ _ [] (show evS (prodF k) (startP (prodF k)) [] 0 = (⟨[⟨0, 0, [], []⟩], [], [], vnil, 0, 0, [false], fun _ => false, 0, 0, 0⟩, []) from rfl) rfl hs (by omega) (fun h => absurd rfl h)
  have h3 : evS (prodF k) (startP (prodF k)) [] 187 = (prodT k, []) := h
  rw [evs_stay (n := 187) (by rw [h3]; show (7 : Int) ≠ 0; omega) n hn, h3]

theorem downs_prodW (k : Int) : ∀ d, downs false 1 (prodW k d) (List.replicate d true ++ [false]) = (List.replicate (d + 1) false, d)
  | 0 => rfl
  | d + 1 => by
    have ih := downs_prodW k d
    show (let r := downs false 1 (prodW k d) (List.replicate d true ++ [false]); if true = true ∧ (false = true ∨ ((1 : Nat) : Int) = 1) then (false :: r.1, r.2 + 1) else (true :: r.1, r.2)) = _
    rw [ih]
    rfl

/-- Compiled at first, dropped at the j-th call. -/
theorem prod_drop (k : Nat) (hk : k ≤ 22) (hF : Fine m (prodF k) K H) (hm : 1 < m) (j : Nat) (hj : j ≤ k) : ∀ n, 10 * k + 8 ≤ n → (evS (prodF k) (startP (prodF k)) [⟨0, 1, 1⟩, ⟨3 + 8 * (j : Int), 2, 1⟩] n).1 = prodE (vnum (facW k)) (10 * k + 8) (8 * j) (upd (upd (fun _ => false) 1 true) 1 false) 0 (j + 1) := fun n hn => by
  have hA := run_at hF (E := [⟨0, 1, 1⟩, ⟨3 + 8 * (j : Int), 2, 1⟩]) ⟨Int.le_refl _, by show (0 : Int) ≤ 3 + 8 * (j : Int); omega, trivial⟩ (fun e he => by
    rcases List.mem_cons.1 he with rfl | he
    · exact ⟨Int.le_refl _, Or.inl rfl, fun _ => ⟨by show (0 : Int) ≤ 1; omega, by show (1 : Int) < m; omega⟩⟩
    rcases List.mem_cons.1 he with rfl | he
    · exact ⟨by show 0 ≤ 3 + 8 * (j : Int); omega, Or.inr (Or.inl rfl), fun _ => ⟨by show (0 : Int) ≤ 1; omega, by show (1 : Int) < m; omega⟩⟩
    · cases he)
  generalize hE0 : ([⟨0, 1, 1⟩, ⟨3 + 8 * (j : Int), 2, 1⟩] : List Ev) = E0 at *
  have g0 : evS (prodF k) (startP (prodF k)) E0 0 = (⟨[⟨0, 0, [], []⟩], [], [], vnil, 0, 0, [false], upd (fun _ => false) 1 true, 0, 0, 0⟩, [⟨3 + 8 * (j : Int), 2, 1⟩]) := by
    rw [← hE0]
    show metP _ _ _ = _
    unfold metP
    rw [if_pos (by show (0 : Int) ≤ 0; omega)]
    unfold metP
    rw [if_neg (by show ¬ 3 + 8 * (j : Int) ≤ 0; omega)]
    rfl
  have h1 := prod_downs k (by omega) true [false] 3 0 (upd (fun _ => false) 1 true) 0 0 rfl 0 j (by omega) (by omega)
  have s1 := (prod_begin k (upd (fun _ => false) 1 true)).trans h1
  have g1 := evs_steps hF hA (3 + 8 * j) 0 _ _ _ g0 rfl s1 (by omega) (fun _ => by show ((0 : Nat) : Int) + ((3 + 8 * j : Nat) : Int) ≤ 3 + 8 * (j : Int); omega)
  have hh : prodH true [true, false] j = true :: (List.replicate j true ++ [false]) := by
    unfold prodH
    rw [show ([true, false] : List Bool) = [true] ++ [false] from rfl, ← List.append_assoc, ← List.replicate_succ', List.replicate_succ, List.cons_append]
  have m1 : metP (prodF k) [⟨3 + 8 * (j : Int), 2, 1⟩] (prodD k (0 + j) (prodH true [true, false] j) (3 + 8 * j) (0 + 8 * j * bN true) (upd (fun _ => false) 1 true) 0 0) = (prodD k j (List.replicate (j + 2) false) (3 + 8 * j) (8 * j) (upd (upd (fun _ => false) 1 true) 1 false) 0 (j + 1), []) := by
    unfold metP
    rw [if_pos (by show 3 + 8 * (j : Int) ≤ ((3 + 8 * j : Nat) : Int); omega), hh, Nat.zero_add, Nat.zero_add, show 8 * j * bN true = 8 * j from Nat.mul_one _]
    show (comesP _ 2 1 _, []) = _
    have hd : downs false 1 (⟨1, 0, [vnum ((k : Int) - j)], []⟩ :: prodW k j) (true :: (List.replicate j true ++ [false])) = (List.replicate (j + 2) false, j + 1) := by
      show (let r := downs false 1 (prodW k j) (List.replicate j true ++ [false]); if true = true ∧ (false = true ∨ ((1 : Nat) : Int) = 1) then (false :: r.1, r.2 + 1) else (true :: r.1, r.2)) = _
      rw [downs_prodW]
      rfl
    have hc : comesP (prodF k) 2 1 (prodD k j (true :: (List.replicate j true ++ [false])) (3 + 8 * j) (8 * j) (upd (fun _ => false) 1 true) 0 0) = prodD k j (List.replicate (j + 2) false) (3 + 8 * j) (8 * j) (upd (upd (fun _ => false) 1 true) 1 false) 0 (j + 1) := by
      unfold comesP
      rw [if_neg (by decide), if_neg (by decide)]
      show ({ prodD k j (true :: (List.replicate j true ++ [false])) (3 + 8 * j) (8 * j) (upd (fun _ => false) 1 true) 0 0 with high := (downs false 1 (⟨1, 0, [vnum ((k : Int) - j)], []⟩ :: prodW k j) (true :: (List.replicate j true ++ [false]))).1, cD := 0 + (downs false 1 (⟨1, 0, [vnum ((k : Int) - j)], []⟩ :: prodW k j) (true :: (List.replicate j true ++ [false]))).2, made := upd (upd (fun _ => false) 1 true) 1 false } : Mc) = _
      rw [hd, Nat.zero_add]
      rfl
    rw [hc]
  rw [if_pos (show (prodD k (0 + j) (prodH true [true, false] j) (3 + 8 * j) (0 + 8 * j * bN true) (upd (fun _ => false) 1 true) 0 0).fin = 0 from rfl), m1] at g1
  have s2 := prod_rest k hk j hj (3 + 8 * j) (8 * j) (upd (upd (fun _ => false) 1 true) 1 false) 0 (j + 1) rfl
  have g2 := evs_steps hF hA (8 * (k - j) + (2 * k + 5)) (0 + (3 + 8 * j)) _ _ _ g1 rfl s2 (by omega) (fun h => absurd rfl h)
  have e7 : 0 + (3 + 8 * j) + (8 * (k - j) + (2 * k + 5)) = 10 * k + 8 := by omega
  have e8 : 3 + 8 * j + 8 * (k - j) + 2 * k + 5 = 10 * k + 8 := by omega
  rw [e7, e8] at g2
  have h3 : evS (prodF k) (startP (prodF k)) E0 (10 * k + 8) = (prodE (vnum (facW k)) (10 * k + 8) (8 * j) (upd (upd (fun _ => false) 1 true) 1 false) 0 (j + 1), []) := g2
  rw [evs_stay (n := 10 * k + 8) (by rw [h3]; show (1 : Int) ≠ 0; omega) n hn, h3]
end Go.Proofs.YtkafkipjedpohaaGreatDoor

/-
  Package upshiftkeep: product.
-/
namespace Go.Proofs.YtkafkipjedpohaaGreatDoor
open Go.RowKit

/-- The world in which product lies. -/
def prodO (k : Int) (w : World) : List Obj := [.cells #[.int .i64 0, .int .i64 k] 33, .cells #[.int .i64 14, .int .i64 0] 33, .cells #[.int .i64 12, .int .i64 1, .int .i64 0, .int .i64 k, .int .i64 13, .int .i64 1, .int .i64 14, .int .i64 0] 33, .cells #[.int .i64 2, .int .i64 0] 33, .cells #[.int .i64 2, .int .i64 0] 33, .cells #[.int .i64 2, .int .i64 0] 33, .cells #[.int .i64 0, .int .i64 1] 33, .cells #[.int .i64 5, .int .i64 0] 33, .cells #[.int .i64 6, .int .i64 0] 33, .cells #[.int .i64 14, .int .i64 0] 33, .cells #[.int .i64 0, .int .i64 1] 33, .cells #[.int .i64 14, .int .i64 0] 33, .cells #[.int .i64 2, .int .i64 0, .int .i64 11, .int .i64 10, .int .i64 2, .int .i64 0, .int .i64 12, .int .i64 1, .int .i64 2, .int .i64 0, .int .i64 0, .int .i64 1, .int .i64 5, .int .i64 0, .int .i64 13, .int .i64 1, .int .i64 6, .int .i64 0, .int .i64 14, .int .i64 0, .int .i64 0, .int .i64 1, .int .i64 14, .int .i64 0] 33, .cells #[.int .i64 0, .int .i64 0, .slice (some ⟨w.heap.size + 1 + 1, 0, none⟩) 4 4, .int .i64 1, .int .i64 1, .slice (some ⟨w.heap.size + 1 + 1 + 1 + 1 + 1 + 1 + 1 + 1 + 1 + 1 + 1 + 1, 0, none⟩) 12 12] 31]
def prodWd (k : Int) (w : World) : World := allocs w (prodO k w)
theorem prod_laid (k : Int) (w : World) : Below w.heap.size w (prodWd k w) ∧ ∃ CA CC, ProgAt (prodWd k w) (w.heap.size + 13) 0 2 (prodF k) CA CC := by
  have h0 := allocs_at (prodO k w) w 2 _ rfl
  have h1 := allocs_at (prodO k w) w 12 _ rfl
  have hp := allocs_at (prodO k w) w 13 _ rfl
  have hz := allocs_size (prodO k w) w
  rw [show (prodO k w).length = 14 from rfl] at hz
  refine ⟨allocs_below _ w, fun k => if k = 0 then some ⟨w.heap.size + 1 + 1, 0, none⟩ else some ⟨w.heap.size + 1 + 1 + 1 + 1 + 1 + 1 + 1 + 1 + 1 + 1 + 1 + 1, 0, none⟩, fun k => if k = 0 then 4 else 12, by show _ < (allocs w _).heap.size; omega, fun j hj => ?_⟩
  have hc : j = 0 ∨ j = 1 := by omega
  rcases hc with rfl | rfl
  · refine ⟨(cell_heap hp).trans rfl, (cell_heap hp).trans rfl, (cell_heap hp).trans rfl, fun _ => ⟨_, _, rfl, by show _ < (allocs w _).heap.size; omega, fun i hi => ?_⟩⟩
    have hi4 : i = 0 ∨ i = 1 ∨ i = 2 ∨ i = 3 := by have : i < 4 := hi; omega
    rcases hi4 with rfl | rfl | rfl | rfl <;> exact ⟨(cell_heap h0).trans rfl, (cell_heap h0).trans rfl⟩
  · refine ⟨(cell_heap hp).trans rfl, (cell_heap hp).trans rfl, (cell_heap hp).trans rfl, fun _ => ⟨_, _, rfl, by show _ < (allocs w _).heap.size; omega, fun i hi => ?_⟩⟩
    have hi12 : i = 0 ∨ i = 1 ∨ i = 2 ∨ i = 3 ∨ i = 4 ∨ i = 5 ∨ i = 6 ∨ i = 7 ∨ i = 8 ∨ i = 9 ∨ i = 10 ∨ i = 11 := by have : i < 12 := hi; omega
    rcases hi12 with rfl | rfl | rfl | rfl | rfl | rfl | rfl | rfl | rfl | rfl | rfl | rfl <;> exact ⟨(cell_heap h1).trans rfl, (cell_heap h1).trans rfl⟩

set_option maxRecDepth 100000 in
set_option maxHeartbeats 1000000 in
theorem keepProd (k : Int) (w : World) : Calls Tryz.prog 29 #[.int .i64 k] w fun e w' => ∃ pb, e = .returned (.slice (some ⟨pb, 0, none⟩) 2 2) ∧ Below w.heap.size w w' ∧ ∃ CA CC, ProgAt w' pb 0 2 (prodF k) CA CC := by
  have HQ := hid (prod_laid k w)
  go_enter Tryz.func29, Tryz.ntmps29
  go_wp2_with (first
    | (go_at_call 15; refine (keepLoad_any _ _).mono ?_; rintro e w' ⟨rfl, hw'⟩; rw [hw']; clear hw' w')
    | (go_at_call 33; refine (keepConst_any _ _).mono ?_; rintro e w' ⟨rfl, hw'⟩; rw [hw']; clear hw' w')
    | (go_at_call 16; refine (keepOp_any _ _).mono ?_; rintro e w' ⟨rfl, hw'⟩; rw [hw']; clear hw' w'))
  go_ret
  exact ⟨w.heap.size + 13, rfl, HQ.out.1, HQ.out.2⟩
end Go.Proofs.YtkafkipjedpohaaGreatDoor
