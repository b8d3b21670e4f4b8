import Derived.Test.YtkafkipjedpohaaGreatDoorK12
import Derived.Test.YtkafkipjedpohaaGreatDoorM24
import Derived.Test.YtkafkipjedpohaaGreatDoorM5
import Derived.Test.YtkafkipjedpohaaGreatDoorU2
import Derived.Test.YtkafkipjedpohaaGreatDoorM27

/-
  Runs of upshiftkeep's sum with the events that Summed hands in, as plain mathematics. No Go here.
-/
namespace Go.Proofs.YtkafkipjedpohaaGreatDoor

theorem sumA_is (k : Int) : ∀ j : Nat, 2 * sumA k j = (j : Int) * (2 * k - j + 1)
  | 0 => by simp [sumA]
  | j + 1 => by
    have := sumA_is k j
    unfold sumA
    have e : ((j + 1 : Nat) : Int) * (2 * k - (j + 1 : Nat) + 1) = (j : Int) * (2 * k - j + 1) + 2 * (k - j) := by
      have : ((j + 1 : Nat) : Int) = (j : Int) + 1 := by omega
      rw [this]
      simp only [Int.add_mul, Int.mul_sub, Int.mul_add, Int.one_mul, Int.mul_one]
      have h2 : (j : Int) * (2 * k) = 2 * (k * j) := by rw [Int.mul_comm (j : Int), Int.mul_assoc]
      omega
    rw [e]
    omega
theorem sumA_all (k : Nat) : 2 * sumA k k = (k : Int) * ((k : Int) + 1) := by
  rw [sumA_is]
  congr 1
  omega

/-- From the head on. -/
theorem sum_rest (k : Nat) (hk : k ≤ 500) (hb : Bool) (st c : Nat) (md : Nat → Bool) (cu cd : Nat) (j : Nat) (hj : j ≤ k) :
    Steps (sumF k) (11 * (k - j) + 7) (sumL ((k : Int) - j) (sumA k j) hb st c md cu cd) (sumE (vnum (sumA k k)) (st + 11 * (k - j) + 7) (c + 11 * (k - j) * bN hb + 4 * bN hb) md cu cd) := by
  have h1 := sum_rounds k hk hb st c md cu cd (k - j) j (by omega)
  rw [show j + (k - j) = k by omega, show (k : Int) - (k : Nat) = 0 by omega] at h1
  exact h1.trans (sum_end k (sumA k k) hb _ _ md cu cd)
/-- The whole. -/
theorem sum_whole (k : Nat) (hk : k ≤ 500) (md : Nat → Bool) :
    Steps (sumF k) (11 * k + 12) ⟨[⟨0, 0, [vnil], []⟩], [], [], vnil, 0, 0, [false], md, 0, 0, 0⟩ (sumE (vnum (sumA k k)) (11 * k + 12) ((11 * k + 6) * bN (md 1)) md 0 0) := by
  have h1 := sum_begin k md 0 0 0
  have h2 := sum_rest k hk (md 1) 5 (0 + bN (md 1) + bN (md 1)) md 0 0 0 (Nat.zero_le _)
  rw [show (k : Int) - (0 : Nat) = k by omega, show sumA (k : Int) 0 = 0 from rfl, Nat.sub_zero] at h2
  have h3 := h1.trans h2
  rw [show 5 + (11 * k + 7) = 11 * k + 12 by omega, show 5 + 11 * k + 7 = 11 * k + 12 by omega] at h3
  have e : 0 + bN (md 1) + bN (md 1) + 11 * k * bN (md 1) + 4 * bN (md 1) = (11 * k + 6) * bN (md 1) := by rw [Nat.add_mul]; omega
  rw [e] at h3
  exact h3

variable {m : Nat} {K : Nat → Nat → Bool} {H : Nat → Nat → Int}

/-- With no event: it halts. -/
theorem sum_plain (k : Nat) (hk : k ≤ 499) (hF : Fine m (sumF k) K H) : ∀ n, 11 * k + 12 ≤ n → (evS (sumF k) (startP (sumF k)) [] n).1 = sumE (vnum (sumA k k)) (11 * k + 12) 0 (fun _ => false) 0 0 := fun n hn => by
  have hA := run_at hF (E := []) trivial (fun e he => by cases he)
  have h := evs_steps hF hA (11 * k + 12) 0 _ _ [] (show evS (sumF k) (startP (sumF k)) [] 0 = (⟨[⟨0, 0, [vnil], []⟩], [], [], vnil, 0, 0, [false], fun _ => false, 0, 0, 0⟩, []) from rfl) rfl (sum_whole k (by omega) (fun _ => false)) (by omega) (fun h => absurd rfl h)
  rw [Nat.zero_add] at h
  have h1 : evS (sumF k) (startP (sumF k)) [] (11 * k + 12) = (sumE (vnum (sumA k k)) (11 * k + 12) 0 (fun _ => false) 0 0, []) := h
  rw [evs_stay (n := 11 * k + 12) (by rw [h1]; show (1 : Int) ≠ 0; omega) n hn, h1]

/-- Compiled at first. -/
theorem sum_made (k : Nat) (hk : k ≤ 499) (hF : Fine m (sumF k) K H) (hm : 1 < m) : ∀ n, 11 * k + 12 ≤ n → (evS (sumF k) (startP (sumF k)) [⟨0, 1, 1⟩] n).1 = sumE (vnum (sumA k k)) (11 * k + 12) (11 * k + 6) (upd (fun _ => false) 1 true) 0 0 := fun n hn => by
  have hA := run_at hF (E := [⟨0, 1, 1⟩]) ⟨Int.le_refl _, trivial⟩ (fun e he => by
    rcases List.mem_cons.1 he with rfl | he
    · exact ⟨Int.le_refl _, Or.inl rfl, fun _ => ⟨by show (0 : Int) ≤ 1; omega, by show (1 : Int) < m; omega⟩⟩
    · cases he)
  have h := evs_steps hF hA (11 * k + 12) 0 _ _ [] (show evS (sumF k) (startP (sumF k)) [⟨0, 1, 1⟩] 0 = (⟨[⟨0, 0, [vnil], []⟩], [], [], vnil, 0, 0, [false], upd (fun _ => false) 1 true, 0, 0, 0⟩, []) from rfl) rfl (sum_whole k (by omega) (upd (fun _ => false) 1 true)) (by omega) (fun h => absurd rfl h)
  rw [Nat.zero_add] at h
  have h1 : evS (sumF k) (startP (sumF k)) [⟨0, 1, 1⟩] (11 * k + 12) = (sumE (vnum (sumA k k)) (11 * k + 12) ((11 * k + 6) * 1) (upd (fun _ => false) 1 true) 0 0, []) := h
  rw [Nat.mul_one] at h1
  rw [evs_stay (n := 11 * k + 12) (by rw [h1]; show (1 : Int) ≠ 0; omega) n hn, h1]

/-- Behind one step from the head. -/
def sumN (i a : Int) (hb : Bool) (st c : Nat) (md : Nat → Bool) (cu cd : Nat) : Mc := ⟨[⟨1, 3, [vnum i, vnum a], [vnum i]⟩, ⟨0, 3, [vnil], []⟩], [], [], vnil, st, 0, [hb, false], md, c, cu, cd⟩
theorem sum_mid (k : Nat) (hk : k ≤ 500) (st c : Nat) (md : Nat → Bool) (cu cd : Nat) (j : Nat) (hj : j ≤ k) :
    Steps (sumF k) (11 * (k - j) + 6) (sumN ((k : Int) - j) (sumA k j) false (st + 1) c md cu cd) (sumE (vnum (sumA k k)) (st + 11 * (k - j) + 7) c md cu cd) := by
  have h := sum_rest k hk false st c md cu cd j hj
  have e : c + 11 * (k - j) * bN false + 4 * bN false = c := by simp [bN]
  rw [e] at h
  cases h with
  | more h0 h1 =>
    rw [sum_first] at h1
    exact h1

/-- Up for one step. -/
theorem sum_up (k : Nat) (hk : k ≤ 499) (hF : Fine m (sumF k) K H) (hm : 1 < m) (j : Nat) (hj : j ≤ k) : ∀ n, 11 * k + 12 ≤ n → (evS (sumF k) (startP (sumF k)) [⟨4, 1, 1⟩, ⟨5 + 11 * (j : Int), 3, 0⟩, ⟨5 + 11 * (j : Int) + 1, 4, 0⟩] n).1 = sumE (vnum (sumA k k)) (11 * k + 12) 1 (upd (fun _ => false) 1 true) 1 1 := fun n hn => by
  have hA := run_at hF (E := [⟨4, 1, 1⟩, ⟨5 + 11 * (j : Int), 3, 0⟩, ⟨5 + 11 * (j : Int) + 1, 4, 0⟩]) ⟨by show (0 : Int) ≤ 4; omega, by show (4 : Int) ≤ 5 + 11 * (j : Int); omega, by show 5 + 11 * (j : Int) ≤ 5 + 11 * (j : Int) + 1; omega, trivial⟩ (fun e he => by
    rcases List.mem_cons.1 he with rfl | he
    · exact ⟨by show (0 : Int) ≤ 4; omega, Or.inl rfl, fun _ => ⟨by show (0 : Int) ≤ 1; omega, by show (1 : Int) < m; omega⟩⟩
    rcases List.mem_cons.1 he with rfl | he
    · exact ⟨by show 0 ≤ 5 + 11 * (j : Int); omega, Or.inr (Or.inr (Or.inl rfl)), fun h => absurd h (by show ¬ (3 : Int) ≤ 2; omega)⟩
    rcases List.mem_cons.1 he with rfl | he
    · exact ⟨by show 0 ≤ 5 + 11 * (j : Int) + 1; omega, Or.inr (Or.inr (Or.inr rfl)), fun h => absurd h (by show ¬ (4 : Int) ≤ 2; omega)⟩
    · cases he)
  generalize hE0 : ([⟨4, 1, 1⟩, ⟨5 + 11 * (j : Int), 3, 0⟩, ⟨5 + 11 * (j : Int) + 1, 4, 0⟩] : List Ev) = E0 at *
  -- ahead of step 4
  have g0 : evS (sumF k) (startP (sumF k)) E0 0 = (⟨[⟨0, 0, [vnil], []⟩], [], [], vnil, 0, 0, [false], fun _ => false, 0, 0, 0⟩, E0) := by rw [← hE0]; rfl
  have s4 : Steps (sumF k) 4 ⟨[⟨0, 0, [vnil], []⟩], [], [], vnil, 0, 0, [false], fun _ => false, 0, 0, 0⟩ ⟨[⟨1, 1, [vnum k, vnil], [vnum 0]⟩, ⟨0, 3, [vnil], []⟩], [], [], vnil, 4, 0, [false, false], fun _ => false, 0, 0, 0⟩ := by
    refine Steps.more rfl ?_
    rw [sum_b0]
    refine Steps.more rfl ?_
    rw [sum_b1]
    refine Steps.more rfl ?_
    rw [sum_b2]
    refine Steps.more rfl ?_
    rw [sum_b3]
    exact Steps.none _
  have g4 := evs_steps hF hA 4 0 _ _ E0 g0 rfl s4 (by omega) (fun _ => by rw [← hE0]; show (0 : Int) + 4 ≤ 4; omega)
  have m4 : metP (sumF k) E0 ⟨[⟨1, 1, [vnum k, vnil], [vnum 0]⟩, ⟨0, 3, [vnil], []⟩], [], [], vnil, 4, 0, [false, false], fun _ => false, 0, 0, 0⟩ = (⟨[⟨1, 1, [vnum k, vnil], [vnum 0]⟩, ⟨0, 3, [vnil], []⟩], [], [], vnil, 4, 0, [false, false], upd (fun _ => false) 1 true, 0, 0, 0⟩, [⟨5 + 11 * (j : Int), 3, 0⟩, ⟨5 + 11 * (j : Int) + 1, 4, 0⟩]) := by
    rw [← hE0]
    unfold metP
    rw [if_pos (by show (4 : Int) ≤ 4; omega)]
    unfold metP
    rw [if_neg (by show ¬ 5 + 11 * (j : Int) ≤ 4; omega)]
    rfl
  have g4' : evS (sumF k) (startP (sumF k)) E0 (0 + 4) = (⟨[⟨1, 1, [vnum k, vnil], [vnum 0]⟩, ⟨0, 3, [vnil], []⟩], [], [], vnil, 4, 0, [false, false], upd (fun _ => false) 1 true, 0, 0, 0⟩, [⟨5 + 11 * (j : Int), 3, 0⟩, ⟨5 + 11 * (j : Int) + 1, 4, 0⟩]) := by rw [g4, if_pos rfl, m4]
  -- to the head
  have s5 : Steps (sumF k) (1 + 11 * j) ⟨[⟨1, 1, [vnum k, vnil], [vnum 0]⟩, ⟨0, 3, [vnil], []⟩], [], [], vnil, 4, 0, [false, false], upd (fun _ => false) 1 true, 0, 0, 0⟩ (sumL ((k : Int) - j) (sumA k j) false (5 + 11 * j) 0 (upd (fun _ => false) 1 true) 0 0) := by
    have h := sum_rounds k (by omega) false 5 0 (upd (fun _ => false) 1 true) 0 0 j 0 (by omega)
    have e : (0 : Nat) + 11 * j * bN false = 0 := by simp [bN]
    rw [e, show (k : Int) - (0 : Nat) = k by omega, show sumA (k : Int) 0 = 0 from rfl, Nat.zero_add] at h
    refine Steps.trans (Steps.more rfl ?_) h
    rw [sum_b4]
    exact Steps.none _
  have g5 := evs_steps hF hA (1 + 11 * j) 4 _ _ _ g4' rfl s5 (by omega) (fun _ => by show ((4 : Nat) : Int) + ((1 + 11 * j : Nat) : Int) ≤ 5 + 11 * (j : Int); omega)
  have m5 : metP (sumF k) [⟨5 + 11 * (j : Int), 3, 0⟩, ⟨5 + 11 * (j : Int) + 1, 4, 0⟩] (sumL ((k : Int) - j) (sumA k j) false (5 + 11 * j) 0 (upd (fun _ => false) 1 true) 0 0) = (sumL ((k : Int) - j) (sumA k j) true (5 + 11 * j) 0 (upd (fun _ => false) 1 true) 1 0, [⟨5 + 11 * (j : Int) + 1, 4, 0⟩]) := by
    unfold metP
    rw [if_pos (by show 5 + 11 * (j : Int) ≤ ((5 + 11 * j : Nat) : Int); omega)]
    unfold metP
    rw [if_neg (by show ¬ 5 + 11 * (j : Int) + 1 ≤ ((5 + 11 * j : Nat) : Int); omega)]
    rfl
  rw [if_pos (show (sumL ((k : Int) - j) (sumA k j) false (5 + 11 * j) 0 (upd (fun _ => false) 1 true) 0 0).fin = 0 from rfl), m5] at g5
  -- one step up, and down
  have s6 : Steps (sumF k) 1 (sumL ((k : Int) - j) (sumA k j) true (5 + 11 * j) 0 (upd (fun _ => false) 1 true) 1 0) (sumN ((k : Int) - j) (sumA k j) true (5 + 11 * j + 1) 1 (upd (fun _ => false) 1 true) 1 0) := by
    refine Steps.more rfl ?_
    rw [sum_first]
    exact Steps.none _
  have g6 := evs_steps hF hA 1 (4 + (1 + 11 * j)) _ _ _ g5 rfl s6 (by omega) (fun _ => by show ((4 + (1 + 11 * j) : Nat) : Int) + 1 ≤ 5 + 11 * (j : Int) + 1; omega)
  have m6 : metP (sumF k) [⟨5 + 11 * (j : Int) + 1, 4, 0⟩] (sumN ((k : Int) - j) (sumA k j) true (5 + 11 * j + 1) 1 (upd (fun _ => false) 1 true) 1 0) = (sumN ((k : Int) - j) (sumA k j) false (5 + 11 * j + 1) 1 (upd (fun _ => false) 1 true) 1 1, []) := by
    unfold metP
    rw [if_pos (by show 5 + 11 * (j : Int) + 1 ≤ ((5 + 11 * j + 1 : Nat) : Int); omega)]
    rfl
  rw [if_pos (show (sumN ((k : Int) - j) (sumA k j) true (5 + 11 * j + 1) 1 (upd (fun _ => false) 1 true) 1 0).fin = 0 from rfl), m6] at g6
  -- the rest
  have s7 := sum_mid k (by omega) (5 + 11 * j) 1 (upd (fun _ => false) 1 true) 1 1 j hj
  have g7 := evs_steps hF hA (11 * (k - j) + 6) (4 + (1 + 11 * j) + 1) _ _ _ g6 rfl s7 (by omega) (fun h => absurd rfl h)
  have e7 : 4 + (1 + 11 * j) + 1 + (11 * (k - j) + 6) = 11 * k + 12 := by omega
  have e8 : 5 + 11 * j + 11 * (k - j) + 7 = 11 * k + 12 := by omega
  rw [e7, e8] at g7
  have h1 : evS (sumF k) (startP (sumF k)) E0 (11 * k + 12) = (sumE (vnum (sumA k k)) (11 * k + 12) 1 (upd (fun _ => false) 1 true) 1 1, []) := g7
  rw [evs_stay (n := 11 * k + 12) (by rw [h1]; show (1 : Int) ≠ 0; omega) n hn, h1]

theorem sum_prog (k : Int) : (progP 2 (sumF k)).1 = 0 := by kernel_rfl
end Go.Proofs.YtkafkipjedpohaaGreatDoor

/-
  Package upshiftkeep: sum.
-/
namespace Go.Proofs.YtkafkipjedpohaaGreatDoor
open Go.RowKit

/-- Blocks laid one after another. -/
def allocs : World → List Obj → World
  | w, [] => w
  | w, o :: r => allocs (w.alloc o) r
theorem allocs_below : ∀ (l : List Obj) (w : World), Below w.heap.size w (allocs w l)
  | [], w => Below.refl _ _
  | o :: r, w => by
    have h1 : Below w.heap.size w (w.alloc o) := (Below.refl _ _).alloc (Nat.le_refl _) _
    exact h1.trans ((allocs_below r (w.alloc o)).mono h1.size)
theorem allocs_at : ∀ (l : List Obj) (w : World) (i : Nat) (o : Obj), l[i]? = some o → (allocs w l).heap[w.heap.size + i]? = some o
  | [], w, i, o, h => by simp at h
  | x :: r, w, 0, o, h => by
    have e : x = o := by simpa using h
    subst e
    have hz : (w.alloc x).heap.size = w.heap.size + 1 := by simp
    show (allocs (w.alloc x) r).heap[w.heap.size]? = some x
    rw [(allocs_below r (w.alloc x)).block w.heap.size (by omega)]
    exact Go.Deep.blk_alloc_new _ _
  | x :: r, w, i + 1, o, h => by
    have hz : (w.alloc x).heap.size = w.heap.size + 1 := by simp
    have := allocs_at r (w.alloc x) i o (by simpa using h)
    rw [hz] at this
    rw [show w.heap.size + (i + 1) = w.heap.size + 1 + i by omega]
    exact this
theorem allocs_size : ∀ (l : List Obj) (w : World), (allocs w l).heap.size = w.heap.size + l.length
  | [], w => rfl
  | o :: r, w => by
    have := allocs_size r (w.alloc o)
    have hz : (w.alloc o).heap.size = w.heap.size + 1 := by simp
    rw [hz] at this
    show (allocs (w.alloc o) r).heap.size = _
    rw [this, List.length_cons]
    omega

/-- The world in which sum lies. -/
def sumO (k : Int) (w : World) : List Obj := [.cells #[.int .i64 0, .int .i64 k] 33, .cells #[.int .i64 21, .int .i64 0] 33, .cells #[.int .i64 19, .int .i64 0] 33, .cells #[.int .i64 14, .int .i64 0] 33, .cells #[.int .i64 12, .int .i64 1, .int .i64 0, .int .i64 k, .int .i64 13, .int .i64 1, .int .i64 21, .int .i64 0, .int .i64 19, .int .i64 0, .int .i64 14, .int .i64 0] 33, .cells #[.int .i64 0, .int .i64 0] 33, .cells #[.int .i64 3, .int .i64 1] 33, .cells #[.int .i64 2, .int .i64 0] 33, .cells #[.int .i64 2, .int .i64 1] 33, .cells #[.int .i64 2, .int .i64 0] 33, .cells #[.int .i64 4, .int .i64 0] 33, .cells #[.int .i64 3, .int .i64 1] 33, .cells #[.int .i64 2, .int .i64 0] 33, .cells #[.int .i64 0, .int .i64 1] 33, .cells #[.int .i64 5, .int .i64 0] 33, .cells #[.int .i64 3, .int .i64 0] 33, .cells #[.int .i64 2, .int .i64 1] 33, .cells #[.int .i64 14, .int .i64 0] 33, .cells #[.int .i64 0, .int .i64 0, .int .i64 3, .int .i64 1, .int .i64 2, .int .i64 0, .int .i64 11, .int .i64 13, .int .i64 2, .int .i64 1, .int .i64 2, .int .i64 0, .int .i64 4, .int .i64 0, .int .i64 3, .int .i64 1, .int .i64 2, .int .i64 0, .int .i64 0, .int .i64 1, .int .i64 5, .int .i64 0, .int .i64 3, .int .i64 0, .int .i64 10, .int .i64 2, .int .i64 2, .int .i64 1, .int .i64 14, .int .i64 0] 33, .cells #[.int .i64 0, .int .i64 1, .slice (some ⟨w.heap.size + 1 + 1 + 1 + 1, 0, none⟩) 6 6, .int .i64 1, .int .i64 2, .slice (some ⟨w.heap.size + 1 + 1 + 1 + 1 + 1 + 1 + 1 + 1 + 1 + 1 + 1 + 1 + 1 + 1 + 1 + 1 + 1 + 1, 0, none⟩) 15 15] 31]
def sumW (k : Int) (w : World) : World := allocs w (sumO k w)
theorem sum_laid (k : Int) (w : World) : Below w.heap.size w (sumW k w) ∧ ∃ CA CC, ProgAt (sumW k w) (w.heap.size + 19) 0 2 (sumF k) CA CC := by
  have h0 := allocs_at (sumO k w) w 4 _ rfl
  have h1 := allocs_at (sumO k w) w 18 _ rfl
  have hp := allocs_at (sumO k w) w 19 _ rfl
  have hz := allocs_size (sumO k w) w
  rw [show (sumO k w).length = 20 from rfl] at hz
  refine ⟨allocs_below _ w, fun k => if k = 0 then some ⟨w.heap.size + 1 + 1 + 1 + 1, 0, none⟩ else some ⟨w.heap.size + 1 + 1 + 1 + 1 + 1 + 1 + 1 + 1 + 1 + 1 + 1 + 1 + 1 + 1 + 1 + 1 + 1 + 1, 0, none⟩, fun k => if k = 0 then 6 else 15, by show _ < (allocs w _).heap.size; omega, fun j hj => ?_⟩
  have hc : j = 0 ∨ j = 1 := by omega
  rcases hc with rfl | rfl
  · refine ⟨(cell_heap hp).trans rfl, (cell_heap hp).trans rfl, (cell_heap hp).trans rfl, fun _ => ⟨_, _, rfl, by show _ < (allocs w _).heap.size; omega, fun i hi => ?_⟩⟩
    have hi6 : i = 0 ∨ i = 1 ∨ i = 2 ∨ i = 3 ∨ i = 4 ∨ i = 5 := by have : i < 6 := hi; omega
    rcases hi6 with rfl | rfl | rfl | rfl | rfl | rfl <;> exact ⟨(cell_heap h0).trans rfl, (cell_heap h0).trans rfl⟩
  · refine ⟨(cell_heap hp).trans rfl, (cell_heap hp).trans rfl, (cell_heap hp).trans rfl, fun _ => ⟨_, _, rfl, by show _ < (allocs w _).heap.size; omega, fun i hi => ?_⟩⟩
    have hi15 : i = 0 ∨ i = 1 ∨ i = 2 ∨ i = 3 ∨ i = 4 ∨ i = 5 ∨ i = 6 ∨ i = 7 ∨ i = 8 ∨ i = 9 ∨ i = 10 ∨ i = 11 ∨ i = 12 ∨ i = 13 ∨ i = 14 := by have : i < 15 := hi; omega
    rcases hi15 with rfl | rfl | rfl | rfl | rfl | rfl | rfl | rfl | rfl | rfl | rfl | rfl | rfl | rfl | rfl <;> exact ⟨(cell_heap h1).trans rfl, (cell_heap h1).trans rfl⟩

set_option maxRecDepth 100000 in
set_option maxHeartbeats 1000000 in
theorem keepSum (k : Int) (w : World) : Calls Tryz.prog 24 #[.int .i64 k] w fun e w' => ∃ pb, e = .returned (.slice (some ⟨pb, 0, none⟩) 2 2) ∧ Below w.heap.size w w' ∧ ∃ CA CC, ProgAt w' pb 0 2 (sumF k) CA CC := by
  have HQ := hid (sum_laid k w)
  go_enter Tryz.func24, Tryz.ntmps24
  go_wp2_with (first
    | (go_at_call 15; refine (keepLoad_any _ _).mono ?_; rintro e w' ⟨rfl, hw'⟩; rw [hw']; clear hw' w')
    | (go_at_call 43; refine (keepStore_any _ _).mono ?_; rintro e w' ⟨rfl, hw'⟩; rw [hw']; clear hw' w')
    | (go_at_call 33; refine (keepConst_any _ _).mono ?_; rintro e w' ⟨rfl, hw'⟩; rw [hw']; clear hw' w')
    | (go_at_call 16; refine (keepOp_any _ _).mono ?_; rintro e w' ⟨rfl, hw'⟩; rw [hw']; clear hw' w'))
  go_ret
  exact ⟨w.heap.size + 19, rfl, HQ.out.1, HQ.out.2⟩
end Go.Proofs.YtkafkipjedpohaaGreatDoor

/-
  The project's Headers.
-/
namespace Go.Proofs.YtkafkipjedpohaaGreatDoor
open Go.RowKit

/-- The heads of function N, if it is there. -/
def headsN (m : Nat) (F : Nat → PF) (N : Int) : List Nat := if 0 ≤ N ∧ N < m then headsTo (F N.toNat) (F N.toNat).cn else []
def IntsL (w w' : World) (v : Value) (l : List Nat) : Prop := Row w' w.heap.size (fun _ => 0) 0 3 1 v l.length (headCell l)

set_option maxRecDepth 100000 in
set_option maxHeartbeats 1000000 in
theorem codeHeaders (w : World) (cb pb po pc m : Nat) (F : Nat → PF) (K : Nat → Nat → Bool) (H : Nat → Nat → Int) (CA : Nat → Option Addr) (CC : Nat → Nat) (N : Int) (hc : w.cell? ⟨cb, 0, none⟩ = some (.slice (some ⟨pb, po, none⟩) m pc)) (hP : ProgAt w pb po m F CA CC) (hF : Fine m F K H) :
    Calls Tryz.prog 27 #[.pointer (some ⟨cb, 0, none⟩), .int .i64 N] w fun e w' => ∃ v, e = .returned v ∧ IntsL w w' v (headsN m F N) ∧ Below w.heap.size w w' := by
  have hm := hF.size
  by_cases h0 : N < 0
  · have hd : decide (N < 0) = true := by simpa using h0
    have hN : Hid (headsN m F N = []) := by unfold Hid headsN; rw [if_neg (by omega)]
    clear hP hF
    go_enter Tryz.func27, Tryz.ntmps27
    go_wp2
    go_ret
    exact ⟨_, rfl, by rw [hN.out]; exact Row.nil _ _ _ _ _ _ _, Below.refl _ _⟩
  · have hd : decide (N < 0) = false := by simpa using h0
    by_cases h1 : (m : Int) ≤ N
    · have hd1 : decide ((m : Int) ≤ N) = true := by simpa using h1
      have hN : Hid (headsN m F N = []) := by unfold Hid headsN; rw [if_neg (by omega)]
      clear hP hF
      go_enter Tryz.func27, Tryz.ntmps27
      go_wp2
      go_ret
      exact ⟨_, rfl, by rw [hN.out]; exact Row.nil _ _ _ _ _ _ _, Below.refl _ _⟩
    · obtain ⟨k, rfl⟩ : ∃ k : Nat, N = k := ⟨N.toNat, by omega⟩
      have hkm : k < m := by omega
      have hd1 : decide ((m : Int) ≤ (k : Int)) = false := by simp; omega
      have hff := hF.fn k hkm
      have hfun := hP.fn k hkm
      obtain ⟨kb, ko, eca, hkb, hcode⟩ := hfun.code hff.cn.1
      have a2 := hfun.slice
      rw [eca] at a2
      have hpz := hP.lt
      have i0 : (0 : Int) ≤ (k : Int) := by omega
      have i1 : (k : Int) < (m : Int) := by omega
      have hh := heads_any w kb ko (CC k) (F k) hcode hkb hff.cn.2 (fun j hj hop => by
        have hl := hff.legal j hj
        exact legal_jump hl hop)
      have HH := hid hh
      have hN : Hid (headsN m F (k : Int) = headsTo (F k) (F k).cn) := by unfold Hid headsN; rw [if_pos (by omega), Int.toNat_natCast]
      clear hP hF hff hfun hcode hh eca
      generalize hcn : (F k).cn = cn at *
      have HCN := hid hcn
      clear hcn
      go_enter Tryz.func27, Tryz.ntmps27
      go_wp2_with fail
      refine HH.out.mono ?_
      rintro e w2 ⟨v, rfl, h1, h2⟩
      have HQ := hid (And.intro h1 h2)
      clear h1 h2
      go_wp2
      go_ret
      exact ⟨_, rfl, by rw [hN.out]; exact HQ.out.1, HQ.out.2⟩
end Go.Proofs.YtkafkipjedpohaaGreatDoor
