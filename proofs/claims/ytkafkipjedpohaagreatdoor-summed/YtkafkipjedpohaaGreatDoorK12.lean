import Derived.Test.YtkafkipjedpohaaGreatDoorK7
import Derived.Test.YtkafkipjedpohaaGreatDoorK11
import Derived.Test.YtkafkipjedpohaaGreatDoorW2

/-
  Package upshiftkeep: Gears.
-/
namespace Go.Proofs.YtkafkipjedpohaaGreatDoor
open Go.RowKit

/-- What Gears looks at, of the run in the low gear (A) and the one with events (B). -/
structure GearsF (sA sB : Mc) (E : List Ev) : Prop where
  six : Six sA sB
  high : sB.cH ≤ sA.steps
  ups : sB.cU ≤ cntK 3 E
  none : cntK 1 E = 0 → sB.cH = 0 ∧ sB.cU = 0 ∧ sB.cD = 0
  len : sA.out.length ≤ 200000
  szs : Szs sA ∧ sA.arr.length ≤ 100000

theorem gears_facts {m : Nat} {F : Nat → PF} {K : Nat → Nat → Bool} {H : Nat → Nat → Int} (hF : Fine m F K H) {E : List Ev} (hE : EvsOk m E) (n : Int) : GearsF (atP F n) (atE F E n) E := by
  have h6 := evs_six hF hE.rise hE.ok (fuelP n)
  have hb := evs_bd hF hE.rise hE.ok (fuelP n)
  have hu := evs_cU hF hE.rise hE.ok (fuelP n)
  obtain ⟨z1, z2, z3⟩ := road_szs hF (fuelP n)
  have hfl := fuel_le n
  refine ⟨h6, ?_, ?_, fun h => ?_, ?_, z1, ?_⟩
  · have h1 : (evS F (startP F) E (fuelP n)).1.cH ≤ (evS F (startP F) E (fuelP n)).1.steps := hb.cH
    rw [h6.steps] at h1
    exact h1
  · show (evS F (startP F) E (fuelP n)).1.cU ≤ _
    omega
  · have hl := (evs_low (F := F) (cntK_none h) (fuelP n)).1
    exact ⟨hl.cH, hl.cU, hl.cD⟩
  · show (nthP F (startP F) (fuelP n)).out.length ≤ _
    omega
  · show (nthP F (startP F) (fuelP n)).arr.length ≤ _
    omega
theorem Six.end_ {s t : Mc} (h : Six s t) : endP t = endP s := by unfold endP; rw [h.fin]

end Go.Proofs.YtkafkipjedpohaaGreatDoor

/-
  Package upshiftkeep: Apart.
-/
namespace Go.Proofs.YtkafkipjedpohaaGreatDoor
open Go.RowKit

/-- A code of a program, in block b. -/
def CdK (X : World) (b m : Nat) (F : Nat → PF) : Prop :=
  ∃ g cap CA CC, X.cell? ⟨b, 0, none⟩ = some (.slice (some ⟨g, 0, none⟩) m cap) ∧ b < X.heap.size ∧ ProgAt X g 0 m F CA CC ∧ ∀ k, k < m → (F k).cn ≤ CC k
theorem CdK.below {X Y : World} {b m : Nat} {F : Nat → PF} (h : CdK X b m F) (k : Below X.heap.size X Y) : CdK Y b m F := by
  obtain ⟨g, cap, CA, CC, h1, h2, h3, h4⟩ := h
  exact ⟨g, cap, CA, CC, (k.cell (p := ⟨b, 0, none⟩) h2).trans h1, Nat.lt_of_lt_of_le h2 k.size, h3.below k (Nat.le_refl _), h4⟩
theorem CdK.of {w X : World} {v : Value} {m : Nat} {F : Nat → PF} (h : CodeIs w X v m F) : ∃ b, v = .pointer (some ⟨b, 0, none⟩) ∧ CdK X b m F := by
  obtain ⟨b, g, cap, rfl, hb1, hb2, hc, hg1, hg2, hne, CA, CC, hcp⟩ := h
  refine ⟨b, rfl, g, cap, CA, CC, hc, hb2, ⟨hg2, fun k hk => (hcp k hk).1⟩, fun k hk => ?_⟩
  obtain ⟨_, cb, co, _, _, h⟩ := hcp k hk
  exact (h hk).2
theorem CdK.shift {X : World} {b m : Nat} {F : Nat → PF} {K : Nat → Nat → Bool} {H : Nat → Nat → Int} (h : CdK X b m F) (hF : Fine m F K H) (fuel : Int) {ev : Value} {E : List Ev} (hev : EvV X X.heap.size ev E) (hok : eventsP m E = 0) :
    Calls Tryz.prog 26 #[.pointer (some ⟨b, 0, none⟩), ev, .int .i64 fuel] X fun e w' => ∃ p c, e = .returned (.tuple #[OutcomeV (endP (atP F fuel)) (atP F fuel) (.slice p (atP F fuel).out.length c), CountsV (atE F E fuel), .int .i64 0]) ∧ Below X.heap.size X w' ∧ ArgsIn w' (.slice p (atP F fuel).out.length c) (atP F fuel).out := by
  obtain ⟨g, cap, CA, CC, h1, h2, h3, h4⟩ := h
  have hG := gears_facts hF (eventsP_ok hok) fuel
  refine (codeShift X b g 0 cap m F K H CA CC fuel ev E h1 h3 h4 hF hev hok).mono ?_
  rintro e w' ⟨v, rfl, hB, hO⟩
  have e0 := hG.six.end_
  have e1 := hG.six.steps
  have e2 := hG.six.gives
  rw [hG.six.out] at hO
  obtain ⟨p, c, rfl, _⟩ := Row.any hO
  refine ⟨p, c, ?_, hB, Row.args hO⟩
  unfold OutcomeV
  rw [e0, e1, e2]
/-- An outcome and counts, laid into two new blocks. -/
def shW (w : World) (en st gk gn : Int) (o : Value) (x y z : Int) : World := (w.alloc (.cells #[.int .i64 en, .int .i64 st, .int .i64 gk, .int .i64 gn, o] 46)).alloc (.cells #[.int .i64 x, .int .i64 y, .int .i64 z] 61)
structure ShAt (W : World) (n : Nat) (en st gk gn : Int) (o : Value) (x y z : Int) (l : List V) : Prop where
  out : W.heap[n]? = some (.cells #[.int .i64 en, .int .i64 st, .int .i64 gk, .int .i64 gn, o] 46 (0, 0))
  cnt : W.heap[n + 1]? = some (.cells #[.int .i64 x, .int .i64 y, .int .i64 z] 61 (0, 0))
  arg : ArgsIn W o l
end Go.Proofs.YtkafkipjedpohaaGreatDoor

/-
  Runs of upshiftkeep's sum, as plain mathematics. No Go here.
-/
namespace Go.Proofs.YtkafkipjedpohaaGreatDoor

def insF (args locals : Int) (l : List (Int × Int)) : PF := ⟨args, locals, l.length, fun i => (l.getD i (0, 0)).1, fun i => (l.getD i (0, 0)).2⟩
/-- upshiftkeep's sum. -/
def sumF (k : Int) : Nat → PF
  | 0 => insF 0 1 [(12, 1), (0, k), (13, 1), (21, 0), (19, 0), (14, 0)]
  | _ => insF 1 2 [(0, 0), (3, 1), (2, 0), (11, 13), (2, 1), (2, 0), (4, 0), (3, 1), (2, 0), (0, 1), (5, 0), (3, 0), (10, 2), (2, 1), (14, 0)]

theorem Steps.trans {F : Nat → PF} {n m : Nat} {s t u : Mc} (h : Steps F n s t) (k : Steps F m t u) : Steps F (n + m) s u := by
  induction h with
  | none s => rw [Nat.zero_add]; exact k
  | more h0 _ ih => rw [Nat.add_right_comm]; exact Steps.more h0 (ih k)
theorem w64_of {n : Int} (h0 : -9223372036854775808 ≤ n) (h1 : n ≤ 9223372036854775807) : w64 n = n := by unfold w64; omega

/-- At the head of the loop. -/
def sumL (i a : Int) (hb : Bool) (st c : Nat) (md : Nat → Bool) (cu cd : Nat) : Mc :=
  ⟨[⟨1, 2, [vnum i, vnum a], []⟩, ⟨0, 3, [vnil], []⟩], [], [], vnil, st, 0, [hb, false], md, c, cu, cd⟩

def bN (b : Bool) : Nat := if b = true then 1 else 0

/-- One step from the head. -/
theorem sum_first (k i a : Int) (hb : Bool) (st c : Nat) (md : Nat → Bool) (cu cd : Nat) :
    stepP (sumF k) (sumL i a hb st c md cu cd) = ⟨[⟨1, 3, [vnum i, vnum a], [vnum i]⟩, ⟨0, 3, [vnil], []⟩], [], [], vnil, st + 1, 0, [hb, false], md, c + bN hb, cu, cd⟩ := rfl
theorem sum_turn (k i a : Int) (hb : Bool) (st c : Nat) (md : Nat → Bool) (cu cd : Nat) (hi : i ≠ 0) :
    stepP (sumF k) ⟨[⟨1, 3, [vnum i, vnum a], [vnum i]⟩, ⟨0, 3, [vnil], []⟩], [], [], vnil, st, 0, [hb, false], md, c, cu, cd⟩ = ⟨[⟨1, 4, [vnum i, vnum a], []⟩, ⟨0, 3, [vnil], []⟩], [], [], vnil, st + 1, 0, [hb, false], md, c + bN hb, cu, cd⟩ := by
  have hz : zeroP (vnum i) = false := by simp [zeroP, vnum, hi]
  show (⟨[⟨1, (if zeroP (vnum i) = true then 13 else 3 + 1), [vnum i, vnum a], []⟩, ⟨0, 3, [vnil], []⟩], [], [], vnil, st + 1, 0, [hb, false], md, c + bN hb, cu, cd⟩ : Mc) = _
  rw [hz]
  rfl
theorem sum_out (k i a : Int) (hb : Bool) (st c : Nat) (md : Nat → Bool) (cu cd : Nat) (hi : i = 0) :
    stepP (sumF k) ⟨[⟨1, 3, [vnum i, vnum a], [vnum i]⟩, ⟨0, 3, [vnil], []⟩], [], [], vnil, st, 0, [hb, false], md, c, cu, cd⟩ = ⟨[⟨1, 13, [vnum i, vnum a], []⟩, ⟨0, 3, [vnil], []⟩], [], [], vnil, st + 1, 0, [hb, false], md, c + bN hb, cu, cd⟩ := by
  have hz : zeroP (vnum i) = true := by simp [zeroP, vnum, hi]
  show (⟨[⟨1, (if zeroP (vnum i) = true then 13 else 3 + 1), [vnum i, vnum a], []⟩, ⟨0, 3, [vnil], []⟩], [], [], vnil, st + 1, 0, [hb, false], md, c + bN hb, cu, cd⟩ : Mc) = _
  rw [hz]
  rfl
/-- In function 1. -/
def sumM (pc : Nat) (loc stk : List V) (hb : Bool) (st c : Nat) (md : Nat → Bool) (cu cd : Nat) : Mc := ⟨[⟨1, pc, loc, stk⟩, ⟨0, 3, [vnil], []⟩], [], [], vnil, st, 0, [hb, false], md, c, cu, cd⟩
theorem sum_4 (k i a : Int) (hb : Bool) (st c : Nat) (md : Nat → Bool) (cu cd : Nat) : stepP (sumF k) (sumM 4 [vnum i, vnum a] [] hb st c md cu cd) = sumM 5 [vnum i, vnum a] [vnum a] hb (st + 1) (c + bN hb) md cu cd := rfl
theorem sum_5 (k i a : Int) (hb : Bool) (st c : Nat) (md : Nat → Bool) (cu cd : Nat) : stepP (sumF k) (sumM 5 [vnum i, vnum a] [vnum a] hb st c md cu cd) = sumM 6 [vnum i, vnum a] [vnum i, vnum a] hb (st + 1) (c + bN hb) md cu cd := rfl
theorem sum_6 (k i a : Int) (hb : Bool) (st c : Nat) (md : Nat → Bool) (cu cd : Nat) : stepP (sumF k) (sumM 6 [vnum i, vnum a] [vnum i, vnum a] hb st c md cu cd) = sumM 7 [vnum i, vnum a] [vnum (w64 (a + i))] hb (st + 1) (c + bN hb) md cu cd := rfl
theorem sum_7 (k i a b : Int) (hb : Bool) (st c : Nat) (md : Nat → Bool) (cu cd : Nat) : stepP (sumF k) (sumM 7 [vnum i, vnum a] [vnum b] hb st c md cu cd) = sumM 8 [vnum i, vnum b] [] hb (st + 1) (c + bN hb) md cu cd := rfl
theorem sum_8 (k i a : Int) (hb : Bool) (st c : Nat) (md : Nat → Bool) (cu cd : Nat) : stepP (sumF k) (sumM 8 [vnum i, vnum a] [] hb st c md cu cd) = sumM 9 [vnum i, vnum a] [vnum i] hb (st + 1) (c + bN hb) md cu cd := rfl
theorem sum_9 (k i a : Int) (hb : Bool) (st c : Nat) (md : Nat → Bool) (cu cd : Nat) : stepP (sumF k) (sumM 9 [vnum i, vnum a] [vnum i] hb st c md cu cd) = sumM 10 [vnum i, vnum a] [vnum 1, vnum i] hb (st + 1) (c + bN hb) md cu cd := rfl
theorem sum_10 (k i a : Int) (hb : Bool) (st c : Nat) (md : Nat → Bool) (cu cd : Nat) : stepP (sumF k) (sumM 10 [vnum i, vnum a] [vnum 1, vnum i] hb st c md cu cd) = sumM 11 [vnum i, vnum a] [vnum (w64 (i - 1))] hb (st + 1) (c + bN hb) md cu cd := rfl
theorem sum_11 (k i a b : Int) (hb : Bool) (st c : Nat) (md : Nat → Bool) (cu cd : Nat) : stepP (sumF k) (sumM 11 [vnum i, vnum a] [vnum b] hb st c md cu cd) = sumM 12 [vnum b, vnum a] [] hb (st + 1) (c + bN hb) md cu cd := rfl
theorem sum_12 (k i a : Int) (hb : Bool) (st c : Nat) (md : Nat → Bool) (cu cd : Nat) : stepP (sumF k) (sumM 12 [vnum i, vnum a] [] hb st c md cu cd) = sumM 2 [vnum i, vnum a] [] hb (st + 1) (c + bN hb) md cu cd := rfl
theorem sum_nine (k i a : Int) (hb : Bool) (st c : Nat) (md : Nat → Bool) (cu cd : Nat) :
    Steps (sumF k) 9 (sumM 4 [vnum i, vnum a] [] hb st c md cu cd) (sumL (w64 (i - 1)) (w64 (a + i)) hb (st + 1 + 1 + 1 + 1 + 1 + 1 + 1 + 1 + 1) (c + bN hb + bN hb + bN hb + bN hb + bN hb + bN hb + bN hb + bN hb + bN hb) md cu cd) := by
  refine Steps.more rfl ?_
  rw [sum_4 k i a]
  refine Steps.more rfl ?_
  rw [sum_5 k i a]
  refine Steps.more rfl ?_
  rw [sum_6 k i a]
  refine Steps.more rfl ?_
  rw [sum_7 k i a (w64 (a + i))]
  refine Steps.more rfl ?_
  rw [sum_8 k i (w64 (a + i))]
  refine Steps.more rfl ?_
  rw [sum_9 k i (w64 (a + i))]
  refine Steps.more rfl ?_
  rw [sum_10 k i (w64 (a + i))]
  refine Steps.more rfl ?_
  rw [sum_11 k i (w64 (a + i)) (w64 (i - 1))]
  refine Steps.more rfl ?_
  rw [sum_12 k (w64 (i - 1)) (w64 (a + i))]
  exact Steps.none _

/-- Once around. -/
theorem sum_round (k i a : Int) (hb : Bool) (st c : Nat) (md : Nat → Bool) (cu cd : Nat) (hi : i ≠ 0) (h0 : 0 ≤ i) (h1 : i ≤ 1000000) (ha : 0 ≤ a) (ha1 : a ≤ 1000000000000) :
    Steps (sumF k) 11 (sumL i a hb st c md cu cd) (sumL (i - 1) (a + i) hb (st + 11) (c + 11 * bN hb) md cu cd) := by
  refine Steps.more rfl ?_
  rw [sum_first]
  refine Steps.more rfl ?_
  rw [sum_turn _ _ _ _ _ _ _ _ _ hi]
  have h := sum_nine k i a hb (st + 1 + 1) (c + bN hb + bN hb) md cu cd
  rw [w64_of (n := i - 1) (by omega) (by omega), w64_of (n := a + i) (by omega) (by omega)] at h
  have e : c + bN hb + bN hb + bN hb + bN hb + bN hb + bN hb + bN hb + bN hb + bN hb + bN hb + bN hb = c + 11 * bN hb := by omega
  rw [e] at h
  exact h

/-- Behind j rounds. -/
def sumA (k : Int) : Nat → Int
  | 0 => 0
  | j + 1 => sumA k j + (k - j)
theorem sumA_le (k : Int) (hk : 0 ≤ k) (hk1 : k ≤ 500) : ∀ j : Nat, (j : Int) ≤ k → 0 ≤ sumA k j ∧ sumA k j ≤ 500 * j
  | 0, _ => ⟨Int.le_refl _, by simp [sumA]⟩
  | j + 1, h => by
    have := sumA_le k hk hk1 j (by omega)
    unfold sumA
    omega
theorem sum_rounds (k : Nat) (hk : k ≤ 500) (hb : Bool) (st c : Nat) (md : Nat → Bool) (cu cd : Nat) : ∀ (d j : Nat), j + d ≤ k →
    Steps (sumF k) (11 * d) (sumL ((k : Int) - j) (sumA k j) hb st c md cu cd) (sumL ((k : Int) - (j + d : Nat)) (sumA k (j + d)) hb (st + 11 * d) (c + 11 * d * bN hb) md cu cd)
  | 0, j, _ => by simpa using Steps.none _
  | d + 1, j, h => by
    have h1 := sum_rounds k hk hb st c md cu cd d j (by omega)
    have hA := sumA_le k (by omega) (by omega) (j + d) (by omega)
    have h2 := sum_round k ((k : Int) - (j + d : Nat)) (sumA k (j + d)) hb (st + 11 * d) (c + 11 * d * bN hb) md cu cd (by omega) (by omega) (by omega) hA.1 (by omega)
    have h3 := h1.trans h2
    have e1 : (k : Int) - (j + d : Nat) - 1 = (k : Int) - (j + (d + 1) : Nat) := by omega
    have e2 : sumA k (j + d) + ((k : Int) - (j + d : Nat)) = sumA k (j + (d + 1)) := rfl
    have e3 : c + 11 * d * bN hb + 11 * bN hb = c + 11 * (d + 1) * bN hb := by rw [Nat.mul_add 11 d 1, Nat.add_mul]; omega
    rw [e1, e2, e3] at h3
    exact h3

/-- How it ends. -/
def sumE (x : V) (st c : Nat) (md : Nat → Bool) (cu cd : Nat) : Mc := ⟨[], [], [x], x, st, 1, [], md, c, cu, cd⟩
theorem sum_13 (k i a : Int) (hb : Bool) (st c : Nat) (md : Nat → Bool) (cu cd : Nat) : stepP (sumF k) (sumM 13 [vnum i, vnum a] [] hb st c md cu cd) = sumM 14 [vnum i, vnum a] [vnum a] hb (st + 1) (c + bN hb) md cu cd := rfl
theorem sum_14 (k i a : Int) (hb : Bool) (st c : Nat) (md : Nat → Bool) (cu cd : Nat) : stepP (sumF k) (sumM 14 [vnum i, vnum a] [vnum a] hb st c md cu cd) = ⟨[⟨0, 3, [vnil], [vnum a]⟩], [], [], vnil, st + 1, 0, [false], md, c + bN hb, cu, cd⟩ := rfl
theorem sum_d (k a : Int) (st c : Nat) (md : Nat → Bool) (cu cd : Nat) : stepP (sumF k) ⟨[⟨0, 3, [vnil], [vnum a]⟩], [], [], vnil, st, 0, [false], md, c, cu, cd⟩ = ⟨[⟨0, 4, [vnil], [vnum a, vnum a]⟩], [], [], vnil, st + 1, 0, [false], md, c, cu, cd⟩ := rfl
theorem sum_p (k a : Int) (st c : Nat) (md : Nat → Bool) (cu cd : Nat) : stepP (sumF k) ⟨[⟨0, 4, [vnil], [vnum a, vnum a]⟩], [], [], vnil, st, 0, [false], md, c, cu, cd⟩ = ⟨[⟨0, 5, [vnil], [vnum a]⟩], [], [vnum a], vnil, st + 1, 0, [false], md, c, cu, cd⟩ := rfl
theorem sum_r (k a : Int) (st c : Nat) (md : Nat → Bool) (cu cd : Nat) : stepP (sumF k) ⟨[⟨0, 5, [vnil], [vnum a]⟩], [], [vnum a], vnil, st, 0, [false], md, c, cu, cd⟩ = sumE (vnum a) (st + 1) c md cu cd := rfl
theorem sum_end (k a : Int) (hb : Bool) (st c : Nat) (md : Nat → Bool) (cu cd : Nat) :
    Steps (sumF k) 7 (sumL 0 a hb st c md cu cd) (sumE (vnum a) (st + 7) (c + 4 * bN hb) md cu cd) := by
  refine Steps.more rfl ?_
  rw [sum_first]
  refine Steps.more rfl ?_
  rw [sum_out _ _ _ _ _ _ _ _ _ rfl]
  have h : Steps (sumF k) 5 (sumM 13 [vnum 0, vnum a] [] hb (st + 1 + 1) (c + bN hb + bN hb) md cu cd) (sumE (vnum a) (st + 1 + 1 + 1 + 1 + 1 + 1 + 1) (c + bN hb + bN hb + bN hb + bN hb) md cu cd) := by
    refine Steps.more rfl ?_
    rw [sum_13]
    refine Steps.more rfl ?_
    rw [sum_14]
    refine Steps.more rfl ?_
    rw [sum_d]
    refine Steps.more rfl ?_
    rw [sum_p]
    refine Steps.more rfl ?_
    rw [sum_r]
    exact Steps.none _
  have e : c + bN hb + bN hb + bN hb + bN hb = c + 4 * bN hb := by omega
  rw [e] at h
  exact h
theorem sum_b0 (k : Int) (md : Nat → Bool) (c cu cd : Nat) : stepP (sumF k) ⟨[⟨0, 0, [vnil], []⟩], [], [], vnil, 0, 0, [false], md, c, cu, cd⟩ = ⟨[⟨0, 1, [vnil], [⟨3, 1⟩]⟩], [], [], vnil, 1, 0, [false], md, c, cu, cd⟩ := rfl
theorem sum_b1 (k : Int) (md : Nat → Bool) (c cu cd : Nat) : stepP (sumF k) ⟨[⟨0, 1, [vnil], [⟨3, 1⟩]⟩], [], [], vnil, 1, 0, [false], md, c, cu, cd⟩ = ⟨[⟨0, 2, [vnil], [vnum k, ⟨3, 1⟩]⟩], [], [], vnil, 2, 0, [false], md, c, cu, cd⟩ := rfl
theorem sum_b2 (k : Int) (md : Nat → Bool) (c cu cd : Nat) : stepP (sumF k) ⟨[⟨0, 2, [vnil], [vnum k, ⟨3, 1⟩]⟩], [], [], vnil, 2, 0, [false], md, c, cu, cd⟩ = ⟨[⟨1, 0, [vnum k, vnil], []⟩, ⟨0, 3, [vnil], []⟩], [], [], vnil, 3, 0, [md 1, false], md, c, cu, cd⟩ := rfl
theorem sum_b3 (k : Int) (hb : Bool) (md : Nat → Bool) (c cu cd : Nat) : stepP (sumF k) ⟨[⟨1, 0, [vnum k, vnil], []⟩, ⟨0, 3, [vnil], []⟩], [], [], vnil, 3, 0, [hb, false], md, c, cu, cd⟩ = ⟨[⟨1, 1, [vnum k, vnil], [vnum 0]⟩, ⟨0, 3, [vnil], []⟩], [], [], vnil, 4, 0, [hb, false], md, c + bN hb, cu, cd⟩ := rfl
theorem sum_b4 (k : Int) (hb : Bool) (md : Nat → Bool) (c cu cd : Nat) : stepP (sumF k) ⟨[⟨1, 1, [vnum k, vnil], [vnum 0]⟩, ⟨0, 3, [vnil], []⟩], [], [], vnil, 4, 0, [hb, false], md, c, cu, cd⟩ = sumL k 0 hb 5 (c + bN hb) md cu cd := rfl
/-- How it begins. -/
theorem sum_begin (k : Int) (md : Nat → Bool) (c cu cd : Nat) :
    Steps (sumF k) 5 ⟨[⟨0, 0, [vnil], []⟩], [], [], vnil, 0, 0, [false], md, c, cu, cd⟩ (sumL k 0 (md 1) 5 (c + bN (md 1) + bN (md 1)) md cu cd) := by
  refine Steps.more rfl ?_
  rw [sum_b0]
  refine Steps.more rfl ?_
  rw [sum_b1]
  refine Steps.more rfl ?_
  rw [sum_b2]
  refine Steps.more rfl ?_
  rw [sum_b3]
  refine Steps.more rfl ?_
  rw [sum_b4]
  exact Steps.none _
end Go.Proofs.YtkafkipjedpohaaGreatDoor
