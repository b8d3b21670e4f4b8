import Derived.Test.YtkafkipjedpohaaGreatDoorK11
import Derived.Test.YtkafkipjedpohaaGreatDoorM29
import Derived.Test.YtkafkipjedpohaaGreatDoorK9
import Derived.Test.YtkafkipjedpohaaGreatDoorW2
import Derived.Test.YtkafkipjedpohaaGreatDoorM24
import Derived.Test.YtkafkipjedpohaaGreatDoorM5

/-
  The counts of a run with events, as plain mathematics. No Go here.
-/
namespace Go.Proofs.YtkafkipjedpohaaGreatDoor

variable {m : Nat} {F : Nat → PF} {K : Nat → Nat → Bool} {H : Nat → Nat → Int}

theorem evs_bd (hF : Fine m F K H) {E : List Ev} (hr : Rising 0 E) (hok : ∀ e, e ∈ E → EvOk m e) : ∀ n, Bd (evS F (startP F) E n).1
  | 0 => (met_cm (F := F) E (startP F) (start_inv hF).1.highs).bd start_bd
  | n + 1 => by
    have ih := evs_bd hF hr hok n
    have hAt := run_at hF hr hok n
    unfold evS
    generalize evS F (startP F) E n = x at *
    split
    · rename_i hz
      obtain ⟨hI, _⟩ := hAt.go hz
      obtain ⟨f, rest, hfr, _⟩ := hI.top
      split
      · rename_i hz2
        exact (met_cm (F := F) x.2 (stepP F x.1) (step_inv hF hI hz2).highs).bd (Bd.step ih hz hfr)
      · exact Bd.step ih hz hfr
    · exact ih

/-- How many events are of kind k. -/
def cntK (k : Int) (E : List Ev) : Nat := (E.filter fun e => decide (e.k = k)).length
theorem cntK_cons (k : Int) (e : Ev) (r : List Ev) : cntK k (e :: r) = (if e.k = k then 1 else 0) + cntK k r := by
  unfold cntK
  rw [List.filter_cons]
  by_cases h : e.k = k
  · simp [h]; omega
  · simp [h]

theorem come_cU (k n : Int) (s : Mc) : (comesP F k n s).cU ≤ s.cU + if k = 3 then 1 else 0 := by
  unfold comesP
  split
  · exact Nat.le_add_right _ _
  · split
    · split
      · exact Nat.le_succ _
      · split
        · exact Nat.le_refl _
        · exact Nat.le_succ _
    · exact Nat.le_add_right _ _
theorem met_cU : ∀ (E : List Ev) (s : Mc), (metP F E s).1.cU + cntK 3 (metP F E s).2 ≤ s.cU + cntK 3 E
  | [], s => Nat.le_refl _
  | e :: r, s => by
    unfold metP
    split
    · have h1 := met_cU r (comesP F e.k e.n s)
      have h2 := come_cU (F := F) e.k e.n s
      rw [cntK_cons]
      omega
    · exact Nat.le_refl _
theorem evs_cU (hF : Fine m F K H) {E : List Ev} (hr : Rising 0 E) (hok : ∀ e, e ∈ E → EvOk m e) : ∀ n, (evS F (startP F) E n).1.cU + cntK 3 (evS F (startP F) E n).2 ≤ cntK 3 E
  | 0 => by
    have := met_cU (F := F) E (startP F)
    have h0 : (startP F).cU = 0 := rfl
    show (metP F E (startP F)).1.cU + cntK 3 (metP F E (startP F)).2 ≤ _
    omega
  | n + 1 => by
    have ih := evs_cU hF hr hok n
    have hAt := run_at hF hr hok n
    unfold evS
    generalize evS F (startP F) E n = x at *
    split
    · rename_i hz
      obtain ⟨hI, _⟩ := hAt.go hz
      obtain ⟨f, rest, hfr, _⟩ := hI.top
      have hu := (step_cUD (F := F) hfr).1
      split
      · have := met_cU (F := F) x.2 (stepP F x.1)
        omega
      · show (stepP F x.1).cU + cntK 3 x.2 ≤ _
        omega
    · exact ih

/-- Nothing is made, nothing high. -/
structure AllLow (s : Mc) : Prop where
  made : ∀ k, s.made k = false
  high : ∀ b, b ∈ s.high → b = false
  cH : s.cH = 0
  cU : s.cU = 0
  cD : s.cD = 0
theorem AllLow.top {s : Mc} (h : AllLow s) : s.high.headD false = false := by
  cases hc : s.high with
  | nil => rfl
  | cons b r => exact h.high b (by rw [hc]; exact List.mem_cons_self)
theorem downs_low (all : Bool) (n : Int) : ∀ (fr : List Fr) (hs : List Bool), (∀ b, b ∈ hs → b = false) → downs all n fr hs = (hs, 0)
  | [], hs, _ => by cases hs <;> rfl
  | _ :: _, [], _ => rfl
  | f :: fr, h :: hs, hl => by
    have h0 : h = false := hl h List.mem_cons_self
    have ih := downs_low all n fr hs (fun b hb => hl b (List.mem_cons_of_mem _ hb))
    unfold downs
    rw [ih, h0]
    simp
theorem AllLow.come {s : Mc} (h : AllLow s) {k : Int} (n : Int) (hk : k ≠ 1) : AllLow (comesP F k n s) := by
  unfold comesP
  rw [if_neg hk]
  split
  · split
    · exact h
    · rw [if_neg (fun hh => by rw [h.made] at hh; exact absurd hh.2.1 (by simp))]
      exact h
  · rw [downs_low _ _ _ _ h.high]
    refine ⟨fun j => ?_, h.high, h.cH, h.cU, h.cD⟩
    show (if k = 2 then upd s.made n.toNat false else s.made) j = false
    split
    · unfold upd; split
      · rfl
      · exact h.made j
    · exact h.made j
theorem AllLow.met : ∀ (E : List Ev) {s : Mc}, AllLow s → (∀ e, e ∈ E → e.k ≠ 1) → AllLow (metP F E s).1 ∧ ∀ e, e ∈ (metP F E s).2 → e ∈ E
  | [], s, h, _ => ⟨h, fun e he => he⟩
  | e :: r, s, h, hk => by
    unfold metP
    split
    · obtain ⟨h1, h2⟩ := AllLow.met r (h.come (F := F) e.n (hk e List.mem_cons_self)) (fun x hx => hk x (List.mem_cons_of_mem _ hx))
      exact ⟨h1, fun x hx => List.mem_cons_of_mem _ (h2 x hx)⟩
    · exact ⟨h, fun x hx => hx⟩
theorem AllLow.call {s : Mc} (h : AllLow s) (A : Nat) (f : Fr) (rest : List Fr) : AllLow (callP F A f rest s) := by
  unfold callP
  split
  · exact h
  · split
    · exact ⟨h.made, h.high, h.cH, h.cU, h.cD⟩
    · split
      · exact ⟨h.made, h.high, h.cH, h.cU, h.cD⟩
      · refine ⟨h.made, fun b hb => ?_, h.cH, h.cU, h.cD⟩
        rcases List.mem_cons.1 hb with rfl | hb
        · exact h.made _
        · exact h.high b hb
theorem AllLow.ret {s : Mc} (h : AllLow s) (f : Fr) (rest : List Fr) : AllLow (returnP f rest s) := by
  unfold returnP
  split
  · exact h
  · split
    · exact ⟨h.made, fun b hb => h.high b (List.mem_of_mem_drop hb), h.cH, h.cU, h.cD⟩
    · exact ⟨h.made, fun b hb => h.high b (List.mem_of_mem_drop hb), h.cH, h.cU, h.cD⟩
theorem AllLow.step {s : Mc} (h : AllLow s) : AllLow (stepP F s) := by
  cases hc : s.fr with
  | nil =>
    have e1 : stepP F s = s := by unfold stepP; rw [hc]
    rw [e1]
    exact h
  | cons f rest =>
    rw [stepP_at hc]
    unfold stepQ
    dsimp only
    have hcH : s.cH + (if s.high.headD false = true then 1 else 0) = 0 := by rw [h.top, h.cH]; rfl
    rw [hcH]
    have h' : AllLow { s with steps := s.steps + 1, cH := 0 } := ⟨h.made, h.high, rfl, h.cU, h.cD⟩
    split
    · exact ⟨h.made, h.high, rfl, h.cU, h.cD⟩
    · split
      · split
        · exact ⟨h.made, h.high, rfl, h.cU, h.cD⟩
        · exact ⟨h.made, h.high, rfl, h.cU, h.cD⟩
      · split
        · exact h'.call _ _ _
        · split
          · exact h'.ret _ _
          · exact ⟨h.made, h.high, rfl, h.cU, h.cD⟩
theorem evs_low {E : List Ev} (hk : ∀ e, e ∈ E → e.k ≠ 1) : ∀ n, AllLow (evS F (startP F) E n).1 ∧ ∀ e, e ∈ (evS F (startP F) E n).2 → e ∈ E
  | 0 => AllLow.met E (F := F) ⟨fun _ => rfl, fun b hb => by simpa [startP] using hb, rfl, rfl, rfl⟩ hk
  | n + 1 => by
    obtain ⟨h1, h2⟩ := evs_low hk n
    unfold evS
    generalize evS F (startP F) E n = x at *
    split
    · split
      · obtain ⟨h3, h4⟩ := AllLow.met (F := F) x.2 (h1.step (F := F)) (fun e he => hk e (h2 e he))
        exact ⟨h3, fun e he => h2 e (h4 e he)⟩
      · exact ⟨h1.step, h2⟩
    · exact ⟨h1, h2⟩
theorem cntK_none {k : Int} {E : List Ev} (h : cntK k E = 0) : ∀ e, e ∈ E → e.k ≠ k := fun e he hk => by
  unfold cntK at h
  have := List.length_eq_zero_iff.1 h
  have hm : e ∈ E.filter fun e => decide (e.k = k) := List.mem_filter.2 ⟨he, by simpa using hk⟩
  rw [this] at hm
  cases hm
end Go.Proofs.YtkafkipjedpohaaGreatDoor

/-
  Package upshiftkeep: Gears.
-/
namespace Go.Proofs.YtkafkipjedpohaaGreatDoor
open Go.RowKit

/-- What Gears looks at, of the run in the low gear (A) and the one with events (B). -/
structure GearsF (sA sB : Mc) (E : List Ev) : Prop where
  six : Six sA sB
  high : sB.cH ≤ sA.steps
  ups : sB.cU ≤ cntK 3 E
  none : cntK 1 E = 0 → sB.cH = 0 ∧ sB.cU = 0 ∧ sB.cD = 0
  len : sA.out.length ≤ 200000
  szs : Szs sA ∧ sA.arr.length ≤ 100000

theorem gears_facts {m : Nat} {F : Nat → PF} {K : Nat → Nat → Bool} {H : Nat → Nat → Int} (hF : Fine m F K H) {E : List Ev} (hE : EvsOk m E) (n : Int) : GearsF (atP F n) (atE F E n) E := by
  have h6 := evs_six hF hE.rise hE.ok (fuelP n)
  have hb := evs_bd hF hE.rise hE.ok (fuelP n)
  have hu := evs_cU hF hE.rise hE.ok (fuelP n)
  obtain ⟨z1, z2, z3⟩ := road_szs hF (fuelP n)
  have hfl := fuel_le n
  refine ⟨h6, ?_, ?_, fun h => ?_, ?_, z1, ?_⟩
  · have h1 : (evS F (startP F) E (fuelP n)).1.cH ≤ (evS F (startP F) E (fuelP n)).1.steps := hb.cH
    rw [h6.steps] at h1
    exact h1
  · show (evS F (startP F) E (fuelP n)).1.cU ≤ _
    omega
  · have hl := (evs_low (F := F) (cntK_none h) (fuelP n)).1
    exact ⟨hl.cH, hl.cU, hl.cD⟩
  · show (nthP F (startP F) (fuelP n)).out.length ≤ _
    omega
  · show (nthP F (startP F) (fuelP n)).arr.length ≤ _
    omega
theorem Six.end_ {s t : Mc} (h : Six s t) : endP t = endP s := by unfold endP; rw [h.fin]

end Go.Proofs.YtkafkipjedpohaaGreatDoor

/-
  Package upshiftkeep: Apart.
-/
namespace Go.Proofs.YtkafkipjedpohaaGreatDoor
open Go.RowKit

/-- A code of a program, in block b. -/
def CdK (X : World) (b m : Nat) (F : Nat → PF) : Prop :=
  ∃ g cap CA CC, X.cell? ⟨b, 0, none⟩ = some (.slice (some ⟨g, 0, none⟩) m cap) ∧ b < X.heap.size ∧ ProgAt X g 0 m F CA CC ∧ ∀ k, k < m → (F k).cn ≤ CC k
theorem CdK.below {X Y : World} {b m : Nat} {F : Nat → PF} (h : CdK X b m F) (k : Below X.heap.size X Y) : CdK Y b m F := by
  obtain ⟨g, cap, CA, CC, h1, h2, h3, h4⟩ := h
  exact ⟨g, cap, CA, CC, (k.cell (p := ⟨b, 0, none⟩) h2).trans h1, Nat.lt_of_lt_of_le h2 k.size, h3.below k (Nat.le_refl _), h4⟩
theorem CdK.of {w X : World} {v : Value} {m : Nat} {F : Nat → PF} (h : CodeIs w X v m F) : ∃ b, v = .pointer (some ⟨b, 0, none⟩) ∧ CdK X b m F := by
  obtain ⟨b, g, cap, rfl, hb1, hb2, hc, hg1, hg2, hne, CA, CC, hcp⟩ := h
  refine ⟨b, rfl, g, cap, CA, CC, hc, hb2, ⟨hg2, fun k hk => (hcp k hk).1⟩, fun k hk => ?_⟩
  obtain ⟨_, cb, co, _, _, h⟩ := hcp k hk
  exact (h hk).2
theorem CdK.shift {X : World} {b m : Nat} {F : Nat → PF} {K : Nat → Nat → Bool} {H : Nat → Nat → Int} (h : CdK X b m F) (hF : Fine m F K H) (fuel : Int) {ev : Value} {E : List Ev} (hev : EvV X X.heap.size ev E) (hok : eventsP m E = 0) :
    Calls Tryz.prog 26 #[.pointer (some ⟨b, 0, none⟩), ev, .int .i64 fuel] X fun e w' => ∃ p c, e = .returned (.tuple #[OutcomeV (endP (atP F fuel)) (atP F fuel) (.slice p (atP F fuel).out.length c), CountsV (atE F E fuel), .int .i64 0]) ∧ Below X.heap.size X w' ∧ ArgsIn w' (.slice p (atP F fuel).out.length c) (atP F fuel).out := by
  obtain ⟨g, cap, CA, CC, h1, h2, h3, h4⟩ := h
  have hG := gears_facts hF (eventsP_ok hok) fuel
  refine (codeShift X b g 0 cap m F K H CA CC fuel ev E h1 h3 h4 hF hev hok).mono ?_
  rintro e w' ⟨v, rfl, hB, hO⟩
  have e0 := hG.six.end_
  have e1 := hG.six.steps
  have e2 := hG.six.gives
  rw [hG.six.out] at hO
  obtain ⟨p, c, rfl, _⟩ := Row.any hO
  refine ⟨p, c, ?_, hB, Row.args hO⟩
  unfold OutcomeV
  rw [e0, e1, e2]
/-- An outcome and counts, laid into two new blocks. -/
def shW (w : World) (en st gk gn : Int) (o : Value) (x y z : Int) : World := (w.alloc (.cells #[.int .i64 en, .int .i64 st, .int .i64 gk, .int .i64 gn, o] 46)).alloc (.cells #[.int .i64 x, .int .i64 y, .int .i64 z] 61)
structure ShAt (W : World) (n : Nat) (en st gk gn : Int) (o : Value) (x y z : Int) (l : List V) : Prop where
  out : W.heap[n]? = some (.cells #[.int .i64 en, .int .i64 st, .int .i64 gk, .int .i64 gn, o] 46 (0, 0))
  cnt : W.heap[n + 1]? = some (.cells #[.int .i64 x, .int .i64 y, .int .i64 z] 61 (0, 0))
  arg : ArgsIn W o l
end Go.Proofs.YtkafkipjedpohaaGreatDoor

/-
  Runs of upshiftkeep's sum, as plain mathematics. No Go here.
-/
namespace Go.Proofs.YtkafkipjedpohaaGreatDoor

def insF (args locals : Int) (l : List (Int × Int)) : PF := ⟨args, locals, l.length, fun i => (l.getD i (0, 0)).1, fun i => (l.getD i (0, 0)).2⟩
/-- upshiftkeep's sum. -/
def sumF (k : Int) : Nat → PF
  | 0 => insF 0 1 [(12, 1), (0, k), (13, 1), (21, 0), (19, 0), (14, 0)]
  | _ => insF 1 2 [(0, 0), (3, 1), (2, 0), (11, 13), (2, 1), (2, 0), (4, 0), (3, 1), (2, 0), (0, 1), (5, 0), (3, 0), (10, 2), (2, 1), (14, 0)]

theorem Steps.trans {F : Nat → PF} {n m : Nat} {s t u : Mc} (h : Steps F n s t) (k : Steps F m t u) : Steps F (n + m) s u := by
  induction h with
  | none s => rw [Nat.zero_add]; exact k
  | more h0 _ ih => rw [Nat.add_right_comm]; exact Steps.more h0 (ih k)
theorem w64_of {n : Int} (h0 : -9223372036854775808 ≤ n) (h1 : n ≤ 9223372036854775807) : w64 n = n := by unfold w64; omega

/-- At the head of the loop. -/
def sumL (i a : Int) (hb : Bool) (st c : Nat) (md : Nat → Bool) (cu cd : Nat) : Mc :=
  ⟨[⟨1, 2, [vnum i, vnum a], []⟩, ⟨0, 3, [vnil], []⟩], [], [], vnil, st, 0, [hb, false], md, c, cu, cd⟩

def bN (b : Bool) : Nat := if b = true then 1 else 0

/-- In function 1. -/
def sumM (pc : Nat) (loc stk : List V) (hb : Bool) (st c : Nat) (md : Nat → Bool) (cu cd : Nat) : Mc := ⟨[⟨1, pc, loc, stk⟩, ⟨0, 3, [vnil], []⟩], [], [], vnil, st, 0, [hb, false], md, c, cu, cd⟩
/-- Behind j rounds. -/
def sumA (k : Int) : Nat → Int
  | 0 => 0
  | j + 1 => sumA k j + (k - j)
/-- How it ends. -/
def sumE (x : V) (st c : Nat) (md : Nat → Bool) (cu cd : Nat) : Mc := ⟨[], [], [x], x, st, 1, [], md, c, cu, cd⟩
end Go.Proofs.YtkafkipjedpohaaGreatDoor

/-
  Runs of upshiftkeep's sum with the events that Summed hands in, as plain mathematics. No Go here.
-/
namespace Go.Proofs.YtkafkipjedpohaaGreatDoor

variable {m : Nat} {K : Nat → Nat → Bool} {H : Nat → Nat → Int}

/-- Behind one step from the head. -/
def sumN (i a : Int) (hb : Bool) (st c : Nat) (md : Nat → Bool) (cu cd : Nat) : Mc := ⟨[⟨1, 3, [vnum i, vnum a], [vnum i]⟩, ⟨0, 3, [vnil], []⟩], [], [], vnil, st, 0, [hb, false], md, c, cu, cd⟩
end Go.Proofs.YtkafkipjedpohaaGreatDoor

/-
  Package upshiftkeep: sum.
-/
namespace Go.Proofs.YtkafkipjedpohaaGreatDoor
open Go.RowKit

/-- Blocks laid one after another. -/
def allocs : World → List Obj → World
  | w, [] => w
  | w, o :: r => allocs (w.alloc o) r
theorem allocs_below : ∀ (l : List Obj) (w : World), Below w.heap.size w (allocs w l)
  | [], w => Below.refl _ _
  | o :: r, w => by
    have h1 : Below w.heap.size w (w.alloc o) := (Below.refl _ _).alloc (Nat.le_refl _) _
    exact h1.trans ((allocs_below r (w.alloc o)).mono h1.size)
theorem allocs_at : ∀ (l : List Obj) (w : World) (i : Nat) (o : Obj), l[i]? = some o → (allocs w l).heap[w.heap.size + i]? = some o
  | [], w, i, o, h => by simp at h
  | x :: r, w, 0, o, h => by
    have e : x = o := by simpa using h
    subst e
    have hz : (w.alloc x).heap.size = w.heap.size + 1 := by simp
    show (allocs (w.alloc x) r).heap[w.heap.size]? = some x
    rw [(allocs_below r (w.alloc x)).block w.heap.size (by omega)]
    exact Go.Deep.blk_alloc_new _ _
  | x :: r, w, i + 1, o, h => by
    have hz : (w.alloc x).heap.size = w.heap.size + 1 := by simp
    have := allocs_at r (w.alloc x) i o (by simpa using h)
    rw [hz] at this
    rw [show w.heap.size + (i + 1) = w.heap.size + 1 + i by omega]
    exact this
theorem allocs_size : ∀ (l : List Obj) (w : World), (allocs w l).heap.size = w.heap.size + l.length
  | [], w => rfl
  | o :: r, w => by
    have := allocs_size r (w.alloc o)
    have hz : (w.alloc o).heap.size = w.heap.size + 1 := by simp
    rw [hz] at this
    show (allocs (w.alloc o) r).heap.size = _
    rw [this, List.length_cons]
    omega

/-- The world in which sum lies. -/
def sumO (k : Int) (w : World) : List Obj := [.cells #[.int .i64 0, .int .i64 k] 33, .cells #[.int .i64 21, .int .i64 0] 33, .cells #[.int .i64 19, .int .i64 0] 33, .cells #[.int .i64 14, .int .i64 0] 33, .cells #[.int .i64 12, .int .i64 1, .int .i64 0, .int .i64 k, .int .i64 13, .int .i64 1, .int .i64 21, .int .i64 0, .int .i64 19, .int .i64 0, .int .i64 14, .int .i64 0] 33, .cells #[.int .i64 0, .int .i64 0] 33, .cells #[.int .i64 3, .int .i64 1] 33, .cells #[.int .i64 2, .int .i64 0] 33, .cells #[.int .i64 2, .int .i64 1] 33, .cells #[.int .i64 2, .int .i64 0] 33, .cells #[.int .i64 4, .int .i64 0] 33, .cells #[.int .i64 3, .int .i64 1] 33, .cells #[.int .i64 2, .int .i64 0] 33, .cells #[.int .i64 0, .int .i64 1] 33, .cells #[.int .i64 5, .int .i64 0] 33, .cells #[.int .i64 3, .int .i64 0] 33, .cells #[.int .i64 2, .int .i64 1] 33, .cells #[.int .i64 14, .int .i64 0] 33, .cells #[.int .i64 0, .int .i64 0, .int .i64 3, .int .i64 1, .int .i64 2, .int .i64 0, .int .i64 11, .int .i64 13, .int .i64 2, .int .i64 1, .int .i64 2, .int .i64 0, .int .i64 4, .int .i64 0, .int .i64 3, .int .i64 1, .int .i64 2, .int .i64 0, .int .i64 0, .int .i64 1, .int .i64 5, .int .i64 0, .int .i64 3, .int .i64 0, .int .i64 10, .int .i64 2, .int .i64 2, .int .i64 1, .int .i64 14, .int .i64 0] 33, .cells #[.int .i64 0, .int .i64 1, .slice (some ⟨w.heap.size + 1 + 1 + 1 + 1, 0, none⟩) 6 6, .int .i64 1, .int .i64 2, .slice (some ⟨w.heap.size + 1 + 1 + 1 + 1 + 1 + 1 + 1 + 1 + 1 + 1 + 1 + 1 + 1 + 1 + 1 + 1 + 1 + 1, 0, none⟩) 15 15] 31]
def sumW (k : Int) (w : World) : World := allocs w (sumO k w)
end Go.Proofs.YtkafkipjedpohaaGreatDoor

/-
  Runs of upshiftkeep's product, as plain mathematics. No Go here.
-/
namespace Go.Proofs.YtkafkipjedpohaaGreatDoor

/-- upshiftkeep's product. -/
def prodF (k : Int) : Nat → PF
  | 0 => insF 0 0 [(12, 1), (0, k), (13, 1), (14, 0)]
  | _ => insF 1 1 [(2, 0), (11, 10), (2, 0), (12, 1), (2, 0), (0, 1), (5, 0), (13, 1), (6, 0), (14, 0), (0, 1), (14, 0)]
theorem prod_prog (k : Int) : (progP 2 (prodF k)).1 = 0 := by kernel_rfl

/-- The frames that wait: d of them, of function 1, the last one first, and function 0's. -/
def prodW (k : Int) : Nat → List Fr
  | 0 => [⟨0, 3, [], []⟩]
  | d + 1 => ⟨1, 8, [vnum (k - d)], [vnum (k - d)]⟩ :: prodW k d
theorem prodW_len (k : Int) : ∀ d, (prodW k d).length = d + 1
  | 0 => rfl
  | d + 1 => by simp [prodW, prodW_len k d]
/-- A run in function 1. -/
def prodM (pc : Nat) (loc stk : List V) (rest : List Fr) (hs : List Bool) (st c : Nat) (md : Nat → Bool) (cu cd : Nat) : Mc := ⟨⟨1, pc, loc, stk⟩ :: rest, [], [], vnil, st, 0, hs, md, c, cu, cd⟩
def hN (hs : List Bool) : Nat := if hs.headD false = true then 1 else 0

theorem prod_0 (k i : Int) (rest : List Fr) (hs : List Bool) (st c : Nat) (md : Nat → Bool) (cu cd : Nat) : stepP (prodF k) (prodM 0 [vnum i] [] rest hs st c md cu cd) = prodM 1 [vnum i] [vnum i] rest hs (st + 1) (c + hN hs) md cu cd := rfl
theorem prod_1 (k i : Int) (rest : List Fr) (hs : List Bool) (st c : Nat) (md : Nat → Bool) (cu cd : Nat) (hi : i ≠ 0) : stepP (prodF k) (prodM 1 [vnum i] [vnum i] rest hs st c md cu cd) = prodM 2 [vnum i] [] rest hs (st + 1) (c + hN hs) md cu cd := by
  have hz : zeroP (vnum i) = false := by simp [zeroP, vnum, hi]
  show prodM (if zeroP (vnum i) = true then 10 else 1 + 1) [vnum i] [] rest hs (st + 1) (c + hN hs) md cu cd = _
  rw [hz]
  rfl
theorem prod_1z (k : Int) (rest : List Fr) (hs : List Bool) (st c : Nat) (md : Nat → Bool) (cu cd : Nat) : stepP (prodF k) (prodM 1 [vnum 0] [vnum 0] rest hs st c md cu cd) = prodM 10 [vnum 0] [] rest hs (st + 1) (c + hN hs) md cu cd := rfl
theorem prod_2 (k i : Int) (rest : List Fr) (hs : List Bool) (st c : Nat) (md : Nat → Bool) (cu cd : Nat) : stepP (prodF k) (prodM 2 [vnum i] [] rest hs st c md cu cd) = prodM 3 [vnum i] [vnum i] rest hs (st + 1) (c + hN hs) md cu cd := rfl
theorem prod_3 (k i : Int) (rest : List Fr) (hs : List Bool) (st c : Nat) (md : Nat → Bool) (cu cd : Nat) : stepP (prodF k) (prodM 3 [vnum i] [vnum i] rest hs st c md cu cd) = prodM 4 [vnum i] [⟨3, 1⟩, vnum i] rest hs (st + 1) (c + hN hs) md cu cd := rfl
theorem prod_4 (k i : Int) (rest : List Fr) (hs : List Bool) (st c : Nat) (md : Nat → Bool) (cu cd : Nat) : stepP (prodF k) (prodM 4 [vnum i] [⟨3, 1⟩, vnum i] rest hs st c md cu cd) = prodM 5 [vnum i] [vnum i, ⟨3, 1⟩, vnum i] rest hs (st + 1) (c + hN hs) md cu cd := rfl
theorem prod_5 (k i : Int) (rest : List Fr) (hs : List Bool) (st c : Nat) (md : Nat → Bool) (cu cd : Nat) : stepP (prodF k) (prodM 5 [vnum i] [vnum i, ⟨3, 1⟩, vnum i] rest hs st c md cu cd) = prodM 6 [vnum i] [vnum 1, vnum i, ⟨3, 1⟩, vnum i] rest hs (st + 1) (c + hN hs) md cu cd := rfl
theorem prod_6 (k i : Int) (rest : List Fr) (hs : List Bool) (st c : Nat) (md : Nat → Bool) (cu cd : Nat) : stepP (prodF k) (prodM 6 [vnum i] [vnum 1, vnum i, ⟨3, 1⟩, vnum i] rest hs st c md cu cd) = prodM 7 [vnum i] [vnum (w64 (i - 1)), ⟨3, 1⟩, vnum i] rest hs (st + 1) (c + hN hs) md cu cd := rfl
theorem prod_7 (k i x : Int) (rest : List Fr) (hs : List Bool) (st c : Nat) (md : Nat → Bool) (cu cd : Nat) (hr : rest.length + 1 < 24) : stepP (prodF k) (prodM 7 [vnum i] [vnum x, ⟨3, 1⟩, vnum i] rest hs st c md cu cd) = prodM 0 [vnum x] [] (⟨1, 8, [vnum i], [vnum i]⟩ :: rest) (md 1 :: hs) (st + 1) (c + hN hs) md cu cd := by
  show (if 24 ≤ rest.length + 1 then _ else _) = _
  rw [if_neg (by omega)]
  rfl
theorem prod_7t (k i x : Int) (rest : List Fr) (hs : List Bool) (st c : Nat) (md : Nat → Bool) (cu cd : Nat) (hr : rest.length + 1 = 24) : stepP (prodF k) (prodM 7 [vnum i] [vnum x, ⟨3, 1⟩, vnum i] rest hs st c md cu cd) = { prodM 7 [vnum i] [vnum i] rest hs (st + 1) (c + hN hs) md cu cd with fin := 7 } := by
  show (if 24 ≤ rest.length + 1 then _ else _) = _
  rw [if_pos (by omega)]
  rfl
theorem prod_10 (k i : Int) (rest : List Fr) (hs : List Bool) (st c : Nat) (md : Nat → Bool) (cu cd : Nat) : stepP (prodF k) (prodM 10 [vnum i] [] rest hs st c md cu cd) = prodM 11 [vnum i] [vnum 1] rest hs (st + 1) (c + hN hs) md cu cd := rfl
theorem prod_11 (k i x : Int) (g : Fr) (rest : List Fr) (hs : List Bool) (st c : Nat) (md : Nat → Bool) (cu cd : Nat) : stepP (prodF k) (prodM 11 [vnum i] [vnum x] (g :: rest) hs st c md cu cd) = ⟨{ g with stk := vnum x :: g.stk } :: rest, [], [], vnil, st + 1, 0, hs.drop 1, md, c + hN hs, cu, cd⟩ := rfl
theorem prod_8 (k i x : Int) (rest : List Fr) (hs : List Bool) (st c : Nat) (md : Nat → Bool) (cu cd : Nat) : stepP (prodF k) (prodM 8 [vnum i] [vnum x, vnum i] rest hs st c md cu cd) = prodM 9 [vnum i] [vnum (w64 (i * x))] rest hs (st + 1) (c + hN hs) md cu cd := rfl
theorem prod_9 (k i x : Int) (g : Fr) (rest : List Fr) (hs : List Bool) (st c : Nat) (md : Nat → Bool) (cu cd : Nat) : stepP (prodF k) (prodM 9 [vnum i] [vnum x] (g :: rest) hs st c md cu cd) = ⟨{ g with stk := vnum x :: g.stk } :: rest, [], [], vnil, st + 1, 0, hs.drop 1, md, c + hN hs, cu, cd⟩ := rfl
theorem prod_b0 (k : Int) (md : Nat → Bool) (c cu cd : Nat) : stepP (prodF k) ⟨[⟨0, 0, [], []⟩], [], [], vnil, 0, 0, [false], md, c, cu, cd⟩ = ⟨[⟨0, 1, [], [⟨3, 1⟩]⟩], [], [], vnil, 1, 0, [false], md, c, cu, cd⟩ := rfl
theorem prod_b1 (k : Int) (md : Nat → Bool) (c cu cd : Nat) : stepP (prodF k) ⟨[⟨0, 1, [], [⟨3, 1⟩]⟩], [], [], vnil, 1, 0, [false], md, c, cu, cd⟩ = ⟨[⟨0, 2, [], [vnum k, ⟨3, 1⟩]⟩], [], [], vnil, 2, 0, [false], md, c, cu, cd⟩ := rfl
theorem prod_b2 (k : Int) (md : Nat → Bool) (c cu cd : Nat) : stepP (prodF k) ⟨[⟨0, 2, [], [vnum k, ⟨3, 1⟩]⟩], [], [], vnil, 2, 0, [false], md, c, cu, cd⟩ = prodM 0 [vnum k] [] (prodW k 0) [md 1, false] 3 c md cu cd := rfl
theorem prod_r (k x : Int) (st c : Nat) (md : Nat → Bool) (cu cd : Nat) : stepP (prodF k) ⟨[⟨0, 3, [], [vnum x]⟩], [], [], vnil, st, 0, [false], md, c, cu, cd⟩ = ⟨[], [], [], vnum x, st + 1, 1, [], md, c, cu, cd⟩ := rfl

/-- Down by one frame. -/
theorem prod_down (k i : Int) (rest : List Fr) (hs : List Bool) (st c : Nat) (md : Nat → Bool) (cu cd : Nat) (hi : i ≠ 0) (h0 : 0 ≤ i) (h1 : i ≤ 1000) (hr : rest.length + 1 < 24) :
    Steps (prodF k) 8 (prodM 0 [vnum i] [] rest hs st c md cu cd) (prodM 0 [vnum (i - 1)] [] (⟨1, 8, [vnum i], [vnum i]⟩ :: rest) (md 1 :: hs) (st + 8) (c + 8 * hN hs) md cu cd) := by
  refine Steps.more rfl ?_
  rw [prod_0]
  refine Steps.more rfl ?_
  rw [prod_1 _ _ _ _ _ _ _ _ _ hi]
  refine Steps.more rfl ?_
  rw [prod_2]
  refine Steps.more rfl ?_
  rw [prod_3]
  refine Steps.more rfl ?_
  rw [prod_4]
  refine Steps.more rfl ?_
  rw [prod_5]
  refine Steps.more rfl ?_
  rw [prod_6]
  refine Steps.more rfl ?_
  rw [prod_7 _ _ _ _ _ _ _ _ _ _ hr, w64_of (n := i - 1) (by omega) (by omega)]
  have e : c + hN hs + hN hs + hN hs + hN hs + hN hs + hN hs + hN hs + hN hs = c + 8 * hN hs := by omega
  rw [e]
  exact Steps.none _
/-- Too deep. -/
theorem prod_deep (k i : Int) (rest : List Fr) (hs : List Bool) (st c : Nat) (md : Nat → Bool) (cu cd : Nat) (hi : i ≠ 0) (hr : rest.length + 1 = 24) :
    Steps (prodF k) 8 (prodM 0 [vnum i] [] rest hs st c md cu cd) { prodM 7 [vnum i] [vnum i] rest hs (st + 8) (c + 8 * hN hs) md cu cd with fin := 7 } := by
  refine Steps.more rfl ?_
  rw [prod_0]
  refine Steps.more rfl ?_
  rw [prod_1 _ _ _ _ _ _ _ _ _ hi]
  refine Steps.more rfl ?_
  rw [prod_2]
  refine Steps.more rfl ?_
  rw [prod_3]
  refine Steps.more rfl ?_
  rw [prod_4]
  refine Steps.more rfl ?_
  rw [prod_5]
  refine Steps.more rfl ?_
  rw [prod_6]
  refine Steps.more rfl ?_
  rw [prod_7t _ _ _ _ _ _ _ _ _ _ hr]
  have e : c + hN hs + hN hs + hN hs + hN hs + hN hs + hN hs + hN hs + hN hs = c + 8 * hN hs := by omega
  rw [e]
  exact Steps.none _
end Go.Proofs.YtkafkipjedpohaaGreatDoor
