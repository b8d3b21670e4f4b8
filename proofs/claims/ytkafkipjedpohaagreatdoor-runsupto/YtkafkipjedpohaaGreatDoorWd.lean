import Derived.Test.YtkafkipjedpohaaGreatDoorProg
import Derived.Test.YtkafkipjedpohaaGreatDoorPureA
import Derived.WalkKit
import Derived.WalkSpells
import Derived.WalkLawsBesides
import Derived.Deep.OwnRows
import Derived.BigQuiet

/-
  What lies in memory: instructions, functions, the places of a flow; what a call leaves as it was.
-/
namespace Go.Proofs.YtkafkipjedpohaaGreatDoor
open Go.RowKit

/-- The table of effects, in block 0. -/
def TabAt (w : World) : Prop := ∀ o : Nat, o < 22 → w.cell? ⟨0, o * 2, none⟩ = some (.int .i64 (popsT o)) ∧ w.cell? ⟨0, o * 2 + 1, none⟩ = some (.int .i64 (pushesP o))

/-- n instructions from an address on. -/
def CodeAt (w : World) (b off n : Nat) (op ar : Nat → Int) : Prop :=
  ∀ i, i < n → w.cell? ⟨b, off + i * 2, none⟩ = some (.int .i64 (op i)) ∧ w.cell? ⟨b, off + i * 2 + 1, none⟩ = some (.int .i64 (ar i))

/-- The cells of a flow's places. -/
def plc (s : St) : Nat → Value := fun j => if j % 3 = 0 then .bool (s.K (j / 3)) else if j % 3 = 1 then .bool (s.L (j / 3)) else .int .i64 (s.H (j / 3))

theorem plc0 (s : St) (i : Nat) : plc s (i * 3) = .bool (s.K i) := by
  unfold plc; rw [if_pos (by omega), show i * 3 / 3 = i by omega]
theorem plc1 (s : St) (i : Nat) : plc s (i * 3 + 1) = .bool (s.L i) := by
  unfold plc; rw [if_neg (by omega), if_pos (by omega), show (i * 3 + 1) / 3 = i by omega]
theorem plc2 (s : St) (i : Nat) : plc s (i * 3 + 2) = .int .i64 (s.H i) := by
  unfold plc; rw [if_neg (by omega), if_neg (by omega), show (i * 3 + 2) / 3 = i by omega]

/-- The places s lie in block b. -/
def PlacesAt (w : World) (b n : Nat) (s : St) : Prop := w.rowIs b 171 (n * 3) (plc s)

theorem PlacesAt.K {w : World} {b n : Nat} {s : St} (h : PlacesAt w b n s) {i : Nat} (hi : i < n) : w.cell? ⟨b, i * 3, none⟩ = some (.bool (s.K i)) := by
  rw [← plc0]; exact World.rowIs.cell h (by omega)
theorem PlacesAt.L {w : World} {b n : Nat} {s : St} (h : PlacesAt w b n s) {i : Nat} (hi : i < n) : w.cell? ⟨b, i * 3 + 1, none⟩ = some (.bool (s.L i)) := by
  rw [← plc1]; exact World.rowIs.cell h (by omega)
theorem PlacesAt.H {w : World} {b n : Nat} {s : St} (h : PlacesAt w b n s) {i : Nat} (hi : i < n) : w.cell? ⟨b, i * 3 + 2, none⟩ = some (.int .i64 (s.H i)) := by
  rw [← plc2]; exact World.rowIs.cell h (by omega)

theorem mod_cases (j : Nat) : j = j / 3 * 3 ∨ j = j / 3 * 3 + 1 ∨ j = j / 3 * 3 + 2 := by omega

theorem PlacesAt.congr {w : World} {b n : Nat} {s t : St} (h : PlacesAt w b n s) (e : ∀ i, i < n → s.K i = t.K i ∧ s.L i = t.L i ∧ s.H i = t.H i) : PlacesAt w b n t := by
  refine World.rowIs.congr h fun j hj => ?_
  obtain ⟨e1, e2, e3⟩ := e (j / 3) (by omega)
  unfold plc; rw [e1, e2, e3]

theorem PlacesAt.setK {w : World} {b n : Nat} {s : St} (h : PlacesAt w b n s) (i : Nat) (v : Bool) : PlacesAt (w.setCell ⟨b, i * 3, none⟩ (.bool v)) b n { s with K := upd s.K i v } := by
  refine World.rowIs.congr (World.rowIs.set h (i * 3) (.bool v)) fun j hj => ?_
  rcases mod_cases j with e | e | e
  · have e3 : j % 3 = 0 := by omega
    by_cases hji : j / 3 = i
    · rw [if_pos (by omega)]; simp [plc, upd, e3, hji]
    · rw [if_neg (by omega)]; simp [plc, upd, e3, hji]
  · have e3 : j % 3 = 1 := by omega
    rw [if_neg (by omega)]; simp [plc, e3]
  · have e3 : j % 3 = 2 := by omega
    rw [if_neg (by omega)]; simp [plc, e3]

theorem PlacesAt.setL {w : World} {b n : Nat} {s : St} (h : PlacesAt w b n s) (i : Nat) (v : Bool) : PlacesAt (w.setCell ⟨b, i * 3 + 1, none⟩ (.bool v)) b n { s with L := upd s.L i v } := by
  refine World.rowIs.congr (World.rowIs.set h (i * 3 + 1) (.bool v)) fun j hj => ?_
  rcases mod_cases j with e | e | e
  · have e3 : j % 3 = 0 := by omega
    rw [if_neg (by omega)]; simp [plc, e3]
  · have e3 : j % 3 = 1 := by omega
    by_cases hji : j / 3 = i
    · rw [if_pos (by omega)]; simp [plc, upd, e3, hji]
    · rw [if_neg (by omega)]; simp [plc, upd, e3, hji]
  · have e3 : j % 3 = 2 := by omega
    rw [if_neg (by omega)]; simp [plc, e3]

theorem PlacesAt.setH {w : World} {b n : Nat} {s : St} (h : PlacesAt w b n s) (i : Nat) (v : Int) : PlacesAt (w.setCell ⟨b, i * 3 + 2, none⟩ (.int .i64 v)) b n { s with H := upd s.H i v } := by
  refine World.rowIs.congr (World.rowIs.set h (i * 3 + 2) (.int .i64 v)) fun j hj => ?_
  rcases mod_cases j with e | e | e
  · have e3 : j % 3 = 0 := by omega
    rw [if_neg (by omega)]; simp [plc, e3]
  · have e3 : j % 3 = 1 := by omega
    rw [if_neg (by omega)]; simp [plc, e3]
  · have e3 : j % 3 = 2 := by omega
    by_cases hji : j / 3 = i
    · rw [if_pos (by omega)]; simp [plc, upd, e3, hji]
    · rw [if_neg (by omega)]; simp [plc, upd, e3, hji]

/-- All that was there but block b is as it was. -/
structure Kp (b : Nat) (w w' : World) : Prop where
  os : w'.os = w.os
  tape : w'.tape = w.tape
  output : w'.output = w.output
  size : w.heap.size ≤ w'.heap.size
  block : ∀ k, k < w.heap.size → k ≠ b → w'.heap[k]? = w.heap[k]?

theorem Kp.refl (b : Nat) (w : World) : Kp b w w := ⟨rfl, rfl, rfl, Nat.le_refl _, fun _ _ _ => rfl⟩
theorem Kp.trans {b : Nat} {u v w : World} (h : Kp b u v) (k : Kp b v w) : Kp b u w :=
  ⟨k.os.trans h.os, k.tape.trans h.tape, k.output.trans h.output, Nat.le_trans h.size k.size, fun i hi hb => (k.block i (Nat.lt_of_lt_of_le hi h.size) hb).trans (h.block i hi hb)⟩
theorem Kp.of_below {b : Nat} {w w' : World} (h : Below w.heap.size w w') : Kp b w w' := ⟨h.os, h.tape, h.output, h.size, fun k hk _ => h.block k hk⟩
theorem Kp.drew {b : Nat} {u w : World} (h : Kp b u w) : Kp b u w.drew := ⟨h.os, h.tape, h.output, h.size, h.block⟩
theorem Kp.alloc {b : Nat} {u w : World} (h : Kp b u w) (o : Obj) : Kp b u (w.alloc o) :=
  h.trans ⟨rfl, rfl, rfl, by simp, fun k hk _ => Below.heap_alloc _ _ _ hk⟩
theorem Kp.set {b : Nat} {u w : World} (h : Kp b u w) (o : Nat) (v : Value) : Kp b u (w.setCell ⟨b, o, none⟩ v) :=
  h.trans ⟨rfl, rfl, rfl, by simp [World.setCell], fun k _ hb => Below.heap_setCell _ _ _ _ hb⟩
theorem Kp.setNew {b : Nat} {u w : World} (h : Kp b u w) {p : Addr} (hp : u.heap.size ≤ p.block) (v : Value) : Kp b u (w.setCell p v) :=
  ⟨h.os, h.tape, h.output, by have := h.size; simp [World.setCell]; omega, fun k hk hb => by rw [Below.heap_setCell _ _ _ _ (by omega)]; exact h.block k hk hb⟩
theorem Kp.cell {b : Nat} {w w' : World} (h : Kp b w w') {p : Addr} (hp : p.block < w.heap.size) (hb : p.block ≠ b) : w'.cell? p = w.cell? p := World.cell?_of_block (w := w) (h.block p.block hp hb)
theorem Kp.below {b B : Nat} {w w' : World} (h : Kp b w w') (hB : B ≤ b) (hw : B ≤ w.heap.size) : Below B w w' := ⟨h.os, h.tape, h.output, h.size, fun k hk => h.block k (by omega) (by omega)⟩

theorem CodeAt.below {w w' : World} {B b off n : Nat} {op ar : Nat → Int} (h : CodeAt w b off n op ar) (k : Below B w w') (hb : b < B) : CodeAt w' b off n op ar :=
  fun i hi => ⟨(k.cell (p := ⟨b, _, none⟩) hb).trans (h i hi).1, (k.cell (p := ⟨b, _, none⟩) hb).trans (h i hi).2⟩
theorem CodeAt.kp {w w' : World} {c b off n : Nat} {op ar : Nat → Int} (h : CodeAt w b off n op ar) (k : Kp c w w') (hb : b < w.heap.size) (hc : b ≠ c) : CodeAt w' b off n op ar :=
  fun i hi => ⟨(k.cell (p := ⟨b, _, none⟩) hb hc).trans (h i hi).1, (k.cell (p := ⟨b, _, none⟩) hb hc).trans (h i hi).2⟩
theorem TabAt.below {w w' : World} {B : Nat} (h : TabAt w) (k : Below B w w') (hb : 0 < B) : TabAt w' :=
  fun i hi => ⟨(k.cell (p := ⟨0, _, none⟩) hb).trans (h i hi).1, (k.cell (p := ⟨0, _, none⟩) hb).trans (h i hi).2⟩
theorem TabAt.kp {w w' : World} {c : Nat} (h : TabAt w) (k : Kp c w w') (hb : 0 < w.heap.size) (hc : 0 ≠ c) : TabAt w' :=
  fun i hi => ⟨(k.cell (p := ⟨0, _, none⟩) hb hc).trans (h i hi).1, (k.cell (p := ⟨0, _, none⟩) hb hc).trans (h i hi).2⟩

theorem ret_bool {a b : Bool} (h : a = b) : Ending.returned (.bool a) = .returned (.bool b) := by rw [h]
theorem ret_int {k : IntKind} {a b : Int} (h : a = b) : Ending.returned (.int k a) = .returned (.int k b) := by rw [h]
end Go.Proofs.YtkafkipjedpohaaGreatDoor

/-
  The walks of package check's small functions.
-/
namespace Go.Proofs.YtkafkipjedpohaaGreatDoor
open Go.RowKit

set_option maxHeartbeats 400000 in
theorem within_any (n a b : Int) (w : World) :
    Calls Tryz.prog 48 #[.int .i64 n, .int .i64 a, .int .i64 b] w fun e w' => e = .returned (.bool (decide (a ≤ n ∧ n ≤ b))) ∧ w' = w := by
  by_cases h1 : a ≤ n
  · go_enter Tryz.func48, Tryz.ntmps48
    go_wp2
    go_ret
    exact ⟨by simp [h1], rfl⟩
  · have h1' : decide (a ≤ n) = false := by simpa using h1
    go_enter Tryz.func48, Tryz.ntmps48
    go_wp2
    go_ret
    exact ⟨by simp, rfl⟩

set_option maxHeartbeats 400000 in
theorem known_any (n : Int) (w : World) :
    Calls Tryz.prog 71 #[.int .i64 n] w fun e w' => e = .returned (.bool (decide (0 ≤ n ∧ n < 22))) ∧ w' = w := by
  by_cases h1 : 0 ≤ n
  · go_enter Tryz.func71, Tryz.ntmps71
    go_wp2
    go_ret
    exact ⟨by simp [h1], rfl⟩
  · have h1' : decide (0 ≤ n) = false := by simpa using h1
    go_enter Tryz.func71, Tryz.ntmps71
    go_wp2
    go_ret
    exact ⟨by simp, rfl⟩

set_option maxHeartbeats 400000 in
theorem indexes_any (a n : Int) (w : World) :
    Calls Tryz.prog 93 #[.int .i64 a, .int .i64 n] w fun e w' => e = .returned (.bool (decide (0 ≤ a ∧ a < n))) ∧ w' = w := by
  by_cases h1 : 0 ≤ a
  · go_enter Tryz.func93, Tryz.ntmps93
    go_wp2
    go_ret
    exact ⟨by simp [h1], rfl⟩
  · have h1' : decide (0 ≤ a) = false := by simpa using h1
    go_enter Tryz.func93, Tryz.ntmps93
    go_wp2
    go_ret
    exact ⟨by simp, rfl⟩

set_option maxHeartbeats 400000 in
theorem sizesFit_any (ag lc : Int) (ca : Option Addr) (cn cc : Nat) (w : World) :
    Calls Tryz.prog 70 #[.agg #[.int .i64 ag, .int .i64 lc, .slice ca cn cc]] w fun e w' =>
      e = .returned (.bool (decide (0 ≤ lc ∧ lc ≤ 8) && decide (0 ≤ ag ∧ ag ≤ lc) && decide (1 ≤ cn ∧ cn ≤ 64))) ∧ Below w.heap.size w w' := by
  go_enter Tryz.func70, Tryz.ntmps70
  go_wp2_with (go_at_call 48; refine (within_any _ _ _ _).mono ?_; rintro e w' ⟨rfl, rfl⟩)
  all_goals go_ret
  all_goals refine ⟨ret_bool ?_, by repeat (first | exact Below.refl _ _ | refine Below.alloc ?_ (by simp <;> omega) _)⟩
  all_goals (rw [Bool.eq_iff_iff]; simp_all <;> omega)

set_option maxHeartbeats 1000000 in
theorem operandFits_any (op a ag lc : Int) (ca : Option Addr) (cn cc : Nat) (m : Int) (w : World) :
    Calls Tryz.prog 72 #[.agg #[.int .i64 op, .int .i64 a], .agg #[.int .i64 ag, .int .i64 lc, .slice ca cn cc], .int .i64 m] w fun e w' =>
      e = .returned (.bool (fitsP op a lc cn m)) ∧ Below w.heap.size w w' := by
  go_enter Tryz.func72, Tryz.ntmps72
  go_wp2_with (go_at_call 93; refine (indexes_any _ _ _).mono ?_; rintro e w' ⟨rfl, rfl⟩)
  all_goals go_ret
  all_goals (refine ⟨ret_bool ?_, by repeat (first | exact Below.refl _ _ | refine Below.alloc ?_ (by simp <;> omega) _)⟩)
  all_goals (unfold fitsP; simp_all)

/-- What check.effectOf answers. -/
theorem tab_read {w : World} (h : TabAt w) {op : Int} (h0 : 0 ≤ op) (h1 : op < 22) : w.cell? ⟨0, op.toNat * 2, none⟩ = some (.int .i64 (popsT op)) ∧ w.cell? ⟨0, op.toNat * 2 + 1, none⟩ = some (.int .i64 (pushesP op)) := by
  obtain ⟨n, rfl⟩ := Int.eq_ofNat_of_zero_le h0
  exact h n (by omega)

set_option maxHeartbeats 1000000 in
theorem effectOf_any (op a : Int) (w : World) (ht : TabAt w) (h0 : 0 ≤ op) (h1 : op < 22) (h13 : op = 13 → 0 ≤ a ∧ a ≤ 8) (hw : 0 < w.heap.size) :
    Calls Tryz.prog 105 #[.agg #[.int .i64 op, .int .i64 a]] w fun e w' =>
      e = .returned (.agg #[.int .i64 (popsP op a), .int .i64 (pushesP op)]) ∧ Below w.heap.size w w' := by
  obtain ⟨t0, t1⟩ := tab_read ht h0 h1
  by_cases h : op = 13
  · obtain ⟨a0, a8⟩ := h13 h
    subst h
    have t0' : w.cell? ⟨0, 26, none⟩ = some (.int .i64 1) := t0
    have t1' : w.cell? ⟨0, 27, none⟩ = some (.int .i64 1) := t1
    clear ht h13 t0 t1
    go_enter Tryz.func105, Tryz.ntmps105
    go_wp2
    exact bodyPost_ret (v := .agg #[.int .i64 (1 + a), .int .i64 1]) (by simp [results, Tryz.results105, go_sem]) rfl ⟨by simp [popsP, pushesP], by repeat (first | exact Below.refl _ _ | refine Below.alloc ?_ (by simp <;> omega) _)⟩
  · have hb : (op == 13) = false := by simpa using h
    have hp : popsT op = popsP op a := by unfold popsP; rw [if_neg h]
    rw [hp] at t0
    generalize popsP op a = pp at *
    generalize pushesP op = qq at *
    clear ht h13 h hp
    go_enter Tryz.func105, Tryz.ntmps105
    go_wp2
    exact bodyPost_ret (v := .agg #[.int .i64 pp, .int .i64 qq]) (by simp [results, Tryz.results105, go_sem]) rfl ⟨rfl, by repeat (first | exact Below.refl _ _ | refine Below.alloc ?_ (by simp <;> omega) _)⟩
end Go.Proofs.YtkafkipjedpohaaGreatDoor

/-
  The walks of package check's flow: follows, reach.
-/
namespace Go.Proofs.YtkafkipjedpohaaGreatDoor
open Go.RowKit

/-- The ints of a list lie in block b, from its cell 0 on. -/
def IntsAt (w : World) (b : Nat) (l : List Int) : Prop := ∀ j, j < l.length → w.cell? ⟨b, j, none⟩ = some (.int .i64 (l.getD j 0))

theorem ints_one (w : World) (x : Int) (t : TypeId) (B : Nat) (hB : B = w.heap.size) : IntsAt (w.alloc (.cells #[.int .i64 x] t)) B [x] := by
  subst hB
  intro j hj
  obtain rfl : j = 0 := by simpa using hj
  unfold World.cell?; rw [Go.Deep.blk_alloc_new]; rfl
theorem ints_two (w : World) (x y : Int) (t : TypeId) (B : Nat) (hB : B = w.heap.size) : IntsAt (w.alloc (.cells #[.int .i64 x, .int .i64 y] t)) B [x, y] := by
  subst hB
  intro j hj
  have : j = 0 ∨ j = 1 := by simp at hj; omega
  rcases this with rfl | rfl <;> (unfold World.cell?; rw [Go.Deep.blk_alloc_new]; rfl)

/-- What a list of where to go is: nil, or ints in a new block. -/
def GoesTo (w w' : World) (p : Option Addr) (l : List Int) : Prop := l = [] ∨ ∃ b, w.heap.size ≤ b ∧ b < w'.heap.size ∧ p = some ⟨b, 0, none⟩ ∧ IntsAt w' b l

set_option maxHeartbeats 1000000 in
theorem follows_any (op a : Int) (i : Nat) (w : World) (hi : i < 64) :
    Calls Tryz.prog 106 #[.agg #[.int .i64 op, .int .i64 a], .int .i64 i] w fun e w' =>
      ∃ p c, e = .returned (.slice p (afterP op a i).length c) ∧ Below w.heap.size w w' ∧ GoesTo w w' p (afterP op a i) := by
  by_cases h1 : op = 14
  · subst h1
    have hl : afterP 14 a i = [] := by simp [afterP]
    rw [hl]
    go_enter Tryz.func106, Tryz.ntmps106
    go_wp2
    go_ret
    exact ⟨_, _, rfl, (Below.refl _ _).alloc (Nat.le_refl _) _, Or.inl rfl⟩
  · have b1 : (op == 14) = false := by simpa using h1
    by_cases h2 : op = 10
    · subst h2
      have hl : afterP 10 a i = [a] := by simp [afterP]
      rw [hl]
      clear hl h1
      go_enter Tryz.func106, Tryz.ntmps106
      go_wp2
      go_ret
      exact ⟨_, _, rfl, ((Below.refl _ _).alloc (Nat.le_refl _) _).alloc (by simp) _, Or.inr ⟨w.heap.size + 1, by omega, by simp, rfl, ints_one (w.alloc _) a 3 _ (by simp)⟩⟩
    · have b2 : (op == 10) = false := by simpa using h2
      by_cases h3 : op = 11
      · subst h3
        have hl : afterP 11 a i = [(i : Int) + 1, a] := by simp [afterP]
        rw [hl]
        clear hl h1
        go_enter Tryz.func106, Tryz.ntmps106
        go_wp2
        go_ret
        exact ⟨_, _, rfl, ((Below.refl _ _).alloc (Nat.le_refl _) _).alloc (by simp) _, Or.inr ⟨w.heap.size + 1, by omega, by simp, rfl, ints_two (w.alloc _) _ a 3 _ (by simp)⟩⟩
      · have b3 : (op == 11) = false := by simpa using h3
        have hl : afterP op a i = [(i : Int) + 1] := by simp [afterP, h1, h2, h3]
        rw [hl]
        clear hl h1 h2 h3
        go_enter Tryz.func106, Tryz.ntmps106
        go_wp2
        go_ret
        exact ⟨_, _, rfl, ((Below.refl _ _).alloc (Nat.le_refl _) _).alloc (by simp) _, Or.inr ⟨w.heap.size + 1, by omega, by simp, rfl, ints_one (w.alloc _) _ 3 _ (by simp)⟩⟩

set_option maxHeartbeats 1000000 in
theorem reach_any (b n : Nat) (s : St) (to h : Int) (w : World) (hp : PlacesAt w b n s) (ht : 0 ≤ to) :
    Calls Tryz.prog 107 #[.slice (some ⟨b, 0, none⟩) n n, .int .i64 to, .int .i64 h] w fun e w' =>
      e = .returned (.int .i64 (reachP n s to h).1) ∧ PlacesAt w' b n (reachP n s to h).2 ∧ Kp b w w' := by
  obtain ⟨i, rfl⟩ := Int.eq_ofNat_of_zero_le ht
  unfold reachP
  by_cases hn : (n : Int) ≤ (i : Int)
  · rw [if_pos hn]
    go_enter Tryz.func107, Tryz.ntmps107
    go_wp2
    go_ret
    exact ⟨rfl, hp, Kp.refl _ _⟩
  · rw [if_neg hn]
    simp only [Int.toNat_natCast]
    have c0 := hp.K (i := i) (by omega)
    have c2 := hp.H (i := i) (by omega)
    have fz : ∀ o, w.frozen? ⟨b, o, none⟩ = false := fun o => World.rowIs.frozen hp o
    by_cases hk : s.K i = true
    · by_cases hh : s.H i = h
      · have fin : PlacesAt ((w.setCell ⟨b, i * 3, none⟩ (.bool true)).setCell ⟨b, i * 3 + 2, none⟩ (.int .i64 h)) b n { K := upd s.K i true, L := s.L, H := upd s.H i h } := (hp.setK i true).setH i h
        have HF : Hid (PlacesAt ((w.setCell ⟨b, i * 3, none⟩ (.bool true)).setCell ⟨b, i * 3 + 2, none⟩ (.int .i64 h)) b n { K := upd s.K i true, L := s.L, H := upd s.H i h }) := fin
        rw [hk] at c0
        rw [hh] at c2
        rw [if_neg (by simp [hh])]
        clear fin hk hh hp
        go_enter Tryz.func107, Tryz.ntmps107
        go_wp2
        go_ret
        exact ⟨rfl, HF.out, ((Kp.refl _ _).set _ _).set _ _⟩
      · have hb : (s.H i != h) = true := by simpa using hh
        rw [hk] at c0
        rw [if_pos ⟨hk, hh⟩]
        have HF : Hid (PlacesAt w b n s) := hp
        clear hk hh hp
        generalize s.H i = hi at *
        go_enter Tryz.func107, Tryz.ntmps107
        go_wp2
        go_ret
        exact ⟨rfl, HF.out, Kp.refl _ _⟩
    · have hk' : s.K i = false := by simpa using hk
      have fin : PlacesAt ((w.setCell ⟨b, i * 3, none⟩ (.bool true)).setCell ⟨b, i * 3 + 2, none⟩ (.int .i64 h)) b n { K := upd s.K i true, L := s.L, H := upd s.H i h } := (hp.setK i true).setH i h
      have HF : Hid (PlacesAt ((w.setCell ⟨b, i * 3, none⟩ (.bool true)).setCell ⟨b, i * 3 + 2, none⟩ (.int .i64 h)) b n { K := upd s.K i true, L := s.L, H := upd s.H i h }) := fin
      rw [hk'] at c0
      rw [if_neg (by simp [hk'])]
      clear fin hk hk' hp
      generalize s.H i = hi at *
      go_enter Tryz.func107, Tryz.ntmps107
      go_wp2
      go_ret
      exact ⟨rfl, HF.out, ((Kp.refl _ _).set _ _).set _ _⟩
end Go.Proofs.YtkafkipjedpohaaGreatDoor

/-
  The walks of package check's flow: leastWaiting.
-/
namespace Go.Proofs.YtkafkipjedpohaaGreatDoor
open Go.RowKit

/-- What check.leastWaiting answers. -/
def lwV (s : St) (n : Nat) : Value := .tuple #[.int .i64 (if leastP (waits s) n < n then (leastP (waits s) n : Int) else 0), .bool (decide (leastP (waits s) n < n))]

set_option maxHeartbeats 1000000 in
theorem leastWaiting_any (b n : Nat) (s : St) (w : World) (hp : PlacesAt w b n s) (hn : n ≤ 64) :
    Calls Tryz.prog 94 #[.slice (some ⟨b, 0, none⟩) n n] w fun e w' =>
      e = .returned (lwV s n) ∧ Below w.heap.size w w' := by
  have hb : b < w.heap.size := World.rowIs.lt hp
  go_enter Tryz.func94, Tryz.ntmps94
  go_wp2
  go_loopw [8] (fun i wr => ∃ k : Nat, k ≤ n ∧ i = .int .i64 k ∧ (∀ j, j < k → waits s j = false) ∧ Below w.heap.size w wr) (fun i _ => n - (intOf i).toNat)
  case atStart => exact ⟨0, Nat.zero_le _, rfl, fun j hj => by omega, Below.refl _ _⟩
  case round =>
    obtain ⟨k, hk, rfl, hno, hB⟩ := hrel
    by_cases hlt : k < n
    · have c0 : wr.cell? ⟨b, k * 3, none⟩ = some (.bool (s.K k)) := (hB.cell (p := ⟨b, _, none⟩) hb).trans (hp.K hlt)
      have c1 : wr.cell? ⟨b, k * 3 + 1, none⟩ = some (.bool (s.L k)) := (hB.cell (p := ⟨b, _, none⟩) hb).trans (hp.L hlt)
      have c2 : wr.cell? ⟨b, k * 3 + 2, none⟩ = some (.int .i64 (s.H k)) := (hB.cell (p := ⟨b, _, none⟩) hb).trans (hp.H hlt)
      have hz := hB.size
      have HN : Hid (∀ j, j < k → waits s j = false) := hno
      clear hno
      cases hK : s.K k
      · have HS : Hid (∀ j, j < k + 1 → waits s j = false) := fun j hj => by
          by_cases e : j = k
          · rw [e]; simp [waits, hK]
          · exact HN.out j (by omega)
        rw [hK] at c0
        clear hK HN
        generalize s.L k = lk at *
        generalize s.H k = hk' at *
        go_wp2
        go_roundw
        case rel => exact ⟨k + 1, by omega, by go_num, HS.out, by repeat (first | exact hB | refine Below.alloc ?_ (by first | omega | (simp; omega)) _)⟩
        case measure => simp [intOf]; omega
      · cases hL : s.L k
        · have HS : Hid (leastP (waits s) n = k) := leastP_eq _ _ _ hlt (by simp [waits, hK, hL]) HN.out
          rw [hK] at c0
          rw [hL] at c1
          clear hK hL HN
          generalize s.H k = hk' at *
          go_wp2
          go_ret2
          refine ⟨?_, by repeat (first | exact hB | refine Below.alloc ?_ (by first | omega | (simp; omega)) _)⟩
          unfold lwV
          rw [HS.out]
          simp [hlt]
        · have HS : Hid (∀ j, j < k + 1 → waits s j = false) := fun j hj => by
            by_cases e : j = k
            · rw [e]; simp [waits, hL]
            · exact HN.out j (by omega)
          rw [hK] at c0
          rw [hL] at c1
          clear hK hL HN
          generalize s.H k = hk' at *
          go_wp2
          go_roundw
          case rel => exact ⟨k + 1, by omega, by go_num, HS.out, by repeat (first | exact hB | refine Below.alloc ?_ (by first | omega | (simp; omega)) _)⟩
          case measure => simp [intOf]; omega
    · have HS : Hid (leastP (waits s) n = n) := leastP_none _ _ (fun j hj => hno j (by omega))
      clear hno
      go_wp2
      go_ret2
      refine ⟨?_, hB⟩
      unfold lwV
      rw [HS.out]
      simp
end Go.Proofs.YtkafkipjedpohaaGreatDoor

/-
  The walk of check.look.
-/
namespace Go.Proofs.YtkafkipjedpohaaGreatDoor
open Go.RowKit

theorem hid {p : Prop} (h : p) : Hid p := h
theorem PlacesAt.alloc {w : World} {b n : Nat} {s : St} (h : PlacesAt w b n s) (o : Obj) : PlacesAt (w.alloc o) b n s := World.rowIs.alloc h o
theorem PlacesAt.drewN {w : World} {b n : Nat} {s : St} (h : PlacesAt w b n s) (k : Nat) : PlacesAt (w.drewN k) b n s := h
theorem Kp.drewN {b : Nat} {u w : World} (h : Kp b u w) (k : Nat) : Kp b u (w.drewN k) := ⟨h.os, h.tape, h.output, h.size, h.block⟩
theorem PlacesAt.below {w w' : World} {B b n : Nat} {s : St} (h : PlacesAt w b n s) (k : Below B w w') (hb : b < B) : PlacesAt w' b n s := World.rowIs.of_block h (k.block b hb)

theorem afterP_nonneg {op a : Int} {i : Nat} (hj : op = 10 ∨ op = 11 → 0 ≤ a) : ∀ t, t ∈ afterP op a i → 0 ≤ t := by
  intro t ht
  unfold afterP at ht
  split at ht
  · simp at ht
  · split at ht
    · simp at ht; subst ht; exact hj (Or.inl (by assumption))
    · split at ht
      · simp at ht
        rcases ht with rfl | rfl
        · omega
        · exact hj (Or.inr (by assumption))
      · simp at ht; omega
theorem afterP_len (op a : Int) (i : Nat) : (afterP op a i).length ≤ 2 := by unfold afterP; split <;> (try split) <;> (try split) <;> simp
theorem getD_lt (l : List Int) (k : Nat) (h : k < l.length) : l.getD k 0 = l[k] := by simp [List.getD_eq_getElem?_getD, h]
theorem reachAll_drop (n : Nat) (h : Int) (l : List Int) (s : St) (k : Nat) (hk : k < l.length) :
    reachAll n h (l.drop k) s = if (reachP n s (l.getD k 0) h).1 = 0 then reachAll n h (l.drop (k + 1)) (reachP n s (l.getD k 0) h).2 else reachP n s (l.getD k 0) h := by
  rw [List.drop_eq_getElem_cons hk, reachAll, getD_lt l k hk]
theorem reachAll_end (n : Nat) (h : Int) (l : List Int) (s : St) : reachAll n h (l.drop l.length) s = (0, s) := by simp [reachAll]

theorem IntsAt.kp {w w' : World} {c b : Nat} {l : List Int} (h : IntsAt w b l) (k : Kp c w w') (hb : b < w.heap.size) (hc : b ≠ c) : IntsAt w' b l :=
  fun j hj => (k.cell (p := ⟨b, _, none⟩) hb hc).trans (h j hj)

set_option maxHeartbeats 1000000 in
theorem look_any (cb co cc b n i : Nat) (op ar : Nat → Int) (s : St) (w : World) (hc : CodeAt w cb co n op ar) (hcb : cb < w.heap.size) (hne : ¬ cb = b) (hp : PlacesAt w b n s) (ht : TabAt w) (h0b : ¬ 0 = b) (hs : HB s) (hi : i < n) (hn : n ≤ 64)
    (ho : 0 ≤ op i ∧ op i < 22) (h13 : op i = 13 → 0 ≤ ar i ∧ ar i ≤ 8) (hj : op i = 10 ∨ op i = 11 → 0 ≤ ar i ∧ ar i < n) :
    Calls Tryz.prog 95 #[.slice (some ⟨cb, co, none⟩) n cc, .slice (some ⟨b, 0, none⟩) n n, .int .i64 i] w fun e w' =>
      e = .returned (.int .i64 (lookP n op ar s i).1) ∧ PlacesAt w' b n (lookP n op ar s i).2 ∧ Kp b w w' := by
  have hb : b < w.heap.size := World.rowIs.lt hp
  obtain ⟨x0, x1⟩ := hc i hi
  have fz : ∀ o, w.frozen? ⟨b, o, none⟩ = false := fun o => World.rowIs.frozen hp o
  have l1 := hp.L hi
  have hp1 := hp.setL i true
  have hk1 : Kp b w (w.setCell ⟨b, i * 3 + 1, none⟩ (.bool true)) := (Kp.refl b w).set _ _
  have ht1 := ht.kp hk1 (by omega) h0b
  have HP : Hid (PlacesAt (w.setCell ⟨b, i * 3 + 1, none⟩ (.bool true)) b n { s with L := upd s.L i true } ∧ Kp b w (w.setCell ⟨b, i * 3 + 1, none⟩ (.bool true)) ∧ TabAt (w.setCell ⟨b, i * 3 + 1, none⟩ (.bool true)) ∧ CodeAt w cb co n op ar ∧ HB s) := ⟨hp1, hk1, ht1, hc, hs⟩
  clear hp1 hk1 ht1 hp ht hc hs
  have hsz : (w.setCell ⟨b, i * 3 + 1, none⟩ (.bool true)).heap.size = w.heap.size := by simp [World.setCell]
  have hpb := popsP_bd h13
  have hqb := pushesP_bd (op i)
  have hHi := HP.out.2.2.2.2 i
  go_enter Tryz.func95, Tryz.ntmps95
  go_wp2_with fail
  refine (effectOf_any _ _ _ HP.out.2.2.1 ho.1 ho.2 h13 (by omega)).mono ?_
  rintro e w2 ⟨rfl, hB2⟩
  obtain ⟨hp1, hk1, ht1, hc, hs⟩ := HP.out
  have hp2 := hp1.below hB2 (by omega)
  have hk2 : Kp b w w2 := hk1.trans (Kp.of_below hB2)
  have y0 : w2.cell? ⟨cb, co + i * 2, none⟩ = some (.int .i64 (op i)) := ((hc.kp hk2 hcb hne) i hi).1
  have y1 : w2.cell? ⟨cb, co + i * 2 + 1, none⟩ = some (.int .i64 (ar i)) := ((hc.kp hk2 hcb hne) i hi).2
  have y2 : w2.cell? ⟨b, i * 3 + 2, none⟩ = some (.int .i64 (s.H i)) := hp2.H hi
  have hsz2 : w.heap.size ≤ w2.heap.size := hk2.size
  have hb2 : b < w2.heap.size := by omega
  have hcb2 : cb < w2.heap.size := by omega
  clear HP x0 x1 l1 hB2 hp1 hk1 ht1 hc hsz fz
  have hs1 : HB { s with L := upd s.L i true } := hs
  clear hs
  by_cases hA : s.H i < popsP (op i) (ar i)
  · have HL : Hid (lookP n op ar s i = (4, { s with L := upd s.L i true })) := by unfold Hid lookP; rw [if_pos hA]
    have HP2 : Hid (PlacesAt w2 b n { s with L := upd s.L i true } ∧ Kp b w w2) := ⟨hp2, hk2⟩
    clear hp2 hk2 hs1
    generalize popsP (op i) (ar i) = pp at *
    generalize pushesP (op i) = qq at *
    generalize s.H i = hh at *
    go_wp2
    go_quiet (fail)
    go_wp2
    go_ret
    rw [HL.out]
    exact ⟨rfl, (HP2.out.1.alloc _).drewN _, (HP2.out.2.alloc _).drewN _⟩
  · by_cases hC : 16 < s.H i - popsP (op i) (ar i) + pushesP (op i)
    · have HL : Hid (lookP n op ar s i = (4, { s with L := upd s.L i true })) := by unfold Hid lookP; rw [if_neg hA, if_pos hC]
      have HP2 : Hid (PlacesAt w2 b n { s with L := upd s.L i true } ∧ Kp b w w2) := ⟨hp2, hk2⟩
      clear hp2 hk2 hs1
      generalize popsP (op i) (ar i) = pp at *
      generalize pushesP (op i) = qq at *
      generalize s.H i = hh at *
      go_wp2
      go_quiet (fail)
      go_wp2
      go_quiet (fail)
      go_wp2
      go_ret
      rw [HL.out]
      exact ⟨rfl, (HP2.out.1.alloc _).drewN _, (HP2.out.2.alloc _).drewN _⟩
    · have HL : Hid (lookP n op ar s i = reachAll n (s.H i - popsP (op i) (ar i) + pushesP (op i)) (afterP (op i) (ar i) i) { s with L := upd s.L i true }) := by unfold Hid lookP; rw [if_neg hA, if_neg hC]
      have HP2 : Hid (PlacesAt w2 b n { s with L := upd s.L i true } ∧ Kp b w w2 ∧ HB { s with L := upd s.L i true }) := ⟨hp2, hk2, hs1⟩
      clear hp2 hk2 hs1
      generalize popsP (op i) (ar i) = pp at *
      generalize pushesP (op i) = qq at *
      generalize s.H i = hh at *
      go_wp2
      go_quiet (fail)
      go_wp2
      go_quiet (fail)
      go_wp2_with fail
      refine (follows_any _ _ _ _ (by omega)).mono ?_
      rintro e w3 ⟨p, c, rfl, hB3, hG⟩
      obtain ⟨hp2, hk2, hs1⟩ := HP2.out
      have hp3 : PlacesAt w3 b n { s with L := upd s.L i true } := ((hp2.alloc _).drewN _).below hB3 (by simp; omega)
      have hk3 : Kp b w w3 := ((hk2.alloc _).drewN _).trans (Kp.of_below hB3)
      have hnn := afterP_nonneg (i := i) (fun hx => (hj hx).1)
      have hln := afterP_len (op i) (ar i) i
      have hsz3 : w2.heap.size + 1 ≤ w3.heap.size := by have := hB3.size; simpa using this
      clear HP2 hp2 hk2 hB3 y0 y1 y2 hcb2
      generalize { s with L := upd s.L i true } = s1 at *
      generalize afterP (op i) (ar i) i = l at *
      clear ho h13 hj
      rcases hG with rfl | ⟨bl, hbl, hbl3, rfl, hI⟩
      · have HF : Hid (PlacesAt w3 b n s1 ∧ Kp b w w3) := ⟨hp3, hk3⟩
        clear hp3 hk3 hnn hs1
        go_wp2
        go_loopw [49] (fun j wr => j = .int .i64 0 ∧ wr = w3) (fun _ _ => 0)
        case atStart => exact ⟨rfl, rfl⟩
        case round =>
          obtain ⟨rfl, rfl⟩ := hrel
          go_wp2
          go_ret
          rw [HL.out]
          exact ⟨rfl, HF.out⟩
      · have hblb : ¬ bl = b := by simp at hbl; omega
        have hblw : w2.heap.size + 1 ≤ bl := by simpa using hbl
        have HF : Hid ((∀ t, t ∈ l → 0 ≤ t) ∧ HB s1) := ⟨hnn, hs1⟩
        clear hbl hnn hs1
        have h16 : 0 ≤ hh - pp + qq := by omega
        generalize hh - pp + qq = ht at *
        go_wp2
        go_loopw [49] (fun j wr => ∃ (k : Nat) (sk : St), k ≤ l.length ∧ j = .int .i64 k ∧ reachAll n ht l s1 = reachAll n ht (l.drop k) sk ∧ PlacesAt wr b n sk ∧ Kp b w wr ∧ IntsAt wr bl l ∧ bl < wr.heap.size) (fun j _ => l.length - (intOf j).toNat)
        case atStart => exact ⟨0, s1, Nat.zero_le _, rfl, rfl, hp3, hk3, hI, hbl3⟩
        case round =>
          obtain ⟨k, sk, hk, rfl, hR, hpk, hkk, hIk, hblk⟩ := hrel
          by_cases hlt : k < l.length
          · have z := hIk k hlt
            have hz0 : 0 ≤ l.getD k 0 := HF.out.1 _ (by rw [getD_lt l k hlt]; exact List.getElem_mem _)
            have HK : Hid (reachAll n ht l s1 = reachAll n ht (l.drop k) sk ∧ PlacesAt wr b n sk ∧ Kp b w wr ∧ IntsAt wr bl l) := ⟨hR, hpk, hkk, hIk⟩
            have hst := reachAll_drop n ht l sk k hlt
            clear hR hpk hkk hIk hp3 hk3 hI
            generalize l.getD k 0 = tk at *
            have HS : Hid (reachAll n ht (l.drop k) sk = if (reachP n sk tk ht).1 = 0 then reachAll n ht (l.drop (k + 1)) (reachP n sk tk ht).2 else reachP n sk tk ht) := hst
            clear hst
            have hcon := reach_any b n sk tk ht wr HK.out.2.1 hz0
            rcases hrp : reachP n sk tk ht with ⟨er, sr⟩
            rw [hrp] at hcon
            unfold Hid at HS
            rw [hrp] at HS
            simp only at hcon HS
            have HC := hid hcon
            have HS' := hid HS
            clear hcon HS hrp
            go_wp2_with fail
            refine HC.out.mono ?_
            rintro e w4 ⟨rfl, hp4, hk4⟩
            have hk5 : Kp b w w4 := HK.out.2.2.1.trans hk4
            have hI5 : IntsAt w4 bl l := HK.out.2.2.2.kp hk4 hblk hblb
            have hb5 : bl < w4.heap.size := by have := hk4.size; omega
            have HM : Hid (PlacesAt w4 b n sr ∧ Kp b w w4 ∧ IntsAt w4 bl l) := ⟨hp4, hk5, hI5⟩
            clear hp4 hk4 hk5 hI5 HC
            by_cases her : er = 0
            · subst her
              go_wp2
              go_roundw
              case rel => exact ⟨k + 1, sr, by omega, by go_num, by rw [HK.out.1, HS'.out]; rfl, HM.out.1, HM.out.2.1, HM.out.2.2, hb5⟩
              case measure => simp [intOf]; omega
            · have hne : (er != 0) = true := by simpa using her
              have HR : Hid (lookP n op ar s i = (er, sr)) := by unfold Hid; rw [HL.out, HK.out.1, HS'.out, if_neg her]
              clear her
              go_wp2
              go_ret
              rw [HR.out]
              exact ⟨rfl, HM.out.1, HM.out.2.1⟩
          · obtain rfl : k = l.length := by omega
            have HR : Hid (lookP n op ar s i = (0, sk)) := by unfold Hid; rw [HL.out, hR, reachAll_end]
            have HM : Hid (PlacesAt wr b n sk ∧ Kp b w wr) := ⟨hpk, hkk⟩
            clear hR hpk hkk hIk hp3 hk3 hI
            go_wp2
            go_ret
            rw [HR.out]
            exact ⟨rfl, HM.out.1, HM.out.2⟩
end Go.Proofs.YtkafkipjedpohaaGreatDoor
