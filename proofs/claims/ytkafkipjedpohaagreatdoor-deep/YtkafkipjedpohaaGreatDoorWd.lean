import Derived.Test.YtkafkipjedpohaaGreatDoorProg
import Derived.Test.YtkafkipjedpohaaGreatDoorPureA
import Derived.WalkKit
import Derived.WalkSpells
import Derived.WalkLawsBesides
import Derived.Deep.OwnRows
import Derived.BigQuiet

/-
  What lies in memory: instructions, functions, the places of a flow; what a call leaves as it was.
-/
namespace Go.Proofs.YtkafkipjedpohaaGreatDoor
open Go.RowKit

/-- The table of effects, in block 0. -/
def TabAt (w : World) : Prop := ∀ o : Nat, o < 22 → w.cell? ⟨0, o * 2, none⟩ = some (.int .i64 (popsT o)) ∧ w.cell? ⟨0, o * 2 + 1, none⟩ = some (.int .i64 (pushesP o))

/-- n instructions from an address on. -/
def CodeAt (w : World) (b off n : Nat) (op ar : Nat → Int) : Prop :=
  ∀ i, i < n → w.cell? ⟨b, off + i * 2, none⟩ = some (.int .i64 (op i)) ∧ w.cell? ⟨b, off + i * 2 + 1, none⟩ = some (.int .i64 (ar i))

/-- The cells of a flow's places. -/
def plc (s : St) : Nat → Value := fun j => if j % 3 = 0 then .bool (s.K (j / 3)) else if j % 3 = 1 then .bool (s.L (j / 3)) else .int .i64 (s.H (j / 3))

theorem plc0 (s : St) (i : Nat) : plc s (i * 3) = .bool (s.K i) := by
  unfold plc; rw [if_pos (by omega), show i * 3 / 3 = i by omega]
theorem plc1 (s : St) (i : Nat) : plc s (i * 3 + 1) = .bool (s.L i) := by
  unfold plc; rw [if_neg (by omega), if_pos (by omega), show (i * 3 + 1) / 3 = i by omega]
theorem plc2 (s : St) (i : Nat) : plc s (i * 3 + 2) = .int .i64 (s.H i) := by
  unfold plc; rw [if_neg (by omega), if_neg (by omega), show (i * 3 + 2) / 3 = i by omega]

/-- The places s lie in block b. -/
def PlacesAt (w : World) (b n : Nat) (s : St) : Prop := w.rowIs b 171 (n * 3) (plc s)

theorem PlacesAt.K {w : World} {b n : Nat} {s : St} (h : PlacesAt w b n s) {i : Nat} (hi : i < n) : w.cell? ⟨b, i * 3, none⟩ = some (.bool (s.K i)) := by
  rw [← plc0]; exact World.rowIs.cell h (by omega)
theorem PlacesAt.L {w : World} {b n : Nat} {s : St} (h : PlacesAt w b n s) {i : Nat} (hi : i < n) : w.cell? ⟨b, i * 3 + 1, none⟩ = some (.bool (s.L i)) := by
  rw [← plc1]; exact World.rowIs.cell h (by omega)
theorem PlacesAt.H {w : World} {b n : Nat} {s : St} (h : PlacesAt w b n s) {i : Nat} (hi : i < n) : w.cell? ⟨b, i * 3 + 2, none⟩ = some (.int .i64 (s.H i)) := by
  rw [← plc2]; exact World.rowIs.cell h (by omega)

theorem mod_cases (j : Nat) : j = j / 3 * 3 ∨ j = j / 3 * 3 + 1 ∨ j = j / 3 * 3 + 2 := by omega

theorem PlacesAt.setK {w : World} {b n : Nat} {s : St} (h : PlacesAt w b n s) (i : Nat) (v : Bool) : PlacesAt (w.setCell ⟨b, i * 3, none⟩ (.bool v)) b n { s with K := upd s.K i v } := by
  refine World.rowIs.congr (World.rowIs.set h (i * 3) (.bool v)) fun j hj => ?_
  rcases mod_cases j with e | e | e
  · have e3 : j % 3 = 0 := by omega
    by_cases hji : j / 3 = i
    · rw [if_pos (by omega)]; simp [plc, upd, e3, hji]
    · rw [if_neg (by omega)]; simp [plc, upd, e3, hji]
  · have e3 : j % 3 = 1 := by omega
    rw [if_neg (by omega)]; simp [plc, e3]
  · have e3 : j % 3 = 2 := by omega
    rw [if_neg (by omega)]; simp [plc, e3]

theorem PlacesAt.setL {w : World} {b n : Nat} {s : St} (h : PlacesAt w b n s) (i : Nat) (v : Bool) : PlacesAt (w.setCell ⟨b, i * 3 + 1, none⟩ (.bool v)) b n { s with L := upd s.L i v } := by
  refine World.rowIs.congr (World.rowIs.set h (i * 3 + 1) (.bool v)) fun j hj => ?_
  rcases mod_cases j with e | e | e
  · have e3 : j % 3 = 0 := by omega
    rw [if_neg (by omega)]; simp [plc, e3]
  · have e3 : j % 3 = 1 := by omega
    by_cases hji : j / 3 = i
    · rw [if_pos (by omega)]; simp [plc, upd, e3, hji]
    · rw [if_neg (by omega)]; simp [plc, upd, e3, hji]
  · have e3 : j % 3 = 2 := by omega
    rw [if_neg (by omega)]; simp [plc, e3]

theorem PlacesAt.setH {w : World} {b n : Nat} {s : St} (h : PlacesAt w b n s) (i : Nat) (v : Int) : PlacesAt (w.setCell ⟨b, i * 3 + 2, none⟩ (.int .i64 v)) b n { s with H := upd s.H i v } := by
  refine World.rowIs.congr (World.rowIs.set h (i * 3 + 2) (.int .i64 v)) fun j hj => ?_
  rcases mod_cases j with e | e | e
  · have e3 : j % 3 = 0 := by omega
    rw [if_neg (by omega)]; simp [plc, e3]
  · have e3 : j % 3 = 1 := by omega
    rw [if_neg (by omega)]; simp [plc, e3]
  · have e3 : j % 3 = 2 := by omega
    by_cases hji : j / 3 = i
    · rw [if_pos (by omega)]; simp [plc, upd, e3, hji]
    · rw [if_neg (by omega)]; simp [plc, upd, e3, hji]

/-- All that was there but block b is as it was. -/
structure Kp (b : Nat) (w w' : World) : Prop where
  os : w'.os = w.os
  tape : w'.tape = w.tape
  output : w'.output = w.output
  size : w.heap.size ≤ w'.heap.size
  block : ∀ k, k < w.heap.size → k ≠ b → w'.heap[k]? = w.heap[k]?

theorem Kp.refl (b : Nat) (w : World) : Kp b w w := ⟨rfl, rfl, rfl, Nat.le_refl _, fun _ _ _ => rfl⟩
theorem Kp.trans {b : Nat} {u v w : World} (h : Kp b u v) (k : Kp b v w) : Kp b u w :=
  ⟨k.os.trans h.os, k.tape.trans h.tape, k.output.trans h.output, Nat.le_trans h.size k.size, fun i hi hb => (k.block i (Nat.lt_of_lt_of_le hi h.size) hb).trans (h.block i hi hb)⟩
theorem Kp.of_below {b : Nat} {w w' : World} (h : Below w.heap.size w w') : Kp b w w' := ⟨h.os, h.tape, h.output, h.size, fun k hk _ => h.block k hk⟩
theorem Kp.alloc {b : Nat} {u w : World} (h : Kp b u w) (o : Obj) : Kp b u (w.alloc o) :=
  h.trans ⟨rfl, rfl, rfl, by simp, fun k hk _ => Below.heap_alloc _ _ _ hk⟩
theorem Kp.set {b : Nat} {u w : World} (h : Kp b u w) (o : Nat) (v : Value) : Kp b u (w.setCell ⟨b, o, none⟩ v) :=
  h.trans ⟨rfl, rfl, rfl, by simp [World.setCell], fun k _ hb => Below.heap_setCell _ _ _ _ hb⟩
theorem Kp.cell {b : Nat} {w w' : World} (h : Kp b w w') {p : Addr} (hp : p.block < w.heap.size) (hb : p.block ≠ b) : w'.cell? p = w.cell? p := World.cell?_of_block (w := w) (h.block p.block hp hb)
theorem Kp.below {b B : Nat} {w w' : World} (h : Kp b w w') (hB : B ≤ b) (hw : B ≤ w.heap.size) : Below B w w' := ⟨h.os, h.tape, h.output, h.size, fun k hk => h.block k (by omega) (by omega)⟩

theorem CodeAt.below {w w' : World} {B b off n : Nat} {op ar : Nat → Int} (h : CodeAt w b off n op ar) (k : Below B w w') (hb : b < B) : CodeAt w' b off n op ar :=
  fun i hi => ⟨(k.cell (p := ⟨b, _, none⟩) hb).trans (h i hi).1, (k.cell (p := ⟨b, _, none⟩) hb).trans (h i hi).2⟩
theorem CodeAt.kp {w w' : World} {c b off n : Nat} {op ar : Nat → Int} (h : CodeAt w b off n op ar) (k : Kp c w w') (hb : b < w.heap.size) (hc : b ≠ c) : CodeAt w' b off n op ar :=
  fun i hi => ⟨(k.cell (p := ⟨b, _, none⟩) hb hc).trans (h i hi).1, (k.cell (p := ⟨b, _, none⟩) hb hc).trans (h i hi).2⟩
theorem TabAt.below {w w' : World} {B : Nat} (h : TabAt w) (k : Below B w w') (hb : 0 < B) : TabAt w' :=
  fun i hi => ⟨(k.cell (p := ⟨0, _, none⟩) hb).trans (h i hi).1, (k.cell (p := ⟨0, _, none⟩) hb).trans (h i hi).2⟩
theorem TabAt.kp {w w' : World} {c : Nat} (h : TabAt w) (k : Kp c w w') (hb : 0 < w.heap.size) (hc : 0 ≠ c) : TabAt w' :=
  fun i hi => ⟨(k.cell (p := ⟨0, _, none⟩) hb hc).trans (h i hi).1, (k.cell (p := ⟨0, _, none⟩) hb hc).trans (h i hi).2⟩

theorem ret_bool {a b : Bool} (h : a = b) : Ending.returned (.bool a) = .returned (.bool b) := by rw [h]
end Go.Proofs.YtkafkipjedpohaaGreatDoor

/-
  The walks of package check's small functions.
-/
namespace Go.Proofs.YtkafkipjedpohaaGreatDoor
open Go.RowKit

set_option maxHeartbeats 400000 in
theorem within_any (n a b : Int) (w : World) :
    Calls Tryz.prog 48 #[.int .i64 n, .int .i64 a, .int .i64 b] w fun e w' => e = .returned (.bool (decide (a ≤ n ∧ n ≤ b))) ∧ w' = w := by
  by_cases h1 : a ≤ n
  · go_enter Tryz.func48, Tryz.ntmps48
    go_wp2
    go_ret
    exact ⟨by simp [h1], rfl⟩
  · have h1' : decide (a ≤ n) = false := by simpa using h1
    go_enter Tryz.func48, Tryz.ntmps48
    go_wp2
    go_ret
    exact ⟨by simp, rfl⟩

set_option maxHeartbeats 400000 in
theorem known_any (n : Int) (w : World) :
    Calls Tryz.prog 71 #[.int .i64 n] w fun e w' => e = .returned (.bool (decide (0 ≤ n ∧ n < 22))) ∧ w' = w := by
  by_cases h1 : 0 ≤ n
  · go_enter Tryz.func71, Tryz.ntmps71
    go_wp2
    go_ret
    exact ⟨by simp [h1], rfl⟩
  · have h1' : decide (0 ≤ n) = false := by simpa using h1
    go_enter Tryz.func71, Tryz.ntmps71
    go_wp2
    go_ret
    exact ⟨by simp, rfl⟩

set_option maxHeartbeats 400000 in
theorem indexes_any (a n : Int) (w : World) :
    Calls Tryz.prog 93 #[.int .i64 a, .int .i64 n] w fun e w' => e = .returned (.bool (decide (0 ≤ a ∧ a < n))) ∧ w' = w := by
  by_cases h1 : 0 ≤ a
  · go_enter Tryz.func93, Tryz.ntmps93
    go_wp2
    go_ret
    exact ⟨by simp [h1], rfl⟩
  · have h1' : decide (0 ≤ a) = false := by simpa using h1
    go_enter Tryz.func93, Tryz.ntmps93
    go_wp2
    go_ret
    exact ⟨by simp, rfl⟩

set_option maxHeartbeats 400000 in
theorem sizesFit_any (ag lc : Int) (ca : Option Addr) (cn cc : Nat) (w : World) :
    Calls Tryz.prog 70 #[.agg #[.int .i64 ag, .int .i64 lc, .slice ca cn cc]] w fun e w' =>
      e = .returned (.bool (decide (0 ≤ lc ∧ lc ≤ 8) && decide (0 ≤ ag ∧ ag ≤ lc) && decide (1 ≤ cn ∧ cn ≤ 64))) ∧ Below w.heap.size w w' := by
  go_enter Tryz.func70, Tryz.ntmps70
  go_wp2_with (go_at_call 48; refine (within_any _ _ _ _).mono ?_; rintro e w' ⟨rfl, rfl⟩)
  all_goals go_ret
  all_goals refine ⟨ret_bool ?_, by repeat (first | exact Below.refl _ _ | refine Below.alloc ?_ (by simp <;> omega) _)⟩
  all_goals (rw [Bool.eq_iff_iff]; simp_all <;> omega)

set_option maxHeartbeats 1000000 in
theorem operandFits_any (op a ag lc : Int) (ca : Option Addr) (cn cc : Nat) (m : Int) (w : World) :
    Calls Tryz.prog 72 #[.agg #[.int .i64 op, .int .i64 a], .agg #[.int .i64 ag, .int .i64 lc, .slice ca cn cc], .int .i64 m] w fun e w' =>
      e = .returned (.bool (fitsP op a lc cn m)) ∧ Below w.heap.size w w' := by
  go_enter Tryz.func72, Tryz.ntmps72
  go_wp2_with (go_at_call 93; refine (indexes_any _ _ _).mono ?_; rintro e w' ⟨rfl, rfl⟩)
  all_goals go_ret
  all_goals (refine ⟨ret_bool ?_, by repeat (first | exact Below.refl _ _ | refine Below.alloc ?_ (by simp <;> omega) _)⟩)
  all_goals (unfold fitsP; simp_all)

/-- What check.effectOf answers. -/
theorem tab_read {w : World} (h : TabAt w) {op : Int} (h0 : 0 ≤ op) (h1 : op < 22) : w.cell? ⟨0, op.toNat * 2, none⟩ = some (.int .i64 (popsT op)) ∧ w.cell? ⟨0, op.toNat * 2 + 1, none⟩ = some (.int .i64 (pushesP op)) := by
  obtain ⟨n, rfl⟩ := Int.eq_ofNat_of_zero_le h0
  exact h n (by omega)

set_option maxHeartbeats 1000000 in
theorem effectOf_any (op a : Int) (w : World) (ht : TabAt w) (h0 : 0 ≤ op) (h1 : op < 22) (h13 : op = 13 → 0 ≤ a ∧ a ≤ 8) (hw : 0 < w.heap.size) :
    Calls Tryz.prog 105 #[.agg #[.int .i64 op, .int .i64 a]] w fun e w' =>
      e = .returned (.agg #[.int .i64 (popsP op a), .int .i64 (pushesP op)]) ∧ Below w.heap.size w w' := by
  obtain ⟨t0, t1⟩ := tab_read ht h0 h1
  by_cases h : op = 13
  · obtain ⟨a0, a8⟩ := h13 h
    subst h
    have t0' : w.cell? ⟨0, 26, none⟩ = some (.int .i64 1) := t0
    have t1' : w.cell? ⟨0, 27, none⟩ = some (.int .i64 1) := t1
    clear ht h13 t0 t1
    go_enter Tryz.func105, Tryz.ntmps105
    go_wp2
    exact bodyPost_ret (v := .agg #[.int .i64 (1 + a), .int .i64 1]) (by simp [results, Tryz.results105, go_sem]) rfl ⟨by simp [popsP, pushesP], by repeat (first | exact Below.refl _ _ | refine Below.alloc ?_ (by simp <;> omega) _)⟩
  · have hb : (op == 13) = false := by simpa using h
    have hp : popsT op = popsP op a := by unfold popsP; rw [if_neg h]
    rw [hp] at t0
    generalize popsP op a = pp at *
    generalize pushesP op = qq at *
    clear ht h13 h hp
    go_enter Tryz.func105, Tryz.ntmps105
    go_wp2
    exact bodyPost_ret (v := .agg #[.int .i64 pp, .int .i64 qq]) (by simp [results, Tryz.results105, go_sem]) rfl ⟨rfl, by repeat (first | exact Below.refl _ _ | refine Below.alloc ?_ (by simp <;> omega) _)⟩
end Go.Proofs.YtkafkipjedpohaaGreatDoor

/-
  The walks of package check's flow: follows, reach.
-/
namespace Go.Proofs.YtkafkipjedpohaaGreatDoor
open Go.RowKit

/-- The ints of a list lie in block b, from its cell 0 on. -/
def IntsAt (w : World) (b : Nat) (l : List Int) : Prop := ∀ j, j < l.length → w.cell? ⟨b, j, none⟩ = some (.int .i64 (l.getD j 0))

theorem ints_one (w : World) (x : Int) (t : TypeId) (B : Nat) (hB : B = w.heap.size) : IntsAt (w.alloc (.cells #[.int .i64 x] t)) B [x] := by
  subst hB
  intro j hj
  obtain rfl : j = 0 := by simpa using hj
  unfold World.cell?; rw [Go.Deep.blk_alloc_new]; rfl
theorem ints_two (w : World) (x y : Int) (t : TypeId) (B : Nat) (hB : B = w.heap.size) : IntsAt (w.alloc (.cells #[.int .i64 x, .int .i64 y] t)) B [x, y] := by
  subst hB
  intro j hj
  have : j = 0 ∨ j = 1 := by simp at hj; omega
  rcases this with rfl | rfl <;> (unfold World.cell?; rw [Go.Deep.blk_alloc_new]; rfl)

/-- What a list of where to go is: nil, or ints in a new block. -/
def GoesTo (w w' : World) (p : Option Addr) (l : List Int) : Prop := l = [] ∨ ∃ b, w.heap.size ≤ b ∧ b < w'.heap.size ∧ p = some ⟨b, 0, none⟩ ∧ IntsAt w' b l

set_option maxHeartbeats 1000000 in
theorem follows_any (op a : Int) (i : Nat) (w : World) (hi : i < 64) :
    Calls Tryz.prog 106 #[.agg #[.int .i64 op, .int .i64 a], .int .i64 i] w fun e w' =>
      ∃ p c, e = .returned (.slice p (afterP op a i).length c) ∧ Below w.heap.size w w' ∧ GoesTo w w' p (afterP op a i) := by
  by_cases h1 : op = 14
  · subst h1
    have hl : afterP 14 a i = [] := by simp [afterP]
    rw [hl]
    go_enter Tryz.func106, Tryz.ntmps106
    go_wp2
    go_ret
    exact ⟨_, _, rfl, (Below.refl _ _).alloc (Nat.le_refl _) _, Or.inl rfl⟩
  · have b1 : (op == 14) = false := by simpa using h1
    by_cases h2 : op = 10
    · subst h2
      have hl : afterP 10 a i = [a] := by simp [afterP]
      rw [hl]
      clear hl h1
      go_enter Tryz.func106, Tryz.ntmps106
      go_wp2
      go_ret
      exact ⟨_, _, rfl, ((Below.refl _ _).alloc (Nat.le_refl _) _).alloc (by simp) _, Or.inr ⟨w.heap.size + 1, by omega, by simp, rfl, ints_one (w.alloc _) a 3 _ (by simp)⟩⟩
    · have b2 : (op == 10) = false := by simpa using h2
      by_cases h3 : op = 11
      · subst h3
        have hl : afterP 11 a i = [(i : Int) + 1, a] := by simp [afterP]
        rw [hl]
        clear hl h1
        go_enter Tryz.func106, Tryz.ntmps106
        go_wp2
        go_ret
        exact ⟨_, _, rfl, ((Below.refl _ _).alloc (Nat.le_refl _) _).alloc (by simp) _, Or.inr ⟨w.heap.size + 1, by omega, by simp, rfl, ints_two (w.alloc _) _ a 3 _ (by simp)⟩⟩
      · have b3 : (op == 11) = false := by simpa using h3
        have hl : afterP op a i = [(i : Int) + 1] := by simp [afterP, h1, h2, h3]
        rw [hl]
        clear hl h1 h2 h3
        go_enter Tryz.func106, Tryz.ntmps106
        go_wp2
        go_ret
        exact ⟨_, _, rfl, ((Below.refl _ _).alloc (Nat.le_refl _) _).alloc (by simp) _, Or.inr ⟨w.heap.size + 1, by omega, by simp, rfl, ints_one (w.alloc _) _ 3 _ (by simp)⟩⟩

set_option maxHeartbeats 1000000 in
theorem reach_any (b n : Nat) (s : St) (to h : Int) (w : World) (hp : PlacesAt w b n s) (ht : 0 ≤ to) :
    Calls Tryz.prog 107 #[.slice (some ⟨b, 0, none⟩) n n, .int .i64 to, .int .i64 h] w fun e w' =>
      e = .returned (.int .i64 (reachP n s to h).1) ∧ PlacesAt w' b n (reachP n s to h).2 ∧ Kp b w w' := by
  obtain ⟨i, rfl⟩ := Int.eq_ofNat_of_zero_le ht
  unfold reachP
  by_cases hn : (n : Int) ≤ (i : Int)
  · rw [if_pos hn]
    go_enter Tryz.func107, Tryz.ntmps107
    go_wp2
    go_ret
    exact ⟨rfl, hp, Kp.refl _ _⟩
  · rw [if_neg hn]
    simp only [Int.toNat_natCast]
    have c0 := hp.K (i := i) (by omega)
    have c2 := hp.H (i := i) (by omega)
    have fz : ∀ o, w.frozen? ⟨b, o, none⟩ = false := fun o => World.rowIs.frozen hp o
    by_cases hk : s.K i = true
    · by_cases hh : s.H i = h
      · have fin : PlacesAt ((w.setCell ⟨b, i * 3, none⟩ (.bool true)).setCell ⟨b, i * 3 + 2, none⟩ (.int .i64 h)) b n { K := upd s.K i true, L := s.L, H := upd s.H i h } := (hp.setK i true).setH i h
        have HF : Hid (PlacesAt ((w.setCell ⟨b, i * 3, none⟩ (.bool true)).setCell ⟨b, i * 3 + 2, none⟩ (.int .i64 h)) b n { K := upd s.K i true, L := s.L, H := upd s.H i h }) := fin
        rw [hk] at c0
        rw [hh] at c2
        rw [if_neg (by simp [hh])]
        clear fin hk hh hp
        go_enter Tryz.func107, Tryz.ntmps107
        go_wp2
        go_ret
        exact ⟨rfl, HF.out, ((Kp.refl _ _).set _ _).set _ _⟩
      · have hb : (s.H i != h) = true := by simpa using hh
        rw [hk] at c0
        rw [if_pos ⟨hk, hh⟩]
        have HF : Hid (PlacesAt w b n s) := hp
        clear hk hh hp
        generalize s.H i = hi at *
        go_enter Tryz.func107, Tryz.ntmps107
        go_wp2
        go_ret
        exact ⟨rfl, HF.out, Kp.refl _ _⟩
    · have hk' : s.K i = false := by simpa using hk
      have fin : PlacesAt ((w.setCell ⟨b, i * 3, none⟩ (.bool true)).setCell ⟨b, i * 3 + 2, none⟩ (.int .i64 h)) b n { K := upd s.K i true, L := s.L, H := upd s.H i h } := (hp.setK i true).setH i h
      have HF : Hid (PlacesAt ((w.setCell ⟨b, i * 3, none⟩ (.bool true)).setCell ⟨b, i * 3 + 2, none⟩ (.int .i64 h)) b n { K := upd s.K i true, L := s.L, H := upd s.H i h }) := fin
      rw [hk'] at c0
      rw [if_neg (by simp [hk'])]
      clear fin hk hk' hp
      generalize s.H i = hi at *
      go_enter Tryz.func107, Tryz.ntmps107
      go_wp2
      go_ret
      exact ⟨rfl, HF.out, ((Kp.refl _ _).set _ _).set _ _⟩
end Go.Proofs.YtkafkipjedpohaaGreatDoor

/-
  The walks of package check's flow: leastWaiting.
-/
namespace Go.Proofs.YtkafkipjedpohaaGreatDoor
open Go.RowKit

/-- What check.leastWaiting answers. -/
def lwV (s : St) (n : Nat) : Value := .tuple #[.int .i64 (if leastP (waits s) n < n then (leastP (waits s) n : Int) else 0), .bool (decide (leastP (waits s) n < n))]

set_option maxHeartbeats 1000000 in
theorem leastWaiting_any (b n : Nat) (s : St) (w : World) (hp : PlacesAt w b n s) (hn : n ≤ 64) :
    Calls Tryz.prog 94 #[.slice (some ⟨b, 0, none⟩) n n] w fun e w' =>
      e = .returned (lwV s n) ∧ Below w.heap.size w w' := by
  have hb : b < w.heap.size := World.rowIs.lt hp
  go_enter Tryz.func94, Tryz.ntmps94
  go_wp2
  go_loopw [8] (fun i wr => ∃ k : Nat, k ≤ n ∧ i = .int .i64 k ∧ (∀ j, j < k → waits s j = false) ∧ Below w.heap.size w wr) (fun i _ => n - (intOf i).toNat)
  case atStart => exact ⟨0, Nat.zero_le _, rfl, fun j hj => by omega, Below.refl _ _⟩
  case round =>
    obtain ⟨k, hk, rfl, hno, hB⟩ := hrel
    by_cases hlt : k < n
    · have c0 : wr.cell? ⟨b, k * 3, none⟩ = some (.bool (s.K k)) := (hB.cell (p := ⟨b, _, none⟩) hb).trans (hp.K hlt)
      have c1 : wr.cell? ⟨b, k * 3 + 1, none⟩ = some (.bool (s.L k)) := (hB.cell (p := ⟨b, _, none⟩) hb).trans (hp.L hlt)
      have c2 : wr.cell? ⟨b, k * 3 + 2, none⟩ = some (.int .i64 (s.H k)) := (hB.cell (p := ⟨b, _, none⟩) hb).trans (hp.H hlt)
      have hz := hB.size
      have HN : Hid (∀ j, j < k → waits s j = false) := hno
      clear hno
      cases hK : s.K k
      · have HS : Hid (∀ j, j < k + 1 → waits s j = false) := fun j hj => by
          by_cases e : j = k
          · rw [e]; simp [waits, hK]
          · exact HN.out j (by omega)
        rw [hK] at c0
        clear hK HN
        generalize s.L k = lk at *
        generalize s.H k = hk' at *
        go_wp2
        go_roundw
        case rel => exact ⟨k + 1, by omega, by go_num, HS.out, by repeat (first | exact hB | refine Below.alloc ?_ (by first | omega | (simp; omega)) _)⟩
        case measure => simp [intOf]; omega
      · cases hL : s.L k
        · have HS : Hid (leastP (waits s) n = k) := leastP_eq _ _ _ hlt (by simp [waits, hK, hL]) HN.out
          rw [hK] at c0
          rw [hL] at c1
          clear hK hL HN
          generalize s.H k = hk' at *
          go_wp2
          go_ret2
          refine ⟨?_, by repeat (first | exact hB | refine Below.alloc ?_ (by first | omega | (simp; omega)) _)⟩
          unfold lwV
          rw [HS.out]
          simp [hlt]
        · have HS : Hid (∀ j, j < k + 1 → waits s j = false) := fun j hj => by
            by_cases e : j = k
            · rw [e]; simp [waits, hL]
            · exact HN.out j (by omega)
          rw [hK] at c0
          rw [hL] at c1
          clear hK hL HN
          generalize s.H k = hk' at *
          go_wp2
          go_roundw
          case rel => exact ⟨k + 1, by omega, by go_num, HS.out, by repeat (first | exact hB | refine Below.alloc ?_ (by first | omega | (simp; omega)) _)⟩
          case measure => simp [intOf]; omega
    · have HS : Hid (leastP (waits s) n = n) := leastP_none _ _ (fun j hj => hno j (by omega))
      clear hno
      go_wp2
      go_ret2
      refine ⟨?_, hB⟩
      unfold lwV
      rw [HS.out]
      simp
end Go.Proofs.YtkafkipjedpohaaGreatDoor
