/-
  What lies in memory: instructions, functions, the places of a flow; what a call leaves as it was.
-/
import Derived.Test.YtkpcdjoblmighaaDoorProg
import Derived.Test.YtkpcdjoblmighaaDoorPureA
import Derived.WalkKit
import Derived.WalkSpells
import Derived.WalkLawsBesides
import Derived.Deep.OwnRows
namespace Go.Proofs.YtkpcdjoblmighaaDoor
open Go.RowKit

/-- The table of effects, in block 0. -/
def TabAt (w : World) : Prop := ∀ o : Nat, o < 22 → w.cell? ⟨0, o * 2, none⟩ = some (.int .i64 (popsT o)) ∧ w.cell? ⟨0, o * 2 + 1, none⟩ = some (.int .i64 (pushesP o))

/-- n instructions from an address on. -/
def CodeAt (w : World) (b off n : Nat) (op ar : Nat → Int) : Prop :=
  ∀ i, i < n → w.cell? ⟨b, off + i * 2, none⟩ = some (.int .i64 (op i)) ∧ w.cell? ⟨b, off + i * 2 + 1, none⟩ = some (.int .i64 (ar i))

/-- The cells of a flow's places. -/
def plc (s : St) : Nat → Value := fun j => if j % 3 = 0 then .bool (s.K (j / 3)) else if j % 3 = 1 then .bool (s.L (j / 3)) else .int .i64 (s.H (j / 3))

theorem plc0 (s : St) (i : Nat) : plc s (i * 3) = .bool (s.K i) := by
  unfold plc; rw [if_pos (by omega), show i * 3 / 3 = i by omega]
theorem plc1 (s : St) (i : Nat) : plc s (i * 3 + 1) = .bool (s.L i) := by
  unfold plc; rw [if_neg (by omega), if_pos (by omega), show (i * 3 + 1) / 3 = i by omega]
theorem plc2 (s : St) (i : Nat) : plc s (i * 3 + 2) = .int .i64 (s.H i) := by
  unfold plc; rw [if_neg (by omega), if_neg (by omega), show (i * 3 + 2) / 3 = i by omega]

/-- The places s lie in block b. -/
def PlacesAt (w : World) (b n : Nat) (s : St) : Prop := w.rowIs b 63 (n * 3) (plc s)

theorem PlacesAt.K {w : World} {b n : Nat} {s : St} (h : PlacesAt w b n s) {i : Nat} (hi : i < n) : w.cell? ⟨b, i * 3, none⟩ = some (.bool (s.K i)) := by
  rw [← plc0]; exact World.rowIs.cell h (by omega)
theorem PlacesAt.L {w : World} {b n : Nat} {s : St} (h : PlacesAt w b n s) {i : Nat} (hi : i < n) : w.cell? ⟨b, i * 3 + 1, none⟩ = some (.bool (s.L i)) := by
  rw [← plc1]; exact World.rowIs.cell h (by omega)
theorem PlacesAt.H {w : World} {b n : Nat} {s : St} (h : PlacesAt w b n s) {i : Nat} (hi : i < n) : w.cell? ⟨b, i * 3 + 2, none⟩ = some (.int .i64 (s.H i)) := by
  rw [← plc2]; exact World.rowIs.cell h (by omega)

theorem mod_cases (j : Nat) : j = j / 3 * 3 ∨ j = j / 3 * 3 + 1 ∨ j = j / 3 * 3 + 2 := by omega

theorem PlacesAt.congr {w : World} {b n : Nat} {s t : St} (h : PlacesAt w b n s) (e : ∀ i, i < n → s.K i = t.K i ∧ s.L i = t.L i ∧ s.H i = t.H i) : PlacesAt w b n t := by
  refine World.rowIs.congr h fun j hj => ?_
  obtain ⟨e1, e2, e3⟩ := e (j / 3) (by omega)
  unfold plc; rw [e1, e2, e3]

theorem PlacesAt.setK {w : World} {b n : Nat} {s : St} (h : PlacesAt w b n s) (i : Nat) (v : Bool) : PlacesAt (w.setCell ⟨b, i * 3, none⟩ (.bool v)) b n { s with K := upd s.K i v } := by
  refine World.rowIs.congr (World.rowIs.set h (i * 3) (.bool v)) fun j hj => ?_
  rcases mod_cases j with e | e | e
  · have e3 : j % 3 = 0 := by omega
    by_cases hji : j / 3 = i
    · rw [if_pos (by omega)]; simp [plc, upd, e3, hji]
    · rw [if_neg (by omega)]; simp [plc, upd, e3, hji]
  · have e3 : j % 3 = 1 := by omega
    rw [if_neg (by omega)]; simp [plc, e3]
  · have e3 : j % 3 = 2 := by omega
    rw [if_neg (by omega)]; simp [plc, e3]

theorem PlacesAt.setL {w : World} {b n : Nat} {s : St} (h : PlacesAt w b n s) (i : Nat) (v : Bool) : PlacesAt (w.setCell ⟨b, i * 3 + 1, none⟩ (.bool v)) b n { s with L := upd s.L i v } := by
  refine World.rowIs.congr (World.rowIs.set h (i * 3 + 1) (.bool v)) fun j hj => ?_
  rcases mod_cases j with e | e | e
  · have e3 : j % 3 = 0 := by omega
    rw [if_neg (by omega)]; simp [plc, e3]
  · have e3 : j % 3 = 1 := by omega
    by_cases hji : j / 3 = i
    · rw [if_pos (by omega)]; simp [plc, upd, e3, hji]
    · rw [if_neg (by omega)]; simp [plc, upd, e3, hji]
  · have e3 : j % 3 = 2 := by omega
    rw [if_neg (by omega)]; simp [plc, e3]

theorem PlacesAt.setH {w : World} {b n : Nat} {s : St} (h : PlacesAt w b n s) (i : Nat) (v : Int) : PlacesAt (w.setCell ⟨b, i * 3 + 2, none⟩ (.int .i64 v)) b n { s with H := upd s.H i v } := by
  refine World.rowIs.congr (World.rowIs.set h (i * 3 + 2) (.int .i64 v)) fun j hj => ?_
  rcases mod_cases j with e | e | e
  · have e3 : j % 3 = 0 := by omega
    rw [if_neg (by omega)]; simp [plc, e3]
  · have e3 : j % 3 = 1 := by omega
    rw [if_neg (by omega)]; simp [plc, e3]
  · have e3 : j % 3 = 2 := by omega
    by_cases hji : j / 3 = i
    · rw [if_pos (by omega)]; simp [plc, upd, e3, hji]
    · rw [if_neg (by omega)]; simp [plc, upd, e3, hji]

/-- All that was there but block b is as it was. -/
structure Kp (b : Nat) (w w' : World) : Prop where
  os : w'.os = w.os
  tape : w'.tape = w.tape
  output : w'.output = w.output
  size : w.heap.size ≤ w'.heap.size
  block : ∀ k, k < w.heap.size → k ≠ b → w'.heap[k]? = w.heap[k]?

theorem Kp.refl (b : Nat) (w : World) : Kp b w w := ⟨rfl, rfl, rfl, Nat.le_refl _, fun _ _ _ => rfl⟩
theorem Kp.trans {b : Nat} {u v w : World} (h : Kp b u v) (k : Kp b v w) : Kp b u w :=
  ⟨k.os.trans h.os, k.tape.trans h.tape, k.output.trans h.output, Nat.le_trans h.size k.size, fun i hi hb => (k.block i (Nat.lt_of_lt_of_le hi h.size) hb).trans (h.block i hi hb)⟩
theorem Kp.of_below {b : Nat} {w w' : World} (h : Below w.heap.size w w') : Kp b w w' := ⟨h.os, h.tape, h.output, h.size, fun k hk _ => h.block k hk⟩
theorem Kp.drew {b : Nat} {u w : World} (h : Kp b u w) : Kp b u w.drew := ⟨h.os, h.tape, h.output, h.size, h.block⟩
theorem Kp.alloc {b : Nat} {u w : World} (h : Kp b u w) (o : Obj) : Kp b u (w.alloc o) :=
  h.trans ⟨rfl, rfl, rfl, by simp, fun k hk _ => Below.heap_alloc _ _ _ hk⟩
theorem Kp.set {b : Nat} {u w : World} (h : Kp b u w) (o : Nat) (v : Value) : Kp b u (w.setCell ⟨b, o, none⟩ v) :=
  h.trans ⟨rfl, rfl, rfl, by simp [World.setCell], fun k _ hb => Below.heap_setCell _ _ _ _ hb⟩
theorem Kp.setNew {b : Nat} {u w : World} (h : Kp b u w) {p : Addr} (hp : u.heap.size ≤ p.block) (v : Value) : Kp b u (w.setCell p v) :=
  ⟨h.os, h.tape, h.output, by have := h.size; simp [World.setCell]; omega, fun k hk hb => by rw [Below.heap_setCell _ _ _ _ (by omega)]; exact h.block k hk hb⟩
theorem Kp.cell {b : Nat} {w w' : World} (h : Kp b w w') {p : Addr} (hp : p.block < w.heap.size) (hb : p.block ≠ b) : w'.cell? p = w.cell? p := World.cell?_of_block (w := w) (h.block p.block hp hb)
theorem Kp.below {b B : Nat} {w w' : World} (h : Kp b w w') (hB : B ≤ b) (hw : B ≤ w.heap.size) : Below B w w' := ⟨h.os, h.tape, h.output, h.size, fun k hk => h.block k (by omega) (by omega)⟩

theorem CodeAt.below {w w' : World} {B b off n : Nat} {op ar : Nat → Int} (h : CodeAt w b off n op ar) (k : Below B w w') (hb : b < B) : CodeAt w' b off n op ar :=
  fun i hi => ⟨(k.cell (p := ⟨b, _, none⟩) hb).trans (h i hi).1, (k.cell (p := ⟨b, _, none⟩) hb).trans (h i hi).2⟩
theorem CodeAt.kp {w w' : World} {c b off n : Nat} {op ar : Nat → Int} (h : CodeAt w b off n op ar) (k : Kp c w w') (hb : b < w.heap.size) (hc : b ≠ c) : CodeAt w' b off n op ar :=
  fun i hi => ⟨(k.cell (p := ⟨b, _, none⟩) hb hc).trans (h i hi).1, (k.cell (p := ⟨b, _, none⟩) hb hc).trans (h i hi).2⟩
theorem TabAt.below {w w' : World} {B : Nat} (h : TabAt w) (k : Below B w w') (hb : 0 < B) : TabAt w' :=
  fun i hi => ⟨(k.cell (p := ⟨0, _, none⟩) hb).trans (h i hi).1, (k.cell (p := ⟨0, _, none⟩) hb).trans (h i hi).2⟩
theorem TabAt.kp {w w' : World} {c : Nat} (h : TabAt w) (k : Kp c w w') (hb : 0 < w.heap.size) (hc : 0 ≠ c) : TabAt w' :=
  fun i hi => ⟨(k.cell (p := ⟨0, _, none⟩) hb hc).trans (h i hi).1, (k.cell (p := ⟨0, _, none⟩) hb hc).trans (h i hi).2⟩

theorem ret_bool {a b : Bool} (h : a = b) : Ending.returned (.bool a) = .returned (.bool b) := by rw [h]
theorem ret_int {k : IntKind} {a b : Int} (h : a = b) : Ending.returned (.int k a) = .returned (.int k b) := by rw [h]
end Go.Proofs.YtkpcdjoblmighaaDoor
