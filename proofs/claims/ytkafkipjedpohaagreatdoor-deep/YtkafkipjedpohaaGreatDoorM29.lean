import Derived.Test.YtkafkipjedpohaaGreatDoorM27
import Derived.Test.YtkafkipjedpohaaGreatDoorPureA
import Derived.Test.YtkafkipjedpohaaGreatDoorWd
import Derived.Deep.AppendLies
import Derived.Deep.RegionHeld3
import Derived.Deep.RegionLaw

/-
  The document's fourth example, run.
-/
namespace Go.Proofs.YtkafkipjedpohaaGreatDoor
open Go.RowKit

/-- The document's fourth example. -/
def fk0 : PF := ⟨0, 0, 4, fun i => if i = 0 then 12 else if i = 1 then 0 else if i = 2 then 13 else 14, fun i => if i = 0 then 1 else if i = 1 then 7 else if i = 2 then 1 else 0⟩
def fk1 : PF := ⟨1, 1, 4, fun i => if i = 0 then 2 else if i = 1 then 2 else if i = 2 then 6 else 14, fun _ => 0⟩
def FK : Nat → PF := fun k => if k = 0 then fk0 else fk1

theorem nth_next {F : Nat → PF} {s S : Mc} {j : Nat} (h : nthP F s j = S) (h0 : S.fin = 0) : nthP F s (j + 1) = stepP F S := by
  show (if _ then _ else _) = _
  rw [h, if_pos h0]

def mcAt (fr : List Fr) (g : V) (n : Nat) (hi : List Bool) (fin : Int) : Mc := { fr := fr, arr := [], out := [], gives := g, steps := n, fin := fin, high := hi, made := fun _ => false, cH := 0, cU := 0, cD := 0 }

theorem known8 : nthP FK (startP FK) 8 = mcAt [] (vnum 49) 8 [] 1 := by
  have h0 : nthP FK (startP FK) 0 = mcAt [⟨0, 0, [], []⟩] vnil 0 [false] 0 := rfl
  have h1 := (nth_next h0 rfl).trans (show stepP FK _ = mcAt [⟨0, 1, [], [⟨3, 1⟩]⟩] vnil 1 [false] 0 from rfl)
  have h2 := (nth_next h1 rfl).trans (show stepP FK _ = mcAt [⟨0, 2, [], [vnum 7, ⟨3, 1⟩]⟩] vnil 2 [false] 0 from rfl)
  have h3 := (nth_next h2 rfl).trans (show stepP FK _ = mcAt [⟨1, 0, [vnum 7], []⟩, ⟨0, 3, [], []⟩] vnil 3 [false, false] 0 from rfl)
  have h4 := (nth_next h3 rfl).trans (show stepP FK _ = mcAt [⟨1, 1, [vnum 7], [vnum 7]⟩, ⟨0, 3, [], []⟩] vnil 4 [false, false] 0 from rfl)
  have h5 := (nth_next h4 rfl).trans (show stepP FK _ = mcAt [⟨1, 2, [vnum 7], [vnum 7, vnum 7]⟩, ⟨0, 3, [], []⟩] vnil 5 [false, false] 0 from rfl)
  have h6 := (nth_next h5 rfl).trans (show stepP FK _ = mcAt [⟨1, 3, [vnum 7], [vnum 49]⟩, ⟨0, 3, [], []⟩] vnil 6 [false, false] 0 from rfl)
  have h7 := (nth_next h6 rfl).trans (show stepP FK _ = mcAt [⟨0, 3, [], [vnum 49]⟩] vnil 7 [false] 0 from rfl)
  exact (nth_next h7 rfl).trans rfl

theorem known100 : atP FK 100 = mcAt [] (vnum 49) 8 [] 1 := by
  have e : fuelP 100 = 8 + 92 := by decide
  unfold atP
  rw [e, nth_stay (by rw [known8]; decide) 92]
  exact known8

theorem known_fine2 : ∃ K H, Fine 2 FK K H := by
  obtain ⟨K0, H0, h0⟩ := fun_fine (m := 2) (k := 0) (f := fk0) (by decide +kernel)
  obtain ⟨K1, H1, h1⟩ := fun_fine (m := 2) (k := 1) (f := fk1) (by decide +kernel)
  refine ⟨fun k => if k = 0 then K0 else K1, fun k => if k = 0 then H0 else H1, ⟨by decide, fun k hk => ?_⟩⟩
  have : k = 0 ∨ k = 1 := by omega
  rcases this with rfl | rfl
  · exact h0
  · exact h1

theorem knownRun (w : World) (cb pb po pc : Nat) (CA : Nat → Option Addr) (CC : Nat → Nat) (hc : w.cell? ⟨cb, 0, none⟩ = some (.slice (some ⟨pb, po, none⟩) 2 pc)) (_hcz : cb < w.heap.size) (hP : ProgAt w pb po 2 FK CA CC) (hcc : ∀ k, k < 2 → (FK k).cn ≤ CC k) :
    Calls Tryz.prog 19 #[.pointer (some ⟨cb, 0, none⟩), .int .i64 100] w fun e w' => ∃ p n c, e = .returned (.agg #[.int .i64 1, .int .i64 8, .int .i64 1, .int .i64 49, .slice p n c]) ∧ Below w.heap.size w w' := by
  obtain ⟨K, H, hF⟩ := known_fine2
  refine (codeRun w cb pb po pc 2 FK K H CA CC 100 hc hP hcc hF (by rw [known100]; decide)).mono ?_
  rintro e w' ⟨v, rfl, hb, ho⟩
  obtain ⟨p, c, hv, _⟩ := Row.any ho
  refine ⟨p, 0, c, ?_, hb⟩
  rw [hv, known100]
  rfl
end Go.Proofs.YtkafkipjedpohaaGreatDoor

/-
  Programs of which it is known that they may be: stretches of instructions through which the stack is as high behind as ahead; a flow over heights that are known. No Go here.
-/
namespace Go.Proofs.YtkafkipjedpohaaGreatDoor

/-- What an instruction leaves of a height. -/
def hAfter (o a h : Int) : Int := h - popsP o a + pushesP o

/-- Instructions a to b (b left out), of a program of three functions of six locals: come to with the height h, left at b with the height k. -/
structure Seg (op ar : Nat → Int) (a b : Nat) (h k : Int) (ht : Nat → Int) : Prop where
  le : a ≤ b
  fst : ht a = h
  lst : ht b = k
  ok : ∀ i, a ≤ i → i < b → legalP (op i) (ar i) 6 (b + 1) 3 = true ∧ op i ≠ 14 ∧ popsP (op i) (ar i) ≤ ht i ∧ hAfter (op i) (ar i) (ht i) ≤ 16 ∧
    ∀ t, t ∈ afterP (op i) (ar i) i → (a : Int) ≤ t ∧ t ≤ b ∧ ht t.toNat = hAfter (op i) (ar i) (ht i)
  thru : ∀ K : Nat → Bool, (∀ i, a ≤ i → i < b → K i = true → ∀ t, t ∈ afterP (op i) (ar i) i → K t.toNat = true) → K a = true → K b = true

/-- Instructions one behind the other, none of which jumps: from the height h to the height 0. -/
def Str : List (Int × Int) → Int → Prop
  | [], h => h = 0
  | x :: r, h => (x.1 ≠ 10 ∧ x.1 ≠ 11 ∧ x.1 ≠ 14) ∧ legalP x.1 x.2 6 0 3 = true ∧ popsP x.1 x.2 ≤ h ∧ hAfter x.1 x.2 h ≤ 16 ∧ Str r (hAfter x.1 x.2 h)

/-- The list x lies from a on. -/
def Lies (op ar : Nat → Int) (a : Nat) (x : List (Int × Int)) : Prop := ∀ j, j < x.length → op (a + j) = (x.getD j (0, 0)).1 ∧ ar (a + j) = (x.getD j (0, 0)).2

end Go.Proofs.YtkafkipjedpohaaGreatDoor
/-
  The programs of package upshiftkeep: lines, loops, functions. No Go here.
-/
namespace Go.Proofs.YtkafkipjedpohaaGreatDoor

/-- Which of n things the raw number c speaks of. -/
def pickP (c n : Int) : Int := (if c < 0 then -(c + 1) else c) % n
theorem pickP_bd (c : Int) {n : Int} (hn : 0 < n) : 0 ≤ pickP c n ∧ pickP c n < n := ⟨Int.emod_nonneg _ (by omega), Int.emod_lt_of_pos _ hn⟩

/-- A line, by raw numbers. -/
structure Ln where
  i : Int
  kind : Int
  p : Int
  q : Int
  r : Int
  loop : Int
  num : Int

/-- The loads of a call's arguments. -/
def loadsP (p : Int) : Nat → List (Int × Int)
  | 0 => []
  | n + 1 => loadsP p n ++ [(2, pickP (w64 (p + n)) 5)]

/-- The instructions of a line. -/
def lineP (l : Ln) : List (Int × Int) :=
  let p := pickP l.p 5
  let q := pickP l.q 5
  let r := pickP l.r 5
  let two := 4 + pickP l.q 6
  let k := pickP l.kind 10
  if k = 0 then [(0, l.num), (3, p)]
  else if k = 1 then [(2, p), (2, q), (two, 0), (3, r)]
  else if k = 2 then [(2, p), (0, l.num), (two, 0), (3, r)]
  else if k = 3 then [(2, p), (19, 0)]
  else if k = 4 then (12, pickP l.r 3) :: loadsP l.p (pickP l.r 3).toNat ++ [(13, pickP l.r 3), (3, q)]
  else if k = 5 then [(0, pickP l.r 9), (15, 0), (3, p)]
  else if k = 6 then [(2, p), (2, q), (16, 0), (3, r)]
  else if k = 7 then [(2, p), (2, q), (2, r), (17, 0)]
  else if k = 8 then [(2, p), (21, 0), (20, 0), (18, 0), (3, q)]
  else [(12, pickP l.r 3), (3, p), (1, 0), (20, 0)]

/-- A line's instructions, done so many times over. -/
def loopedP (x : List (Int × Int)) (off : Nat) (times : Int) : List (Int × Int) :=
  [(0, times), (3, 5), (2, 5), (11, ((off + 9 + x.length : Nat) : Int))] ++ x ++ [(2, 5), (0, 1), (5, 0), (3, 5), (10, ((off + 2 : Nat) : Int))]

/-- One line more. -/
def addP (f : Nat) (c : List (Int × Int)) (l : Ln) : List (Int × Int) :=
  if pickP l.i 3 ≠ f then c
  else
    let x := if 3 < pickP l.loop 8 then loopedP (lineP l) c.length (pickP l.loop 8 - 3) else lineP l
    if c.length + x.length ≤ 62 then c ++ x else c

/-- The lines of function f, then its local 0 is returned. -/
def bodyP (f : Nat) (ls : List Ln) : List (Int × Int) := (ls.take 200).foldl (addP f) []
def codeP (f : Nat) (ls : List Ln) : List (Int × Int) := bodyP f ls ++ [(2, 0), (14, 0)]

/-- A list as a function of the place. -/
def opL (c : List (Int × Int)) : Nat → Int := fun i => (c.getD i (0, 0)).1
def arL (c : List (Int × Int)) : Nat → Int := fun i => (c.getD i (0, 0)).2
def pfL (args : Int) (c : List (Int × Int)) : PF := ⟨args, 6, c.length, opL c, arL c⟩

end Go.Proofs.YtkafkipjedpohaaGreatDoor
/-
  The programs of package upshiftkeep may be; spoiled they may not, and where. No Go here.
-/
namespace Go.Proofs.YtkafkipjedpohaaGreatDoor

def FL (ls : List Ln) : Nat → PF := fun f => pfL f (codeP f ls)

/-- Each Jump and Branch to 0. -/
def zeroed (x : Int × Int) : Int × Int := if x.1 = 10 ∨ x.1 = 11 then (x.1, 0) else x

end Go.Proofs.YtkafkipjedpohaaGreatDoor

/-
  Package upshiftkeep: pick, args, the instructions.
-/
namespace Go.Proofs.YtkafkipjedpohaaGreatDoor
open Go.RowKit

/-- A number of 64 bits. -/
def I64 (n : Int) : Prop := -9223372036854775808 ≤ n ∧ n ≤ 9223372036854775807

theorem keepPick_any (c n : Int) (w : World) (hc : I64 c) (hn : 0 < n ∧ n ≤ 100000) :
    Calls Tryz.prog 14 #[.int .i64 c, .int .i64 n] w fun e w' => e = .returned (.int .i64 (pickP c n)) ∧ w' = w := by
  obtain ⟨h1, h2⟩ := hc
  obtain ⟨h3, h4⟩ := hn
  have hn0 : ¬ n = 0 := by omega
  by_cases h : c < 0
  · have hd : decide (c < 0) = true := by simp [h]
    have e1 : wrap64 (c + 1) = c + 1 := by unfold wrap64; omega
    have e2 : wrap64 (-(c + 1)) = -(c + 1) := by unfold wrap64; omega
    have e3 : (-(c + 1)).tmod n = (-(c + 1)) % n := Int.tmod_eq_emod_of_nonneg (by omega)
    have e4 : wrap64 ((-(c + 1)) % n) = (-(c + 1)) % n := by
      have := Int.emod_nonneg (-(c + 1)) hn0
      have := Int.emod_lt_of_pos (-(c + 1)) h3
      unfold wrap64; omega
    have e5 : pickP c n = (-(c + 1)) % n := by unfold pickP; rw [if_pos h]
    go_enter Tryz.func14, Tryz.ntmps14
    go_wp2
    go_ret
    rw [e5]
    simp_all
  · have hd : decide (c < 0) = false := by simp [h]
    have e3 : c.tmod n = c % n := Int.tmod_eq_emod_of_nonneg (by omega)
    have e4 : wrap64 (c % n) = c % n := by
      have := Int.emod_nonneg c hn0
      have := Int.emod_lt_of_pos c h3
      unfold wrap64; omega
    have e5 : pickP c n = c % n := by unfold pickP; rw [if_neg h]
    go_enter Tryz.func14, Tryz.ntmps14
    go_wp2
    go_ret
    exact ⟨rfl, rfl⟩

/-- A world with one instruction's block more. -/
def insW (w : World) (o a : Int) : World := w.alloc (.cells #[.int .i64 o, .int .i64 a] 33)

theorem keepLoad_any (k : Int) (w : World) : Calls Tryz.prog 15 #[.int .i64 k] w fun e w' => e = .returned (.agg #[.int .i64 2, .int .i64 k]) ∧ w' = w.alloc (.cells #[.int .i64 2, .int .i64 k] 33) := by
  go_enter Tryz.func15, Tryz.ntmps15
  go_wp2
  exact bodyPost_ret (v := .agg #[.int .i64 2, .int .i64 k]) (by simp [results, Tryz.results15, go_sem]) rfl ⟨rfl, rfl⟩
theorem keepConst_any (k : Int) (w : World) : Calls Tryz.prog 33 #[.int .i64 k] w fun e w' => e = .returned (.agg #[.int .i64 0, .int .i64 k]) ∧ w' = w.alloc (.cells #[.int .i64 0, .int .i64 k] 33) := by
  go_enter Tryz.func33, Tryz.ntmps33
  go_wp2
  exact bodyPost_ret (v := .agg #[.int .i64 0, .int .i64 k]) (by simp [results, Tryz.results33, go_sem]) rfl ⟨rfl, rfl⟩
theorem keepOp_any (k : Int) (w : World) : Calls Tryz.prog 16 #[.int .i64 k] w fun e w' => e = .returned (.agg #[.int .i64 k, .int .i64 0]) ∧ w' = w.alloc (.cells #[.int .i64 k, .int .i64 0] 33) := by
  go_enter Tryz.func16, Tryz.ntmps16
  go_wp2
  exact bodyPost_ret (v := .agg #[.int .i64 k, .int .i64 0]) (by simp [results, Tryz.results16, go_sem]) rfl ⟨rfl, rfl⟩
end Go.Proofs.YtkafkipjedpohaaGreatDoor

/-
  Package upshiftkeep: the instructions of a line.
-/
namespace Go.Proofs.YtkafkipjedpohaaGreatDoor
open Go.RowKit

/-- A line as it is handed in. -/
def lnV (l : Ln) : Value := .agg #[.int .i64 l.i, .int .i64 l.kind, .int .i64 l.p, .int .i64 l.q, .int .i64 l.r, .int .i64 l.loop, .int .i64 l.num]
structure LnOk (l : Ln) : Prop where
  i : I64 l.i
  kind : I64 l.kind
  p : I64 l.p
  q : I64 l.q
  r : I64 l.r
  loop : I64 l.loop
  num : I64 l.num

/-- The cells of a list of instructions. -/
def icells (x : List (Int × Int)) : List Value := x.flatMap fun y => [.int .i64 y.1, .int .i64 y.2]
/-- A list of instructions in block b, from its beginning on. -/
def ListAt (w : World) (b : Nat) (x : List (Int × Int)) : Prop := ∀ j u, (icells x)[j]? = some u → w.cell? ⟨b, j, none⟩ = some u

/-- What a call that makes a list of instructions answers. -/
def Gave (x : List (Int × Int)) (w : World) (e : Ending) (w' : World) : Prop :=
  ∃ b cap, e = .returned (.slice (some ⟨b, 0, none⟩) x.length cap) ∧ Below w.heap.size w w' ∧ w.heap.size ≤ b ∧ b < w'.heap.size ∧ x.length ≤ cap ∧ ListAt w' b x

end Go.Proofs.YtkafkipjedpohaaGreatDoor

/-
  Package upshiftkeep: the instructions of a line: the kinds 2 and 4; all.
-/
namespace Go.Proofs.YtkafkipjedpohaaGreatDoor
open Go.RowKit

/-- A list of instructions that the call itself has made. -/
def OwnL (w : World) (B : Nat) (v : Value) (x : List (Int × Int)) : Prop := w.ownsRow B 33 2 v x.length (icells x)

theorem below_grown {w w' : World} {B : Nat} {row : Option Nat} (h : w.grownBy w' row) (hr : ∀ k, row = some k → B ≤ k) (hB : B ≤ w.heap.size) : Below B w w' :=
  ⟨h.os, h.tape, h.output, h.size, fun k hk => h.block k (by omega) (fun e => by have := hr k e.symm; omega)⟩

theorem blk_at (w : World) (o : Obj) (b : Nat) (hb : b = w.heap.size) : (w.alloc o).heap[b]? = some o := by subst hb; exact Go.Deep.blk_alloc_new _ _
theorem wrapK (n : Int) : wrap64 n = w64 n := by unfold wrap64 w64; rfl
end Go.Proofs.YtkafkipjedpohaaGreatDoor

/-
  Package upshiftkeep: looped.
-/
namespace Go.Proofs.YtkafkipjedpohaaGreatDoor
open Go.RowKit

end Go.Proofs.YtkafkipjedpohaaGreatDoor

/-
  Package upshiftkeep: prog, the lines of one function.
-/
namespace Go.Proofs.YtkafkipjedpohaaGreatDoor
open Go.RowKit

/-- Lines as they lie in memory. -/
def LinesAt (w : World) (b off : Nat) (ls : List Ln) : Prop := ∀ i l, ls[i]? = some l → LnOk l ∧
  w.cell? ⟨b, off + i * 7, none⟩ = some (.int .i64 l.i) ∧ w.cell? ⟨b, off + i * 7 + 1, none⟩ = some (.int .i64 l.kind) ∧ w.cell? ⟨b, off + i * 7 + 2, none⟩ = some (.int .i64 l.p) ∧
  w.cell? ⟨b, off + i * 7 + 3, none⟩ = some (.int .i64 l.q) ∧ w.cell? ⟨b, off + i * 7 + 4, none⟩ = some (.int .i64 l.r) ∧ w.cell? ⟨b, off + i * 7 + 5, none⟩ = some (.int .i64 l.loop) ∧ w.cell? ⟨b, off + i * 7 + 6, none⟩ = some (.int .i64 l.num)

/-- The lines that are handed in. -/
def LinesIn (w : World) (a : Option Addr) (ls : List Ln) : Prop := ls ≠ [] → ∃ b off, a = some ⟨b, off, none⟩ ∧ b < w.heap.size ∧ LinesAt w b off ls

/-- The lines of function f ahead of line i. -/
def partP (f : Nat) (ls : List Ln) (i : Nat) : List (Int × Int) := (ls.take i).foldl (addP f) []
/-- What the first of prog's loops has made. -/
def fcells (ls : List Ln) (CB CC : Nat → Nat) (n : Nat) : List Value := (List.range n).flatMap fun f : Nat => [.int .i64 (f : Int), .int .i64 6, .slice (some ⟨CB f, 0, none⟩) (codeP f ls).length (CC f)]
/-- n functions made, v their list. -/
def MadeF (w wr : World) (ls : List Ln) (v : Value) (n : Nat) : Prop :=
  Below w.heap.size w wr ∧ ∃ CB CC, wr.ownsRow w.heap.size 31 3 v n (fcells ls CB CC n) ∧ ∀ f, f < n → w.heap.size ≤ CB f ∧ CB f < wr.heap.size ∧ some (CB f) ≠ v.ownBlock ∧ ListAt wr (CB f) (codeP f ls) ∧ (codeP f ls).length ≤ CC f

end Go.Proofs.YtkafkipjedpohaaGreatDoor

/-
  Package upshiftkeep: code.
-/
namespace Go.Proofs.YtkafkipjedpohaaGreatDoor
open Go.RowKit

/-- The world in which the fourth example lies. -/
def knownW (w : World) : World :=
  ((((((((w.alloc (.cells #[.int .i64 0, .int .i64 7] 33)).alloc (.cells #[.int .i64 14, .int .i64 0] 33)).alloc
    (.cells #[.int .i64 12, .int .i64 1, .int .i64 0, .int .i64 7, .int .i64 13, .int .i64 1, .int .i64 14, .int .i64 0] 33)).alloc
    (.cells #[.int .i64 2, .int .i64 0] 33)).alloc (.cells #[.int .i64 2, .int .i64 0] 33)).alloc (.cells #[.int .i64 6, .int .i64 0] 33)).alloc (.cells #[.int .i64 14, .int .i64 0] 33)).alloc
    (.cells #[.int .i64 2, .int .i64 0, .int .i64 2, .int .i64 0, .int .i64 6, .int .i64 0, .int .i64 14, .int .i64 0] 33)).alloc
    (.cells #[.int .i64 0, .int .i64 0, .slice (some ⟨w.heap.size + 1 + 1, 0, none⟩) 4 4, .int .i64 1, .int .i64 1, .slice (some ⟨w.heap.size + 1 + 1 + 1 + 1 + 1 + 1 + 1, 0, none⟩) 4 4] 31)

theorem known_below (w : World) : Below w.heap.size w (knownW w) := by
  unfold knownW
  repeat (first | exact Below.refl _ _ | refine Below.alloc ?_ (by first | omega | (simp; done) | (simp; omega)) _)
theorem known_size (w : World) : (knownW w).heap.size = w.heap.size + 9 := by simp [knownW]

theorem known_prog (w : World) : ∃ CA CC, ProgAt (knownW w) (w.heap.size + 1 + 1 + 1 + 1 + 1 + 1 + 1 + 1) 0 2 FK CA CC := by
  have hp : (knownW w).heap[w.heap.size + 1 + 1 + 1 + 1 + 1 + 1 + 1 + 1]? = some (.cells #[.int .i64 0, .int .i64 0, .slice (some ⟨w.heap.size + 1 + 1, 0, none⟩) 4 4, .int .i64 1, .int .i64 1, .slice (some ⟨w.heap.size + 1 + 1 + 1 + 1 + 1 + 1 + 1, 0, none⟩) 4 4] 31 (0, 0)) := blk_at _ _ _ (by simp)
  have h1 : (knownW w).heap[w.heap.size + 1 + 1 + 1 + 1 + 1 + 1 + 1]? = some (.cells #[.int .i64 2, .int .i64 0, .int .i64 2, .int .i64 0, .int .i64 6, .int .i64 0, .int .i64 14, .int .i64 0] 33 (0, 0)) := by
    unfold knownW
    rw [Below.heap_alloc _ _ _ (by simp)]
    exact blk_at _ _ _ (by simp)
  have h2 : (knownW w).heap[w.heap.size + 1 + 1]? = some (.cells #[.int .i64 12, .int .i64 1, .int .i64 0, .int .i64 7, .int .i64 13, .int .i64 1, .int .i64 14, .int .i64 0] 33 (0, 0)) := by
    unfold knownW
    rw [Below.heap_alloc _ _ _ (by simp), Below.heap_alloc _ _ _ (by simp), Below.heap_alloc _ _ _ (by simp), Below.heap_alloc _ _ _ (by simp), Below.heap_alloc _ _ _ (by simp), Below.heap_alloc _ _ _ (by simp)]
    exact blk_at _ _ _ (by simp)
  have hz := known_size w
  refine ⟨fun k => if k = 0 then some ⟨w.heap.size + 1 + 1, 0, none⟩ else some ⟨w.heap.size + 1 + 1 + 1 + 1 + 1 + 1 + 1, 0, none⟩, fun _ => 4, by omega, fun k hk => ?_⟩
  have hc : k = 0 ∨ k = 1 := by omega
  rcases hc with rfl | rfl
  · refine ⟨(cell_heap hp).trans rfl, (cell_heap hp).trans rfl, (cell_heap hp).trans rfl, fun _ => ⟨_, _, rfl, by omega, fun i hi => ?_⟩⟩
    have hi4 : i = 0 ∨ i = 1 ∨ i = 2 ∨ i = 3 := by have : i < 4 := hi; omega
    rcases hi4 with rfl | rfl | rfl | rfl <;> exact ⟨(cell_heap h2).trans rfl, (cell_heap h2).trans rfl⟩
  · refine ⟨(cell_heap hp).trans rfl, (cell_heap hp).trans rfl, (cell_heap hp).trans rfl, fun _ => ⟨_, _, rfl, by omega, fun i hi => ?_⟩⟩
    have hi4 : i = 0 ∨ i = 1 ∨ i = 2 ∨ i = 3 := by have : i < 4 := hi; omega
    rcases hi4 with rfl | rfl | rfl | rfl <;> exact ⟨(cell_heap h1).trans rfl, (cell_heap h1).trans rfl⟩

theorem known_fine : (progP 2 FK).1 = 0 := by decide +kernel

set_option maxRecDepth 100000 in
set_option maxHeartbeats 1000000 in
theorem keepCode (w : World) (pb po pc m : Nat) (F : Nat → PF) (CA : Nat → Option Addr) (CC : Nat → Nat) (hP : ProgAt w pb po m F CA CC) (ht : TabAt w) (h0 : (progP m F).1 = 0) :
    Calls Tryz.prog 13 #[.slice (some ⟨pb, po, none⟩) m pc] w fun e w' => ∃ v w2, e = .returned (.tuple #[v, .bool true]) ∧ Below w.heap.size w w2 ∧ Below w2.heap.size w2 w' ∧ CodeIs w2 w' v m F := by
  have HP := hid (And.intro hP (And.intro ht h0))
  clear hP ht h0
  go_enter Tryz.func13, Tryz.ntmps13
  go_wp2_with (first
    | (go_at_call 15; refine (keepLoad_any _ _).mono ?_; rintro e w' ⟨rfl, hw'⟩; rw [hw']; clear hw' w')
    | (go_at_call 33; refine (keepConst_any _ _).mono ?_; rintro e w' ⟨rfl, hw'⟩; rw [hw']; clear hw' w')
    | (go_at_call 16; refine (keepOp_any _ _).mono ?_; rintro e w' ⟨rfl, hw'⟩; rw [hw']; clear hw' w'))
  obtain ⟨CK, CCK, hK⟩ := known_prog w
  have hKB := known_below w
  have hKZ := known_size w
  have hld := load_fine _ 0 2 2 FK CK CCK (knownW w) hK (HP.out.2.1.below hKB (by have := HP.out.1.lt; omega)) known_fine
  have HLD := hid hld
  have HK := hid (And.intro hKB hKZ)
  clear hld hK hKB hKZ
  refine (show Calls Tryz.prog 17 #[.slice (some ⟨w.heap.size + 1 + 1 + 1 + 1 + 1 + 1 + 1 + 1, 0, none⟩) 2 2] (knownW w) _ from HLD.out.mono ?_)
  rintro e w2 ⟨v, rfl, hB2, b, g, cap, rfl, hb1, hb2, hc0, hg1, hg2, hne, CA2, CC2, hcp⟩
  have hP2 : ProgAt w2 g 0 2 FK CA2 CC2 := ⟨hg2, fun k hk => (hcp k hk).1⟩
  have hrun := knownRun w2 b g 0 cap CA2 CC2 hc0 hb2 hP2 (fun k hk => by obtain ⟨_, cb, co, _, _, h⟩ := hcp k hk; exact (h hk).2)
  have HR := hid hrun
  have HB2 := hid (HK.out.1.trans (hB2.mono (by have := HK.out.2; omega)))
  clear hrun hP2 hcp hc0 hB2 HLD HK
  go_wp2_with fail
  refine HR.out.mono ?_
  rintro e w3 ⟨p3, n3, c3, rfl, hB3⟩
  have hB3' : Below w.heap.size w (w3.alloc (.cells #[.int .i64 1, .int .i64 8, .int .i64 1, .int .i64 49, .slice p3 n3 c3] 46)) := (HB2.out.trans (hB3.mono HB2.out.size)).alloc (by have := HB2.out.size; have := hB3.size; omega) _
  have hld := load_fine pb po pc m F CA CC _ (HP.out.1.below hB3' (Nat.le_refl _)) (HP.out.2.1.below hB3' (by have := HP.out.1.lt; omega)) HP.out.2.2
  have HLD := hid hld
  have HB3 := hid hB3'
  clear hld hB3' hB3 HR HB2 HP
  go_wp2_with fail
  refine HLD.out.mono ?_
  rintro e w5 ⟨v5, rfl, hB5, hC5⟩
  obtain ⟨b5, g5, cap5, rfl, h5⟩ := hC5
  have HQ := hid (And.intro HB3.out (And.intro hB5 (⟨b5, g5, cap5, rfl, h5⟩ : CodeIs _ w5 (.pointer (some ⟨b5, 0, none⟩)) m F)))
  clear hB5 h5 HLD HB3
  go_wp2
  go_ret2
  exact ⟨_, _, rfl, HQ.out⟩
end Go.Proofs.YtkafkipjedpohaaGreatDoor

/-
  Package upshiftkeep: what Checked holds in memory.
-/
namespace Go.Proofs.YtkafkipjedpohaaGreatDoor
open Go.RowKit

/-- The nine cells of three functions in block pb. -/
def NineAt (w : World) (pb : Nat) (c : Nat → Value) : Prop := ∃ cur : Array Value, w.heap[pb]? = some (.cells cur 31 (0, 0)) ∧ ∀ i, i < 9 → cur[i]? = some (c i)
/-- The cells of three functions with code of their own. -/
def nine (LN CB CC : Nat → Nat) : Nat → Value := fun i => if i % 3 = 0 then .int .i64 ((i / 3 : Nat) : Int) else if i % 3 = 1 then .int .i64 6 else .slice (some ⟨CB (i / 3), 0, none⟩) (LN (i / 3)) (CC (i / 3))

end Go.Proofs.YtkafkipjedpohaaGreatDoor
