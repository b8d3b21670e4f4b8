import Derived.Test.YtkafkipjedpohaaGreatDoorWd
import Derived.Test.YtkafkipjedpohaaGreatDoorM29
import Derived.Deep.AppendLies
import Derived.Deep.RegionHeld3
import Derived.Deep.RegionLaw

/-
  Package upshiftkeep: pick, args, the instructions.
-/
namespace Go.Proofs.YtkafkipjedpohaaGreatDoor
open Go.RowKit

/-- A number of 64 bits. -/
def I64 (n : Int) : Prop := -9223372036854775808 ≤ n ∧ n ≤ 9223372036854775807

theorem keepPick_any (c n : Int) (w : World) (hc : I64 c) (hn : 0 < n ∧ n ≤ 100000) :
    Calls Tryz.prog 14 #[.int .i64 c, .int .i64 n] w fun e w' => e = .returned (.int .i64 (pickP c n)) ∧ w' = w := by
  obtain ⟨h1, h2⟩ := hc
  obtain ⟨h3, h4⟩ := hn
  have hn0 : ¬ n = 0 := by omega
  by_cases h : c < 0
  · have hd : decide (c < 0) = true := by simp [h]
    have e1 : wrap64 (c + 1) = c + 1 := by unfold wrap64; omega
    have e2 : wrap64 (-(c + 1)) = -(c + 1) := by unfold wrap64; omega
    have e3 : (-(c + 1)).tmod n = (-(c + 1)) % n := Int.tmod_eq_emod_of_nonneg (by omega)
    have e4 : wrap64 ((-(c + 1)) % n) = (-(c + 1)) % n := by
      have := Int.emod_nonneg (-(c + 1)) hn0
      have := Int.emod_lt_of_pos (-(c + 1)) h3
      unfold wrap64; omega
    have e5 : pickP c n = (-(c + 1)) % n := by unfold pickP; rw [if_pos h]
    go_enter Tryz.func14, Tryz.ntmps14
    go_wp2
    go_ret
    rw [e5]
    simp_all
  · have hd : decide (c < 0) = false := by simp [h]
    have e3 : c.tmod n = c % n := Int.tmod_eq_emod_of_nonneg (by omega)
    have e4 : wrap64 (c % n) = c % n := by
      have := Int.emod_nonneg c hn0
      have := Int.emod_lt_of_pos c h3
      unfold wrap64; omega
    have e5 : pickP c n = c % n := by unfold pickP; rw [if_neg h]
    go_enter Tryz.func14, Tryz.ntmps14
    go_wp2
    go_ret
    exact ⟨rfl, rfl⟩

theorem keepArgs_any (f : Int) (w : World) : Calls Tryz.prog 32 #[.int .i64 f] w fun e w' => e = .returned (.int .i64 f) ∧ w' = w := by
  go_enter Tryz.func32, Tryz.ntmps32
  go_wp2
  go_ret
  exact ⟨rfl, rfl⟩

/-- A world with one instruction's block more. -/
def insW (w : World) (o a : Int) : World := w.alloc (.cells #[.int .i64 o, .int .i64 a] 33)

theorem keepLoad_any (k : Int) (w : World) : Calls Tryz.prog 15 #[.int .i64 k] w fun e w' => e = .returned (.agg #[.int .i64 2, .int .i64 k]) ∧ w' = w.alloc (.cells #[.int .i64 2, .int .i64 k] 33) := by
  go_enter Tryz.func15, Tryz.ntmps15
  go_wp2
  exact bodyPost_ret (v := .agg #[.int .i64 2, .int .i64 k]) (by simp [results, Tryz.results15, go_sem]) rfl ⟨rfl, rfl⟩
theorem keepStore_any (k : Int) (w : World) : Calls Tryz.prog 43 #[.int .i64 k] w fun e w' => e = .returned (.agg #[.int .i64 3, .int .i64 k]) ∧ w' = w.alloc (.cells #[.int .i64 3, .int .i64 k] 33) := by
  go_enter Tryz.func43, Tryz.ntmps43
  go_wp2
  exact bodyPost_ret (v := .agg #[.int .i64 3, .int .i64 k]) (by simp [results, Tryz.results43, go_sem]) rfl ⟨rfl, rfl⟩
theorem keepConst_any (k : Int) (w : World) : Calls Tryz.prog 33 #[.int .i64 k] w fun e w' => e = .returned (.agg #[.int .i64 0, .int .i64 k]) ∧ w' = w.alloc (.cells #[.int .i64 0, .int .i64 k] 33) := by
  go_enter Tryz.func33, Tryz.ntmps33
  go_wp2
  exact bodyPost_ret (v := .agg #[.int .i64 0, .int .i64 k]) (by simp [results, Tryz.results33, go_sem]) rfl ⟨rfl, rfl⟩
theorem keepOp_any (k : Int) (w : World) : Calls Tryz.prog 16 #[.int .i64 k] w fun e w' => e = .returned (.agg #[.int .i64 k, .int .i64 0]) ∧ w' = w.alloc (.cells #[.int .i64 k, .int .i64 0] 33) := by
  go_enter Tryz.func16, Tryz.ntmps16
  go_wp2
  exact bodyPost_ret (v := .agg #[.int .i64 k, .int .i64 0]) (by simp [results, Tryz.results16, go_sem]) rfl ⟨rfl, rfl⟩
end Go.Proofs.YtkafkipjedpohaaGreatDoor

/-
  Package upshiftkeep: the instructions of a line.
-/
namespace Go.Proofs.YtkafkipjedpohaaGreatDoor
open Go.RowKit

/-- A line as it is handed in. -/
def lnV (l : Ln) : Value := .agg #[.int .i64 l.i, .int .i64 l.kind, .int .i64 l.p, .int .i64 l.q, .int .i64 l.r, .int .i64 l.loop, .int .i64 l.num]
structure LnOk (l : Ln) : Prop where
  i : I64 l.i
  kind : I64 l.kind
  p : I64 l.p
  q : I64 l.q
  r : I64 l.r
  loop : I64 l.loop
  num : I64 l.num

/-- The cells of a list of instructions. -/
def icells (x : List (Int × Int)) : List Value := x.flatMap fun y => [.int .i64 y.1, .int .i64 y.2]
theorem icells_len (x : List (Int × Int)) : (icells x).length = x.length * 2 := by
  induction x with
  | nil => rfl
  | cons y x ih => simp [icells] at ih ⊢; omega
theorem icells_cons (y : Int × Int) (x : List (Int × Int)) : icells (y :: x) = .int .i64 y.1 :: .int .i64 y.2 :: icells x := rfl
theorem icells_append (x y : List (Int × Int)) : icells (x ++ y) = icells x ++ icells y := by simp [icells]

/-- A list of instructions in block b, from its beginning on. -/
def ListAt (w : World) (b : Nat) (x : List (Int × Int)) : Prop := ∀ j u, (icells x)[j]? = some u → w.cell? ⟨b, j, none⟩ = some u

/-- What a call that makes a list of instructions answers. -/
def Gave (x : List (Int × Int)) (w : World) (e : Ending) (w' : World) : Prop :=
  ∃ b cap, e = .returned (.slice (some ⟨b, 0, none⟩) x.length cap) ∧ Below w.heap.size w w' ∧ w.heap.size ≤ b ∧ b < w'.heap.size ∧ x.length ≤ cap ∧ ListAt w' b x

theorem cell_made (w : World) (c : Array Value) (t : TypeId) (B i : Nat) (hB : B = w.heap.size) : (w.alloc (.cells c t)).cell? ⟨B, i, none⟩ = c[i]? := by
  subst hB
  unfold World.cell?
  rw [Go.Deep.blk_alloc_new]
  rfl

theorem gave_new {w v : World} {b : Nat} {x : List (Int × Int)} {t : TypeId} (h : Below w.heap.size w v) (hb : b = v.heap.size) (n cap : Nat) (hn : n = x.length) (hc : n ≤ cap) (cs : Array Value) (hcs : cs = (icells x).toArray) :
    Gave x w (.returned (.slice (some ⟨b, 0, none⟩) n cap)) (v.alloc (.cells cs t)) := by
  subst hb hn hcs
  have := h.size
  refine ⟨_, cap, rfl, h.alloc this _, this, by simp, hc, fun j u hu => ?_⟩
  rw [cell_made v _ _ _ _ rfl]
  simpa using hu

set_option maxRecDepth 100000 in
set_option maxHeartbeats 1000000 in
theorem line_0 (l : Ln) (hl : LnOk l) (w : World) (hk : pickP l.kind 10 = 0) : Calls Tryz.prog 30 #[lnV l] w (Gave (lineP l) w) := by
  have hx : lineP l = [(0, l.num), (3, pickP l.p 5)] := by simp [lineP, hk]
  have hq6 := pickP_bd l.q (n := 6) (by omega)
  have e6 : wrap64 (4 + pickP l.q 6) = 4 + pickP l.q 6 := by unfold wrap64; omega
  rw [hx]
  obtain ⟨_, h2, h3, h4, h5, _, _⟩ := hl
  clear hx hq6
  unfold lnV
  go_enter Tryz.func30, Tryz.ntmps30
  go_wp2_with (first
    | (go_at_call 14; refine (keepPick_any _ _ _ (by assumption) (by omega)).mono ?_; rintro e w' ⟨rfl, rfl⟩)
    | (go_at_call 15; refine (keepLoad_any _ _).mono ?_; rintro e w' ⟨rfl, rfl⟩)
    | (go_at_call 43; refine (keepStore_any _ _).mono ?_; rintro e w' ⟨rfl, rfl⟩)
    | (go_at_call 33; refine (keepConst_any _ _).mono ?_; rintro e w' ⟨rfl, rfl⟩)
    | (go_at_call 16; refine (keepOp_any _ _).mono ?_; rintro e w' ⟨rfl, rfl⟩))
  go_ret
  refine gave_new ?_ (by simp) _ _ (by simp) (by simp) _ (by simp [icells])
  repeat (first | exact Below.refl _ _ | refine Below.alloc ?_ (by first | omega | (simp; done) | (simp; omega)) _)

set_option maxRecDepth 100000 in
set_option maxHeartbeats 1000000 in
theorem line_1 (l : Ln) (hl : LnOk l) (w : World) (hk : pickP l.kind 10 = 1) : Calls Tryz.prog 30 #[lnV l] w (Gave (lineP l) w) := by
  have hx : lineP l = [(2, pickP l.p 5), (2, pickP l.q 5), (4 + pickP l.q 6, 0), (3, pickP l.r 5)] := by simp [lineP, hk]
  have hq6 := pickP_bd l.q (n := 6) (by omega)
  have e6 : wrap64 (4 + pickP l.q 6) = 4 + pickP l.q 6 := by unfold wrap64; omega
  rw [hx]
  obtain ⟨_, h2, h3, h4, h5, _, _⟩ := hl
  clear hx hq6
  unfold lnV
  go_enter Tryz.func30, Tryz.ntmps30
  go_wp2_with (first
    | (go_at_call 14; refine (keepPick_any _ _ _ (by assumption) (by omega)).mono ?_; rintro e w' ⟨rfl, rfl⟩)
    | (go_at_call 15; refine (keepLoad_any _ _).mono ?_; rintro e w' ⟨rfl, rfl⟩)
    | (go_at_call 43; refine (keepStore_any _ _).mono ?_; rintro e w' ⟨rfl, rfl⟩)
    | (go_at_call 33; refine (keepConst_any _ _).mono ?_; rintro e w' ⟨rfl, rfl⟩)
    | (go_at_call 16; refine (keepOp_any _ _).mono ?_; rintro e w' ⟨rfl, rfl⟩))
  go_ret
  refine gave_new ?_ (by simp) _ _ (by simp) (by simp) _ (by simp [icells])
  repeat (first | exact Below.refl _ _ | refine Below.alloc ?_ (by first | omega | (simp; done) | (simp; omega)) _)

set_option maxRecDepth 100000 in
set_option maxHeartbeats 1000000 in
theorem line_3 (l : Ln) (hl : LnOk l) (w : World) (hk : pickP l.kind 10 = 3) : Calls Tryz.prog 30 #[lnV l] w (Gave (lineP l) w) := by
  have hx : lineP l = [(2, pickP l.p 5), (19, 0)] := by simp [lineP, hk]
  have hq6 := pickP_bd l.q (n := 6) (by omega)
  have e6 : wrap64 (4 + pickP l.q 6) = 4 + pickP l.q 6 := by unfold wrap64; omega
  rw [hx]
  obtain ⟨_, h2, h3, h4, h5, _, _⟩ := hl
  clear hx hq6
  unfold lnV
  go_enter Tryz.func30, Tryz.ntmps30
  go_wp2_with (first
    | (go_at_call 14; refine (keepPick_any _ _ _ (by assumption) (by omega)).mono ?_; rintro e w' ⟨rfl, rfl⟩)
    | (go_at_call 15; refine (keepLoad_any _ _).mono ?_; rintro e w' ⟨rfl, rfl⟩)
    | (go_at_call 43; refine (keepStore_any _ _).mono ?_; rintro e w' ⟨rfl, rfl⟩)
    | (go_at_call 33; refine (keepConst_any _ _).mono ?_; rintro e w' ⟨rfl, rfl⟩)
    | (go_at_call 16; refine (keepOp_any _ _).mono ?_; rintro e w' ⟨rfl, rfl⟩))
  go_ret
  refine gave_new ?_ (by simp) _ _ (by simp) (by simp) _ (by simp [icells])
  repeat (first | exact Below.refl _ _ | refine Below.alloc ?_ (by first | omega | (simp; done) | (simp; omega)) _)

set_option maxRecDepth 100000 in
set_option maxHeartbeats 1000000 in
theorem line_5 (l : Ln) (hl : LnOk l) (w : World) (hk : pickP l.kind 10 = 5) : Calls Tryz.prog 30 #[lnV l] w (Gave (lineP l) w) := by
  have hx : lineP l = [(0, pickP l.r 9), (15, 0), (3, pickP l.p 5)] := by simp [lineP, hk]
  have hq6 := pickP_bd l.q (n := 6) (by omega)
  have e6 : wrap64 (4 + pickP l.q 6) = 4 + pickP l.q 6 := by unfold wrap64; omega
  rw [hx]
  obtain ⟨_, h2, h3, h4, h5, _, _⟩ := hl
  clear hx hq6
  unfold lnV
  go_enter Tryz.func30, Tryz.ntmps30
  go_wp2_with (first
    | (go_at_call 14; refine (keepPick_any _ _ _ (by assumption) (by omega)).mono ?_; rintro e w' ⟨rfl, rfl⟩)
    | (go_at_call 15; refine (keepLoad_any _ _).mono ?_; rintro e w' ⟨rfl, rfl⟩)
    | (go_at_call 43; refine (keepStore_any _ _).mono ?_; rintro e w' ⟨rfl, rfl⟩)
    | (go_at_call 33; refine (keepConst_any _ _).mono ?_; rintro e w' ⟨rfl, rfl⟩)
    | (go_at_call 16; refine (keepOp_any _ _).mono ?_; rintro e w' ⟨rfl, rfl⟩))
  go_ret
  refine gave_new ?_ (by simp) _ _ (by simp) (by simp) _ (by simp [icells])
  repeat (first | exact Below.refl _ _ | refine Below.alloc ?_ (by first | omega | (simp; done) | (simp; omega)) _)

set_option maxRecDepth 100000 in
set_option maxHeartbeats 1000000 in
theorem line_6 (l : Ln) (hl : LnOk l) (w : World) (hk : pickP l.kind 10 = 6) : Calls Tryz.prog 30 #[lnV l] w (Gave (lineP l) w) := by
  have hx : lineP l = [(2, pickP l.p 5), (2, pickP l.q 5), (16, 0), (3, pickP l.r 5)] := by simp [lineP, hk]
  have hq6 := pickP_bd l.q (n := 6) (by omega)
  have e6 : wrap64 (4 + pickP l.q 6) = 4 + pickP l.q 6 := by unfold wrap64; omega
  rw [hx]
  obtain ⟨_, h2, h3, h4, h5, _, _⟩ := hl
  clear hx hq6
  unfold lnV
  go_enter Tryz.func30, Tryz.ntmps30
  go_wp2_with (first
    | (go_at_call 14; refine (keepPick_any _ _ _ (by assumption) (by omega)).mono ?_; rintro e w' ⟨rfl, rfl⟩)
    | (go_at_call 15; refine (keepLoad_any _ _).mono ?_; rintro e w' ⟨rfl, rfl⟩)
    | (go_at_call 43; refine (keepStore_any _ _).mono ?_; rintro e w' ⟨rfl, rfl⟩)
    | (go_at_call 33; refine (keepConst_any _ _).mono ?_; rintro e w' ⟨rfl, rfl⟩)
    | (go_at_call 16; refine (keepOp_any _ _).mono ?_; rintro e w' ⟨rfl, rfl⟩))
  go_ret
  refine gave_new ?_ (by simp) _ _ (by simp) (by simp) _ (by simp [icells])
  repeat (first | exact Below.refl _ _ | refine Below.alloc ?_ (by first | omega | (simp; done) | (simp; omega)) _)

set_option maxRecDepth 100000 in
set_option maxHeartbeats 1000000 in
theorem line_7 (l : Ln) (hl : LnOk l) (w : World) (hk : pickP l.kind 10 = 7) : Calls Tryz.prog 30 #[lnV l] w (Gave (lineP l) w) := by
  have hx : lineP l = [(2, pickP l.p 5), (2, pickP l.q 5), (2, pickP l.r 5), (17, 0)] := by simp [lineP, hk]
  have hq6 := pickP_bd l.q (n := 6) (by omega)
  have e6 : wrap64 (4 + pickP l.q 6) = 4 + pickP l.q 6 := by unfold wrap64; omega
  rw [hx]
  obtain ⟨_, h2, h3, h4, h5, _, _⟩ := hl
  clear hx hq6
  unfold lnV
  go_enter Tryz.func30, Tryz.ntmps30
  go_wp2_with (first
    | (go_at_call 14; refine (keepPick_any _ _ _ (by assumption) (by omega)).mono ?_; rintro e w' ⟨rfl, rfl⟩)
    | (go_at_call 15; refine (keepLoad_any _ _).mono ?_; rintro e w' ⟨rfl, rfl⟩)
    | (go_at_call 43; refine (keepStore_any _ _).mono ?_; rintro e w' ⟨rfl, rfl⟩)
    | (go_at_call 33; refine (keepConst_any _ _).mono ?_; rintro e w' ⟨rfl, rfl⟩)
    | (go_at_call 16; refine (keepOp_any _ _).mono ?_; rintro e w' ⟨rfl, rfl⟩))
  go_ret
  refine gave_new ?_ (by simp) _ _ (by simp) (by simp) _ (by simp [icells])
  repeat (first | exact Below.refl _ _ | refine Below.alloc ?_ (by first | omega | (simp; done) | (simp; omega)) _)

set_option maxRecDepth 100000 in
set_option maxHeartbeats 1000000 in
theorem line_8 (l : Ln) (hl : LnOk l) (w : World) (hk : pickP l.kind 10 = 8) : Calls Tryz.prog 30 #[lnV l] w (Gave (lineP l) w) := by
  have hx : lineP l = [(2, pickP l.p 5), (21, 0), (20, 0), (18, 0), (3, pickP l.q 5)] := by simp [lineP, hk]
  have hq6 := pickP_bd l.q (n := 6) (by omega)
  have e6 : wrap64 (4 + pickP l.q 6) = 4 + pickP l.q 6 := by unfold wrap64; omega
  rw [hx]
  obtain ⟨_, h2, h3, h4, h5, _, _⟩ := hl
  clear hx hq6
  unfold lnV
  go_enter Tryz.func30, Tryz.ntmps30
  go_wp2_with (first
    | (go_at_call 14; refine (keepPick_any _ _ _ (by assumption) (by omega)).mono ?_; rintro e w' ⟨rfl, rfl⟩)
    | (go_at_call 15; refine (keepLoad_any _ _).mono ?_; rintro e w' ⟨rfl, rfl⟩)
    | (go_at_call 43; refine (keepStore_any _ _).mono ?_; rintro e w' ⟨rfl, rfl⟩)
    | (go_at_call 33; refine (keepConst_any _ _).mono ?_; rintro e w' ⟨rfl, rfl⟩)
    | (go_at_call 16; refine (keepOp_any _ _).mono ?_; rintro e w' ⟨rfl, rfl⟩))
  go_ret
  refine gave_new ?_ (by simp) _ _ (by simp) (by simp) _ (by simp [icells])
  repeat (first | exact Below.refl _ _ | refine Below.alloc ?_ (by first | omega | (simp; done) | (simp; omega)) _)

set_option maxRecDepth 100000 in
set_option maxHeartbeats 1000000 in
theorem line_9 (l : Ln) (hl : LnOk l) (w : World) (hk : pickP l.kind 10 = 9) : Calls Tryz.prog 30 #[lnV l] w (Gave (lineP l) w) := by
  have hx : lineP l = [(12, pickP l.r 3), (3, pickP l.p 5), (1, 0), (20, 0)] := by simp [lineP, hk]
  have hq6 := pickP_bd l.q (n := 6) (by omega)
  have e6 : wrap64 (4 + pickP l.q 6) = 4 + pickP l.q 6 := by unfold wrap64; omega
  rw [hx]
  obtain ⟨_, h2, h3, h4, h5, _, _⟩ := hl
  clear hx hq6
  unfold lnV
  go_enter Tryz.func30, Tryz.ntmps30
  go_wp2_with (first
    | (go_at_call 14; refine (keepPick_any _ _ _ (by assumption) (by omega)).mono ?_; rintro e w' ⟨rfl, rfl⟩)
    | (go_at_call 15; refine (keepLoad_any _ _).mono ?_; rintro e w' ⟨rfl, rfl⟩)
    | (go_at_call 43; refine (keepStore_any _ _).mono ?_; rintro e w' ⟨rfl, rfl⟩)
    | (go_at_call 33; refine (keepConst_any _ _).mono ?_; rintro e w' ⟨rfl, rfl⟩)
    | (go_at_call 16; refine (keepOp_any _ _).mono ?_; rintro e w' ⟨rfl, rfl⟩))
  go_ret
  refine gave_new ?_ (by simp) _ _ (by simp) (by simp) _ (by simp [icells])
  repeat (first | exact Below.refl _ _ | refine Below.alloc ?_ (by first | omega | (simp; done) | (simp; omega)) _)

end Go.Proofs.YtkafkipjedpohaaGreatDoor

/-
  Package upshiftkeep: the instructions of a line: the kinds 2 and 4; all.
-/
namespace Go.Proofs.YtkafkipjedpohaaGreatDoor
open Go.RowKit

/-- Behind a call that makes one block. -/
theorem made_cell {w : World} {o : Obj} {a : Addr} {v : Value} (h : w.cell? a = some v) (ha : a.block < w.heap.size) : (w.alloc o).cell? a = some v :=
  (((Below.refl w.heap.size w).alloc (Nat.le_refl _) o).cell ha).trans h

theorem gave_drew {w v : World} {x : List (Int × Int)} {e : Ending} (h : Gave x w e v) : Gave x w e v.drew := by
  obtain ⟨b, cap, h1, h2, h3, h4, h5, h6⟩ := h
  exact ⟨b, cap, h1, h2.drew, h3, h4, h5, h6⟩

/-- A list of instructions that the call itself has made. -/
def OwnL (w : World) (B : Nat) (v : Value) (x : List (Int × Int)) : Prop := w.ownsRow B 33 2 v x.length (icells x)

theorem icells_one (x : List (Int × Int)) : ∀ u ∈ icells x, u.oneCell' = true := by
  intro u hu
  simp only [icells, List.mem_flatMap, List.mem_cons, List.not_mem_nil, or_false] at hu
  obtain ⟨y, _, rfl | rfl⟩ := hu <;> rfl

theorem OwnL.nil (w : World) (B : Nat) : OwnL w B (.slice none 0 0) [] := ⟨rfl, Or.inl ⟨rfl, rfl⟩⟩

theorem OwnL.made (w : World) (B : Nat) (x : List (Int × Int)) (n cap : Nat) (b : Nat) (hb : b = w.heap.size) (hn : n = x.length) (hc : cap = x.length) (hB : B ≤ w.heap.size) (hm : x.length ≤ maxLen) (cs : Array Value) (hcs : cs = (icells x).toArray) : OwnL (w.alloc (.cells cs 33)) B (.slice (some ⟨b, 0, none⟩) n cap) x := by
  subst hb hn hc hcs
  refine ⟨icells_len x, Or.inr ⟨_, _, _, rfl, hB, Go.Deep.blk_alloc_new _ _, Nat.le_refl _, hm, by simpa using icells_len x, ?_⟩⟩
  rw [List.take_of_length_le (by simp [icells_len])]

theorem OwnL.below {w w' : World} {B : Nat} {v : Value} {x : List (Int × Int)} (h : OwnL w B v x) (k : Below w.heap.size w w') : OwnL w' B v x := by
  obtain ⟨h1, h2⟩ := h
  refine ⟨h1, ?_⟩
  rcases h2 with h2 | ⟨g, cap, cur, hv, hb, hg, hr⟩
  · exact Or.inl h2
  · exact Or.inr ⟨g, cap, cur, hv, hb, (k.block g (Array.getElem?_eq_some_iff.1 hg).1).trans hg, hr⟩

theorem OwnL.own {w : World} {B : Nat} {v : Value} {x : List (Int × Int)} (h : OwnL w B v x) : ∀ k, v.ownBlock = some k → B ≤ k := by
  intro k hk
  rcases h.2 with ⟨h2, _⟩ | ⟨g, cap, cur, hv, hb, _⟩
  · rw [h2] at hk; simp [Value.ownBlock] at hk
  · rw [hv] at hk
    have : g = k := by simpa [Value.ownBlock] using hk
    omega

theorem below_grown {w w' : World} {B : Nat} {row : Option Nat} (h : w.grownBy w' row) (hr : ∀ k, row = some k → B ≤ k) (hB : B ≤ w.heap.size) : Below B w w' :=
  ⟨h.os, h.tape, h.output, h.size, fun k hk => h.block k (by omega) (fun e => by have := hr k e.symm; omega)⟩

/-- Behind an append of the list y. -/
theorem OwnL.grew {w' : World} {B g cap : Nat} {x y : List (Int × Int)} {n m : Nat} {news : List Value} (hn : n = x.length) (hm : m = y.length) (hnews : news = icells y) (hown : w'.ownsRow B 33 2 (.slice (some ⟨g, 0, none⟩) (n + m) cap) (n + m) (icells x ++ news)) :
    OwnL w' B (.slice (some ⟨g, 0, none⟩) (n + m) cap) (x ++ y) := by
  subst hn hm hnews
  unfold OwnL
  rw [icells_append, List.length_append]
  exact hown

theorem OwnL.wider {w : World} {B B' : Nat} {v : Value} {x : List (Int × Int)} (h : OwnL w B v x) (hB : B' ≤ B) : OwnL w B' v x := by
  obtain ⟨h1, h2⟩ := h
  refine ⟨h1, ?_⟩
  rcases h2 with h2 | ⟨g, cap, cur, hv, hb, hr⟩
  · exact Or.inl h2
  · exact Or.inr ⟨g, cap, cur, hv, by omega, hr⟩

/-- As an answer. -/
theorem OwnL.gave {w w' : World} {v : Value} {x : List (Int × Int)} (h : OwnL w' w.heap.size v x) (hx : 1 ≤ x.length) (hB : Below w.heap.size w w') : Gave x w (.returned v) w' := by
  rcases h.2 with ⟨_, h2⟩ | ⟨g, cap, cur, hv, hb, hg, hc, hm, hs, ht⟩
  · omega
  · subst hv
    refine ⟨g, cap, rfl, hB, hb, (Array.getElem?_eq_some_iff.1 hg).1, hc, fun j u hu => ?_⟩
    have hj : j < x.length * 2 := by
      have := (List.getElem?_eq_some_iff.1 hu).1
      rwa [icells_len] at this
    unfold World.cell?
    rw [hg]
    rw [← ht, List.getElem?_take_of_lt hj] at hu
    simpa using hu

theorem Tryz.infoIns : ∃ i, Tryz.prog.info? 33 = some i ∧ i.zero = some (.agg #[.int .i64 0, .int .i64 0]) ∧ i.size = 2 ∧ i.bytes = 16 := by
  have h : (Tryz.prog.info? 33).map (fun i => (i.zero, i.size, i.bytes)) = some (some (.agg #[.int .i64 0, .int .i64 0]), 2, 16) := by kernel_rfl
  obtain ⟨i, hi, hzz⟩ := Option.map_eq_some_iff.1 h
  simp only [Prod.mk.injEq] at hzz
  exact ⟨i, hi, hzz.1, hzz.2.1, hzz.2.2⟩

theorem hidK {p : Prop} (h : p) : Hid p := h

set_option maxRecDepth 100000 in
set_option maxHeartbeats 1000000 in
theorem line_2 (l : Ln) (hl : LnOk l) (w : World) (hk : pickP l.kind 10 = 2) : Calls Tryz.prog 30 #[lnV l] w (Gave (lineP l) w) := by
  have hx : lineP l = [(2, pickP l.p 5), (0, l.num), (4 + pickP l.q 6, 0), (3, pickP l.r 5)] := by simp [lineP, hk]
  have hq6 := pickP_bd l.q (n := 6) (by omega)
  have e6 : wrap64 (4 + pickP l.q 6) = 4 + pickP l.q 6 := by unfold wrap64; omega
  rw [hx]
  obtain ⟨_, h2, h3, h4, h5, _, _⟩ := hl
  clear hx hq6
  unfold lnV
  have HW : Hid (Below w.heap.size w (w.alloc (.cells #[.int .i64 l.i, .int .i64 l.kind, .int .i64 l.p, .int .i64 l.q, .int .i64 l.r, .int .i64 l.loop, .int .i64 l.num] 77)) ∧ (w.alloc (.cells #[.int .i64 l.i, .int .i64 l.kind, .int .i64 l.p, .int .i64 l.q, .int .i64 l.r, .int .i64 l.loop, .int .i64 l.num] 77)).heap.size = w.heap.size + 1) := ⟨(Below.refl _ _).alloc (Nat.le_refl _) _, by simp⟩
  have hc6 : (w.alloc (.cells #[.int .i64 l.i, .int .i64 l.kind, .int .i64 l.p, .int .i64 l.q, .int .i64 l.r, .int .i64 l.loop, .int .i64 l.num] 77)).cell? ⟨w.heap.size, 6, none⟩ = some (.int .i64 l.num) := cell_made w _ _ _ _ rfl
  have HC := hidK hc6
  clear hc6
  go_enter Tryz.func30, Tryz.ntmps30
  go_wp2_with (first
    | (go_at_call 14; refine (keepPick_any _ _ _ (by assumption) (by omega)).mono ?_; rintro e w' ⟨rfl, rfl⟩))
  have hc6 := HC.out
  have hB := HW.out.1
  have hz := HW.out.2
  clear HC HW
  generalize w.alloc (.cells #[.int .i64 l.i, .int .i64 l.kind, .int .i64 l.p, .int .i64 l.q, .int .i64 l.r, .int .i64 l.loop, .int .i64 l.num] 77) = W at *
  have hsz : w.heap.size < W.heap.size := by omega
  go_region_held3 (fun w' => w'.cell? ⟨w.heap.size, 6, none⟩ = some (.int .i64 l.num) ∧ w.heap.size < w'.heap.size ∧ Below w.heap.size w w')
    ((refine ⟨?_, ?_, ?_⟩; (repeat (first | exact hc6 | refine made_cell ?_ (by first | (show w.heap.size < W.heap.size; omega) | (simp; done) | (simp; omega)))); (first | exact hsz | (simp; done) | (simp; omega)); (repeat (first | exact hB | refine Below.drew ?_ | refine Below.alloc ?_ (by first | (show w.heap.size ≤ W.heap.size; omega) | (simp; done) | (simp; omega)) _))))
    (first
      | (go_at_call 15; refine (keepLoad_any _ _).mono ?_; rintro e w' ⟨rfl, rfl⟩)
      | (go_at_call 43; refine (keepStore_any _ _).mono ?_; rintro e w' ⟨rfl, rfl⟩)
      | (go_at_call 33; refine (keepConst_any _ _).mono ?_; rintro e w' ⟨rfl, rfl⟩)
      | (go_at_call 16; refine (keepOp_any _ _).mono ?_; rintro e w' ⟨rfl, rfl⟩))
  rename_i hheld
  clear hheld
  go_wp2
  go_ret
  refine gave_drew (gave_new ?_ (by simp; omega) _ _ (by simp) (by simp) _ (by simp [icells]))
  repeat (first | exact hB | refine Below.drew ?_ | refine Below.alloc ?_ (by first | (show w.heap.size ≤ W.heap.size; omega) | (simp; done) | (simp; omega)) _)

theorem blk_at (w : World) (o : Obj) (b : Nat) (hb : b = w.heap.size) : (w.alloc o).heap[b]? = some o := by subst hb; exact Go.Deep.blk_alloc_new _ _
theorem wrapK (n : Int) : wrap64 n = w64 n := by unfold wrap64 w64; rfl
theorem stopHere {p : Prop} (h : p ∧ True) : p := h.1
theorem loads_len (p : Int) (n : Nat) : (loadsP p n).length = n := by
  induction n with
  | zero => rfl
  | succ n ih => simp [loadsP, ih]

set_option maxRecDepth 100000 in
set_option maxHeartbeats 1000000 in
theorem line_4 (l : Ln) (hl : LnOk l) (w : World) (hk : pickP l.kind 10 = 4) : Calls Tryz.prog 30 #[lnV l] w (Gave (lineP l) w) := by
  have hx : lineP l = (12, pickP l.r 3) :: loadsP l.p (pickP l.r 3).toNat ++ [(13, pickP l.r 3), (3, pickP l.q 5)] := by simp [lineP, hk]
  have hq6 := pickP_bd l.q (n := 6) (by omega)
  have e6 : wrap64 (4 + pickP l.q 6) = 4 + pickP l.q 6 := by unfold wrap64; omega
  rw [hx]
  obtain ⟨_, h2, h3, h4, h5, _, _⟩ := hl
  have hr3 := pickP_bd l.r (n := 3) (by omega)
  clear hx hq6
  unfold lnV
  obtain ⟨inf, hi, hz0, hz1, hz2⟩ := Tryz.infoIns
  go_enter Tryz.func30, Tryz.ntmps30
  go_wp2_with (first
    | (go_at_call 14; refine (keepPick_any _ _ _ (by assumption) (by omega)).mono ?_; rintro e w' ⟨rfl, rfl⟩))
  generalize pickP l.r 3 = g at *
  go_loopw [8, 9] (fun o v wr => ∃ j : Nat, (j : Int) ≤ g ∧ v = .int .i64 j ∧ Below w.heap.size w wr ∧ wr.cell? ⟨w.heap.size, 2, none⟩ = some (.int .i64 l.p) ∧ w.heap.size < wr.heap.size ∧ OwnL wr (w.heap.size + 1) o ((12, g) :: loadsP l.p j)) (fun _ v _ => (g - intOf v).toNat)
  case atStart => exact ⟨0, by omega, rfl, by repeat (first | exact Below.refl _ _ | refine Below.alloc ?_ (by first | omega | (simp; done) | (simp; omega)) _), made_cell (cell_made w _ _ _ _ rfl) (by simp), by simp; omega, OwnL.made _ _ [(12, g)] _ _ _ (by simp) rfl rfl (by simp) (by unfold maxLen; simp) _ (by simp [icells])⟩
  case round =>
    obtain ⟨j, hj, rfl, hB, hc, hz, hO⟩ := hrel
    have HO := hidK hO
    have HB := hidK hB
    clear hO hB
    by_cases hlt : (j : Int) < g
    · have hd : decide ((j : Int) < g) = true := by simp [hlt]
      have hw : I64 (wrap64 (l.p + j)) := by unfold I64 wrap64; omega
      have hwb : w.heap.size ≤ wr.heap.size := HB.out.size
      have hln : ((12, g) :: loadsP l.p j).length = j + 1 := by simp [loads_len]
      go_wp2_with (first
        | (go_at_call 32; refine (keepArgs_any _ _).mono ?_; rintro e w' ⟨rfl, hw'⟩; rw [hw']; clear hw' w')
        | (go_at_call 14; refine (keepPick_any _ _ _ (by assumption) (by omega)).mono ?_; rintro e w' ⟨rfl, hw'⟩; rw [hw']; clear hw' w')
        | (go_at_call 15; refine (keepLoad_any _ _).mono ?_; rintro e w' ⟨rfl, hw'⟩; rw [hw']; clear hw' w')
        | (at_builtin; refine stopHere ?_))
      refine ⟨?_, trivial⟩
      refine wpList_append_lies _ rfl _ _ _ rfl (w.heap.size + 1) 33 inf _ 2 16 Tryz.underlying29 hi hz0 hz1 hz2 rfl (by decide) _ ((12, g) :: loadsP l.p j).length _ rfl (World.ownsRow.alloc (World.ownsRow.alloc HO.out _) _) ⟨wr.heap.size + 1, 0, none⟩ 1 1 [.int .i64 2, .int .i64 (pickP (wrap64 (l.p + j)) 5)] rfl rfl (World.news_of_block (blk_at _ _ _ (by simp))) (by intro u hu; simp at hu; rcases hu with rfl | rfl <;> rfl) (by omega) (by unfold maxLen; omega) (by omega) (by simp; omega) (wr.heap.size + 2) (by simp) ?_
      intro gb cap w3 hown hgrow hat hlt3
      rw [hln] at hown
      have hO3 := OwnL.grew (x := (12, g) :: loadsP l.p j) (y := [(2, pickP (wrap64 (l.p + j)) 5)]) hln.symm rfl rfl hown
      have hB3 := below_grown hgrow (OwnL.own HO.out) (by simp; omega)
      have HB3 : Hid (Below w.heap.size w w3) := ((HB.out.alloc hwb _).alloc (by simp; omega) _).trans (hB3.mono (by omega))
      have hc3 : w3.cell? ⟨w.heap.size, 2, none⟩ = some (.int .i64 l.p) := (hB3.cell (p := ⟨w.heap.size, 2, none⟩) (by show w.heap.size < w.heap.size + 1; omega)).trans (made_cell (made_cell hc hz) (by simp; omega))
      have HO3 : Hid (OwnL w3 (w.heap.size + 1) (.slice (some ⟨gb, 0, none⟩) (j + 1 + 1) cap) ((12, g) :: loadsP l.p (j + 1))) := by
        have e : (12, g) :: loadsP l.p (j + 1) = ((12, g) :: loadsP l.p j) ++ [(2, pickP (wrap64 (l.p + j)) 5)] := by rw [wrapK]; rfl
        unfold Hid
        rw [e]
        exact hO3
      have hz3 : w.heap.size < w3.heap.size := by have := hB3.size; simp at this; omega
      clear hO3 hB3 hown hgrow
      go_wp2
      go_roundw
      case rel => exact ⟨j + 1, by omega, by go_num, HB3.out, hc3, hz3, HO3.out⟩
      case measure => simp [intOf]; omega
    · have hd : decide ((j : Int) < g) = false := by simp; omega
      have hjg : (j : Int) = g := by omega
      have hln : ((12, g) :: loadsP l.p j).length = j + 1 := by simp [loads_len]
      have hwb : w.heap.size ≤ wr.heap.size := HB.out.size
      go_wp2_with (first
        | (go_at_call 32; refine (keepArgs_any _ _).mono ?_; rintro e w' ⟨rfl, hw'⟩; rw [hw']; clear hw' w')
        | (go_at_call 43; refine (keepStore_any _ _).mono ?_; rintro e w' ⟨rfl, hw'⟩; rw [hw']; clear hw' w')
        | (at_builtin; refine stopHere ?_))
      refine ⟨?_, trivial⟩
      refine wpList_append_lies _ rfl _ _ _ rfl (w.heap.size + 1) 33 inf _ 2 16 Tryz.underlying29 hi hz0 hz1 hz2 rfl (by decide) _ ((12, g) :: loadsP l.p j).length _ rfl (World.ownsRow.alloc (World.ownsRow.alloc HO.out _) _) ⟨wr.heap.size + 1, 0, none⟩ 2 2 [.int .i64 13, .int .i64 g, .int .i64 3, .int .i64 (pickP l.q 5)] rfl rfl (World.news_of_block (blk_at _ _ _ (by simp))) (by intro u hu; simp at hu; rcases hu with rfl | rfl | rfl | rfl <;> rfl) (by omega) (by unfold maxLen; omega) (by omega) (by simp; omega) (wr.heap.size + 2) (by simp) ?_
      intro gb cap w3 hown hgrow hat hlt3
      rw [hln] at hown
      have hO3 := OwnL.grew (x := (12, g) :: loadsP l.p j) (y := [(13, g), (3, pickP l.q 5)]) hln.symm rfl rfl hown
      have hB3 := below_grown hgrow (OwnL.own HO.out) (by simp; omega)
      have HB3 : Hid (Below w.heap.size w w3) := ((HB.out.alloc hwb _).alloc (by simp; omega) _).trans (hB3.mono (by omega))
      have HO3 := hidK hO3
      clear hO3 hB3 hown hgrow
      go_wp2
      go_ret
      have hgj : g.toNat = j := by omega
      rw [hgj]
      show Gave (((12, g) :: loadsP l.p j) ++ [(13, g), (3, pickP l.q 5)]) w (.returned (.slice (some ⟨gb, 0, none⟩) (j + 1 + 2) cap)) w3
      exact (OwnL.wider HO3.out (by omega)).gave (by simp) HB3.out

theorem line_any (l : Ln) (hl : LnOk l) (w : World) : Calls Tryz.prog 30 #[lnV l] w (Gave (lineP l) w) := by
  have h := pickP_bd l.kind (n := 10) (by omega)
  have hc : pickP l.kind 10 = 0 ∨ pickP l.kind 10 = 1 ∨ pickP l.kind 10 = 2 ∨ pickP l.kind 10 = 3 ∨ pickP l.kind 10 = 4 ∨ pickP l.kind 10 = 5 ∨ pickP l.kind 10 = 6 ∨ pickP l.kind 10 = 7 ∨ pickP l.kind 10 = 8 ∨ pickP l.kind 10 = 9 := by omega
  rcases hc with e | e | e | e | e | e | e | e | e | e
  · exact line_0 l hl w e
  · exact line_1 l hl w e
  · exact line_2 l hl w e
  · exact line_3 l hl w e
  · exact line_4 l hl w e
  · exact line_5 l hl w e
  · exact line_6 l hl w e
  · exact line_7 l hl w e
  · exact line_8 l hl w e
  · exact line_9 l hl w e
end Go.Proofs.YtkafkipjedpohaaGreatDoor
