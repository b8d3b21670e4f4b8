import Derived.Test.YtkafkipjedpohaaGreatDoorWd
import Derived.Test.YtkafkipjedpohaaGreatDoorPureA

/-
  Package upshiftkeep: pick, args, the instructions.
-/
namespace Go.Proofs.YtkafkipjedpohaaGreatDoor
open Go.RowKit

/-- A number of 64 bits. -/
def I64 (n : Int) : Prop := -9223372036854775808 ≤ n ∧ n ≤ 9223372036854775807

theorem keepPick_any (c n : Int) (w : World) (hc : I64 c) (hn : 0 < n ∧ n ≤ 100000) :
    Calls Tryz.prog 14 #[.int .i64 c, .int .i64 n] w fun e w' => e = .returned (.int .i64 (pickP c n)) ∧ w' = w := by
  obtain ⟨h1, h2⟩ := hc
  obtain ⟨h3, h4⟩ := hn
  have hn0 : ¬ n = 0 := by omega
  by_cases h : c < 0
  · have hd : decide (c < 0) = true := by simp [h]
    have e1 : wrap64 (c + 1) = c + 1 := by unfold wrap64; omega
    have e2 : wrap64 (-(c + 1)) = -(c + 1) := by unfold wrap64; omega
    have e3 : (-(c + 1)).tmod n = (-(c + 1)) % n := Int.tmod_eq_emod_of_nonneg (by omega)
    have e4 : wrap64 ((-(c + 1)) % n) = (-(c + 1)) % n := by
      have := Int.emod_nonneg (-(c + 1)) hn0
      have := Int.emod_lt_of_pos (-(c + 1)) h3
      unfold wrap64; omega
    have e5 : pickP c n = (-(c + 1)) % n := by unfold pickP; rw [if_pos h]
    go_enter Tryz.func14, Tryz.ntmps14
    go_wp2
    go_ret
    rw [e5]
    simp_all
  · have hd : decide (c < 0) = false := by simp [h]
    have e3 : c.tmod n = c % n := Int.tmod_eq_emod_of_nonneg (by omega)
    have e4 : wrap64 (c % n) = c % n := by
      have := Int.emod_nonneg c hn0
      have := Int.emod_lt_of_pos c h3
      unfold wrap64; omega
    have e5 : pickP c n = c % n := by unfold pickP; rw [if_neg h]
    go_enter Tryz.func14, Tryz.ntmps14
    go_wp2
    go_ret
    exact ⟨rfl, rfl⟩

theorem keepArgs_any (f : Int) (w : World) : Calls Tryz.prog 32 #[.int .i64 f] w fun e w' => e = .returned (.int .i64 f) ∧ w' = w := by
  go_enter Tryz.func32, Tryz.ntmps32
  go_wp2
  go_ret
  exact ⟨rfl, rfl⟩

/-- A world with one instruction's block more. -/
def insW (w : World) (o a : Int) : World := w.alloc (.cells #[.int .i64 o, .int .i64 a] 33)

theorem keepLoad_any (k : Int) (w : World) : Calls Tryz.prog 15 #[.int .i64 k] w fun e w' => e = .returned (.agg #[.int .i64 2, .int .i64 k]) ∧ w' = w.alloc (.cells #[.int .i64 2, .int .i64 k] 33) := by
  go_enter Tryz.func15, Tryz.ntmps15
  go_wp2
  exact bodyPost_ret (v := .agg #[.int .i64 2, .int .i64 k]) (by simp [results, Tryz.results15, go_sem]) rfl ⟨rfl, rfl⟩
theorem keepStore_any (k : Int) (w : World) : Calls Tryz.prog 43 #[.int .i64 k] w fun e w' => e = .returned (.agg #[.int .i64 3, .int .i64 k]) ∧ w' = w.alloc (.cells #[.int .i64 3, .int .i64 k] 33) := by
  go_enter Tryz.func43, Tryz.ntmps43
  go_wp2
  exact bodyPost_ret (v := .agg #[.int .i64 3, .int .i64 k]) (by simp [results, Tryz.results43, go_sem]) rfl ⟨rfl, rfl⟩
theorem keepConst_any (k : Int) (w : World) : Calls Tryz.prog 33 #[.int .i64 k] w fun e w' => e = .returned (.agg #[.int .i64 0, .int .i64 k]) ∧ w' = w.alloc (.cells #[.int .i64 0, .int .i64 k] 33) := by
  go_enter Tryz.func33, Tryz.ntmps33
  go_wp2
  exact bodyPost_ret (v := .agg #[.int .i64 0, .int .i64 k]) (by simp [results, Tryz.results33, go_sem]) rfl ⟨rfl, rfl⟩
theorem keepOp_any (k : Int) (w : World) : Calls Tryz.prog 16 #[.int .i64 k] w fun e w' => e = .returned (.agg #[.int .i64 k, .int .i64 0]) ∧ w' = w.alloc (.cells #[.int .i64 k, .int .i64 0] 33) := by
  go_enter Tryz.func16, Tryz.ntmps16
  go_wp2
  exact bodyPost_ret (v := .agg #[.int .i64 k, .int .i64 0]) (by simp [results, Tryz.results16, go_sem]) rfl ⟨rfl, rfl⟩
end Go.Proofs.YtkafkipjedpohaaGreatDoor

/-
  Package upshiftkeep: the instructions of a line.
-/
namespace Go.Proofs.YtkafkipjedpohaaGreatDoor
open Go.RowKit

/-- A line as it is handed in. -/
def lnV (l : Ln) : Value := .agg #[.int .i64 l.i, .int .i64 l.kind, .int .i64 l.p, .int .i64 l.q, .int .i64 l.r, .int .i64 l.loop, .int .i64 l.num]
structure LnOk (l : Ln) : Prop where
  i : I64 l.i
  kind : I64 l.kind
  p : I64 l.p
  q : I64 l.q
  r : I64 l.r
  loop : I64 l.loop
  num : I64 l.num

/-- The cells of a list of instructions. -/
def icells (x : List (Int × Int)) : List Value := x.flatMap fun y => [.int .i64 y.1, .int .i64 y.2]
theorem icells_len (x : List (Int × Int)) : (icells x).length = x.length * 2 := by
  induction x with
  | nil => rfl
  | cons y x ih => simp [icells] at ih ⊢; omega
theorem icells_cons (y : Int × Int) (x : List (Int × Int)) : icells (y :: x) = .int .i64 y.1 :: .int .i64 y.2 :: icells x := rfl
theorem icells_append (x y : List (Int × Int)) : icells (x ++ y) = icells x ++ icells y := by simp [icells]

/-- A list of instructions in block b, from its beginning on. -/
def ListAt (w : World) (b : Nat) (x : List (Int × Int)) : Prop := ∀ j u, (icells x)[j]? = some u → w.cell? ⟨b, j, none⟩ = some u

/-- What a call that makes a list of instructions answers. -/
def Gave (x : List (Int × Int)) (w : World) (e : Ending) (w' : World) : Prop :=
  ∃ b cap, e = .returned (.slice (some ⟨b, 0, none⟩) x.length cap) ∧ Below w.heap.size w w' ∧ w.heap.size ≤ b ∧ b < w'.heap.size ∧ x.length ≤ cap ∧ ListAt w' b x

theorem cell_made (w : World) (c : Array Value) (t : TypeId) (B i : Nat) (hB : B = w.heap.size) : (w.alloc (.cells c t)).cell? ⟨B, i, none⟩ = c[i]? := by
  subst hB
  unfold World.cell?
  rw [Go.Deep.blk_alloc_new]
  rfl

theorem gave_new {w v : World} {b : Nat} {x : List (Int × Int)} {t : TypeId} (h : Below w.heap.size w v) (hb : b = v.heap.size) (n cap : Nat) (hn : n = x.length) (hc : n ≤ cap) (cs : Array Value) (hcs : cs = (icells x).toArray) :
    Gave x w (.returned (.slice (some ⟨b, 0, none⟩) n cap)) (v.alloc (.cells cs t)) := by
  subst hb hn hcs
  have := h.size
  refine ⟨_, cap, rfl, h.alloc this _, this, by simp, hc, fun j u hu => ?_⟩
  rw [cell_made v _ _ _ _ rfl]
  simpa using hu

set_option maxRecDepth 100000 in
set_option maxHeartbeats 1000000 in
theorem line_0 (l : Ln) (hl : LnOk l) (w : World) (hk : pickP l.kind 10 = 0) : Calls Tryz.prog 30 #[lnV l] w (Gave (lineP l) w) := by
  have hx : lineP l = [(0, l.num), (3, pickP l.p 5)] := by simp [lineP, hk]
  have hq6 := pickP_bd l.q (n := 6) (by omega)
  have e6 : wrap64 (4 + pickP l.q 6) = 4 + pickP l.q 6 := by unfold wrap64; omega
  rw [hx]
  obtain ⟨_, h2, h3, h4, h5, _, _⟩ := hl
  clear hx hq6
  unfold lnV
  go_enter Tryz.func30, Tryz.ntmps30
  go_wp2_with (first
    | (go_at_call 14; refine (keepPick_any _ _ _ (by assumption) (by omega)).mono ?_; rintro e w' ⟨rfl, rfl⟩)
    | (go_at_call 15; refine (keepLoad_any _ _).mono ?_; rintro e w' ⟨rfl, rfl⟩)
    | (go_at_call 43; refine (keepStore_any _ _).mono ?_; rintro e w' ⟨rfl, rfl⟩)
    | (go_at_call 33; refine (keepConst_any _ _).mono ?_; rintro e w' ⟨rfl, rfl⟩)
    | (go_at_call 16; refine (keepOp_any _ _).mono ?_; rintro e w' ⟨rfl, rfl⟩))
  go_ret
  refine gave_new ?_ (by simp) _ _ (by simp) (by simp) _ (by simp [icells])
  repeat (first | exact Below.refl _ _ | refine Below.alloc ?_ (by first | omega | (simp; done) | (simp; omega)) _)

set_option maxRecDepth 100000 in
set_option maxHeartbeats 1000000 in
theorem line_1 (l : Ln) (hl : LnOk l) (w : World) (hk : pickP l.kind 10 = 1) : Calls Tryz.prog 30 #[lnV l] w (Gave (lineP l) w) := by
  have hx : lineP l = [(2, pickP l.p 5), (2, pickP l.q 5), (4 + pickP l.q 6, 0), (3, pickP l.r 5)] := by simp [lineP, hk]
  have hq6 := pickP_bd l.q (n := 6) (by omega)
  have e6 : wrap64 (4 + pickP l.q 6) = 4 + pickP l.q 6 := by unfold wrap64; omega
  rw [hx]
  obtain ⟨_, h2, h3, h4, h5, _, _⟩ := hl
  clear hx hq6
  unfold lnV
  go_enter Tryz.func30, Tryz.ntmps30
  go_wp2_with (first
    | (go_at_call 14; refine (keepPick_any _ _ _ (by assumption) (by omega)).mono ?_; rintro e w' ⟨rfl, rfl⟩)
    | (go_at_call 15; refine (keepLoad_any _ _).mono ?_; rintro e w' ⟨rfl, rfl⟩)
    | (go_at_call 43; refine (keepStore_any _ _).mono ?_; rintro e w' ⟨rfl, rfl⟩)
    | (go_at_call 33; refine (keepConst_any _ _).mono ?_; rintro e w' ⟨rfl, rfl⟩)
    | (go_at_call 16; refine (keepOp_any _ _).mono ?_; rintro e w' ⟨rfl, rfl⟩))
  go_ret
  refine gave_new ?_ (by simp) _ _ (by simp) (by simp) _ (by simp [icells])
  repeat (first | exact Below.refl _ _ | refine Below.alloc ?_ (by first | omega | (simp; done) | (simp; omega)) _)

set_option maxRecDepth 100000 in
set_option maxHeartbeats 1000000 in
theorem line_3 (l : Ln) (hl : LnOk l) (w : World) (hk : pickP l.kind 10 = 3) : Calls Tryz.prog 30 #[lnV l] w (Gave (lineP l) w) := by
  have hx : lineP l = [(2, pickP l.p 5), (19, 0)] := by simp [lineP, hk]
  have hq6 := pickP_bd l.q (n := 6) (by omega)
  have e6 : wrap64 (4 + pickP l.q 6) = 4 + pickP l.q 6 := by unfold wrap64; omega
  rw [hx]
  obtain ⟨_, h2, h3, h4, h5, _, _⟩ := hl
  clear hx hq6
  unfold lnV
  go_enter Tryz.func30, Tryz.ntmps30
  go_wp2_with (first
    | (go_at_call 14; refine (keepPick_any _ _ _ (by assumption) (by omega)).mono ?_; rintro e w' ⟨rfl, rfl⟩)
    | (go_at_call 15; refine (keepLoad_any _ _).mono ?_; rintro e w' ⟨rfl, rfl⟩)
    | (go_at_call 43; refine (keepStore_any _ _).mono ?_; rintro e w' ⟨rfl, rfl⟩)
    | (go_at_call 33; refine (keepConst_any _ _).mono ?_; rintro e w' ⟨rfl, rfl⟩)
    | (go_at_call 16; refine (keepOp_any _ _).mono ?_; rintro e w' ⟨rfl, rfl⟩))
  go_ret
  refine gave_new ?_ (by simp) _ _ (by simp) (by simp) _ (by simp [icells])
  repeat (first | exact Below.refl _ _ | refine Below.alloc ?_ (by first | omega | (simp; done) | (simp; omega)) _)

set_option maxRecDepth 100000 in
set_option maxHeartbeats 1000000 in
theorem line_5 (l : Ln) (hl : LnOk l) (w : World) (hk : pickP l.kind 10 = 5) : Calls Tryz.prog 30 #[lnV l] w (Gave (lineP l) w) := by
  have hx : lineP l = [(0, pickP l.r 9), (15, 0), (3, pickP l.p 5)] := by simp [lineP, hk]
  have hq6 := pickP_bd l.q (n := 6) (by omega)
  have e6 : wrap64 (4 + pickP l.q 6) = 4 + pickP l.q 6 := by unfold wrap64; omega
  rw [hx]
  obtain ⟨_, h2, h3, h4, h5, _, _⟩ := hl
  clear hx hq6
  unfold lnV
  go_enter Tryz.func30, Tryz.ntmps30
  go_wp2_with (first
    | (go_at_call 14; refine (keepPick_any _ _ _ (by assumption) (by omega)).mono ?_; rintro e w' ⟨rfl, rfl⟩)
    | (go_at_call 15; refine (keepLoad_any _ _).mono ?_; rintro e w' ⟨rfl, rfl⟩)
    | (go_at_call 43; refine (keepStore_any _ _).mono ?_; rintro e w' ⟨rfl, rfl⟩)
    | (go_at_call 33; refine (keepConst_any _ _).mono ?_; rintro e w' ⟨rfl, rfl⟩)
    | (go_at_call 16; refine (keepOp_any _ _).mono ?_; rintro e w' ⟨rfl, rfl⟩))
  go_ret
  refine gave_new ?_ (by simp) _ _ (by simp) (by simp) _ (by simp [icells])
  repeat (first | exact Below.refl _ _ | refine Below.alloc ?_ (by first | omega | (simp; done) | (simp; omega)) _)

set_option maxRecDepth 100000 in
set_option maxHeartbeats 1000000 in
theorem line_6 (l : Ln) (hl : LnOk l) (w : World) (hk : pickP l.kind 10 = 6) : Calls Tryz.prog 30 #[lnV l] w (Gave (lineP l) w) := by
  have hx : lineP l = [(2, pickP l.p 5), (2, pickP l.q 5), (16, 0), (3, pickP l.r 5)] := by simp [lineP, hk]
  have hq6 := pickP_bd l.q (n := 6) (by omega)
  have e6 : wrap64 (4 + pickP l.q 6) = 4 + pickP l.q 6 := by unfold wrap64; omega
  rw [hx]
  obtain ⟨_, h2, h3, h4, h5, _, _⟩ := hl
  clear hx hq6
  unfold lnV
  go_enter Tryz.func30, Tryz.ntmps30
  go_wp2_with (first
    | (go_at_call 14; refine (keepPick_any _ _ _ (by assumption) (by omega)).mono ?_; rintro e w' ⟨rfl, rfl⟩)
    | (go_at_call 15; refine (keepLoad_any _ _).mono ?_; rintro e w' ⟨rfl, rfl⟩)
    | (go_at_call 43; refine (keepStore_any _ _).mono ?_; rintro e w' ⟨rfl, rfl⟩)
    | (go_at_call 33; refine (keepConst_any _ _).mono ?_; rintro e w' ⟨rfl, rfl⟩)
    | (go_at_call 16; refine (keepOp_any _ _).mono ?_; rintro e w' ⟨rfl, rfl⟩))
  go_ret
  refine gave_new ?_ (by simp) _ _ (by simp) (by simp) _ (by simp [icells])
  repeat (first | exact Below.refl _ _ | refine Below.alloc ?_ (by first | omega | (simp; done) | (simp; omega)) _)

set_option maxRecDepth 100000 in
set_option maxHeartbeats 1000000 in
theorem line_7 (l : Ln) (hl : LnOk l) (w : World) (hk : pickP l.kind 10 = 7) : Calls Tryz.prog 30 #[lnV l] w (Gave (lineP l) w) := by
  have hx : lineP l = [(2, pickP l.p 5), (2, pickP l.q 5), (2, pickP l.r 5), (17, 0)] := by simp [lineP, hk]
  have hq6 := pickP_bd l.q (n := 6) (by omega)
  have e6 : wrap64 (4 + pickP l.q 6) = 4 + pickP l.q 6 := by unfold wrap64; omega
  rw [hx]
  obtain ⟨_, h2, h3, h4, h5, _, _⟩ := hl
  clear hx hq6
  unfold lnV
  go_enter Tryz.func30, Tryz.ntmps30
  go_wp2_with (first
    | (go_at_call 14; refine (keepPick_any _ _ _ (by assumption) (by omega)).mono ?_; rintro e w' ⟨rfl, rfl⟩)
    | (go_at_call 15; refine (keepLoad_any _ _).mono ?_; rintro e w' ⟨rfl, rfl⟩)
    | (go_at_call 43; refine (keepStore_any _ _).mono ?_; rintro e w' ⟨rfl, rfl⟩)
    | (go_at_call 33; refine (keepConst_any _ _).mono ?_; rintro e w' ⟨rfl, rfl⟩)
    | (go_at_call 16; refine (keepOp_any _ _).mono ?_; rintro e w' ⟨rfl, rfl⟩))
  go_ret
  refine gave_new ?_ (by simp) _ _ (by simp) (by simp) _ (by simp [icells])
  repeat (first | exact Below.refl _ _ | refine Below.alloc ?_ (by first | omega | (simp; done) | (simp; omega)) _)

set_option maxRecDepth 100000 in
set_option maxHeartbeats 1000000 in
theorem line_8 (l : Ln) (hl : LnOk l) (w : World) (hk : pickP l.kind 10 = 8) : Calls Tryz.prog 30 #[lnV l] w (Gave (lineP l) w) := by
  have hx : lineP l = [(2, pickP l.p 5), (21, 0), (20, 0), (18, 0), (3, pickP l.q 5)] := by simp [lineP, hk]
  have hq6 := pickP_bd l.q (n := 6) (by omega)
  have e6 : wrap64 (4 + pickP l.q 6) = 4 + pickP l.q 6 := by unfold wrap64; omega
  rw [hx]
  obtain ⟨_, h2, h3, h4, h5, _, _⟩ := hl
  clear hx hq6
  unfold lnV
  go_enter Tryz.func30, Tryz.ntmps30
  go_wp2_with (first
    | (go_at_call 14; refine (keepPick_any _ _ _ (by assumption) (by omega)).mono ?_; rintro e w' ⟨rfl, rfl⟩)
    | (go_at_call 15; refine (keepLoad_any _ _).mono ?_; rintro e w' ⟨rfl, rfl⟩)
    | (go_at_call 43; refine (keepStore_any _ _).mono ?_; rintro e w' ⟨rfl, rfl⟩)
    | (go_at_call 33; refine (keepConst_any _ _).mono ?_; rintro e w' ⟨rfl, rfl⟩)
    | (go_at_call 16; refine (keepOp_any _ _).mono ?_; rintro e w' ⟨rfl, rfl⟩))
  go_ret
  refine gave_new ?_ (by simp) _ _ (by simp) (by simp) _ (by simp [icells])
  repeat (first | exact Below.refl _ _ | refine Below.alloc ?_ (by first | omega | (simp; done) | (simp; omega)) _)

set_option maxRecDepth 100000 in
set_option maxHeartbeats 1000000 in
theorem line_9 (l : Ln) (hl : LnOk l) (w : World) (hk : pickP l.kind 10 = 9) : Calls Tryz.prog 30 #[lnV l] w (Gave (lineP l) w) := by
  have hx : lineP l = [(12, pickP l.r 3), (3, pickP l.p 5), (1, 0), (20, 0)] := by simp [lineP, hk]
  have hq6 := pickP_bd l.q (n := 6) (by omega)
  have e6 : wrap64 (4 + pickP l.q 6) = 4 + pickP l.q 6 := by unfold wrap64; omega
  rw [hx]
  obtain ⟨_, h2, h3, h4, h5, _, _⟩ := hl
  clear hx hq6
  unfold lnV
  go_enter Tryz.func30, Tryz.ntmps30
  go_wp2_with (first
    | (go_at_call 14; refine (keepPick_any _ _ _ (by assumption) (by omega)).mono ?_; rintro e w' ⟨rfl, rfl⟩)
    | (go_at_call 15; refine (keepLoad_any _ _).mono ?_; rintro e w' ⟨rfl, rfl⟩)
    | (go_at_call 43; refine (keepStore_any _ _).mono ?_; rintro e w' ⟨rfl, rfl⟩)
    | (go_at_call 33; refine (keepConst_any _ _).mono ?_; rintro e w' ⟨rfl, rfl⟩)
    | (go_at_call 16; refine (keepOp_any _ _).mono ?_; rintro e w' ⟨rfl, rfl⟩))
  go_ret
  refine gave_new ?_ (by simp) _ _ (by simp) (by simp) _ (by simp [icells])
  repeat (first | exact Below.refl _ _ | refine Below.alloc ?_ (by first | omega | (simp; done) | (simp; omega)) _)

end Go.Proofs.YtkafkipjedpohaaGreatDoor
