/-
  Package upshiftkeep: the instructions of a line.
-/
import Derived.Test.YtnhjjjijeeobbaaDoorK1
namespace Go.Proofs.YtnhjjjijeeobbaaDoor
open Go.RowKit

/-- A line as it is handed in. -/
def lnV (l : Ln) : Value := .agg #[.int .i64 l.i, .int .i64 l.kind, .int .i64 l.p, .int .i64 l.q, .int .i64 l.r, .int .i64 l.loop, .int .i64 l.num]
structure LnOk (l : Ln) : Prop where
  i : I64 l.i
  kind : I64 l.kind
  p : I64 l.p
  q : I64 l.q
  r : I64 l.r
  loop : I64 l.loop
  num : I64 l.num

/-- The cells of a list of instructions. -/
def icells (x : List (Int × Int)) : List Value := x.flatMap fun y => [.int .i64 y.1, .int .i64 y.2]
theorem icells_len (x : List (Int × Int)) : (icells x).length = x.length * 2 := by
  induction x with
  | nil => rfl
  | cons y x ih => simp [icells] at ih ⊢; omega
theorem icells_cons (y : Int × Int) (x : List (Int × Int)) : icells (y :: x) = .int .i64 y.1 :: .int .i64 y.2 :: icells x := rfl
theorem icells_append (x y : List (Int × Int)) : icells (x ++ y) = icells x ++ icells y := by simp [icells]

/-- A list of instructions in block b, from its beginning on. -/
def ListAt (w : World) (b : Nat) (x : List (Int × Int)) : Prop := ∀ j u, (icells x)[j]? = some u → w.cell? ⟨b, j, none⟩ = some u

/-- What a call that makes a list of instructions answers. -/
def Gave (x : List (Int × Int)) (w : World) (e : Ending) (w' : World) : Prop :=
  ∃ b cap, e = .returned (.slice (some ⟨b, 0, none⟩) x.length cap) ∧ Below w.heap.size w w' ∧ w.heap.size ≤ b ∧ b < w'.heap.size ∧ x.length ≤ cap ∧ ListAt w' b x

theorem cell_made (w : World) (c : Array Value) (t : TypeId) (B i : Nat) (hB : B = w.heap.size) : (w.alloc (.cells c t)).cell? ⟨B, i, none⟩ = c[i]? := by
  subst hB
  unfold World.cell?
  rw [Go.Deep.blk_alloc_new]
  rfl

theorem gave_new {w v : World} {b : Nat} {x : List (Int × Int)} {t : TypeId} (h : Below w.heap.size w v) (hb : b = v.heap.size) (n cap : Nat) (hn : n = x.length) (hc : n ≤ cap) (cs : Array Value) (hcs : cs = (icells x).toArray) :
    Gave x w (.returned (.slice (some ⟨b, 0, none⟩) n cap)) (v.alloc (.cells cs t)) := by
  subst hb hn hcs
  have := h.size
  refine ⟨_, cap, rfl, h.alloc this _, this, by simp, hc, fun j u hu => ?_⟩
  rw [cell_made v _ _ _ _ rfl]
  simpa using hu

set_option maxRecDepth 100000 in
set_option maxHeartbeats 1000000 in
theorem line_0 (l : Ln) (hl : LnOk l) (w : World) (hk : pickP l.kind 10 = 0) : Calls Tryd.prog 26 #[lnV l] w (Gave (lineP l) w) := by
  have hx : lineP l = [(0, l.num), (3, pickP l.p 5)] := by simp [lineP, hk]
  have hq6 := pickP_bd l.q (n := 6) (by omega)
  have e6 : wrap64 (4 + pickP l.q 6) = 4 + pickP l.q 6 := by unfold wrap64; omega
  rw [hx]
  obtain ⟨_, h2, h3, h4, h5, _, _⟩ := hl
  clear hx hq6
  unfold lnV
  go_enter Tryd.func26, Tryd.ntmps26
  go_wp2_with (first
    | (go_at_call 11; refine (keepPick_any _ _ _ (by assumption) (by omega)).mono ?_; rintro e w' ⟨rfl, rfl⟩)
    | (go_at_call 12; refine (keepLoad_any _ _).mono ?_; rintro e w' ⟨rfl, rfl⟩)
    | (go_at_call 40; refine (keepStore_any _ _).mono ?_; rintro e w' ⟨rfl, rfl⟩)
    | (go_at_call 29; refine (keepConst_any _ _).mono ?_; rintro e w' ⟨rfl, rfl⟩)
    | (go_at_call 13; refine (keepOp_any _ _).mono ?_; rintro e w' ⟨rfl, rfl⟩))
  go_ret
  refine gave_new ?_ (by simp) _ _ (by simp) (by simp) _ (by simp [icells])
  repeat (first | exact Below.refl _ _ | refine Below.alloc ?_ (by first | omega | (simp; done) | (simp; omega)) _)

set_option maxRecDepth 100000 in
set_option maxHeartbeats 1000000 in
theorem line_1 (l : Ln) (hl : LnOk l) (w : World) (hk : pickP l.kind 10 = 1) : Calls Tryd.prog 26 #[lnV l] w (Gave (lineP l) w) := by
  have hx : lineP l = [(2, pickP l.p 5), (2, pickP l.q 5), (4 + pickP l.q 6, 0), (3, pickP l.r 5)] := by simp [lineP, hk]
  have hq6 := pickP_bd l.q (n := 6) (by omega)
  have e6 : wrap64 (4 + pickP l.q 6) = 4 + pickP l.q 6 := by unfold wrap64; omega
  rw [hx]
  obtain ⟨_, h2, h3, h4, h5, _, _⟩ := hl
  clear hx hq6
  unfold lnV
  go_enter Tryd.func26, Tryd.ntmps26
  go_wp2_with (first
    | (go_at_call 11; refine (keepPick_any _ _ _ (by assumption) (by omega)).mono ?_; rintro e w' ⟨rfl, rfl⟩)
    | (go_at_call 12; refine (keepLoad_any _ _).mono ?_; rintro e w' ⟨rfl, rfl⟩)
    | (go_at_call 40; refine (keepStore_any _ _).mono ?_; rintro e w' ⟨rfl, rfl⟩)
    | (go_at_call 29; refine (keepConst_any _ _).mono ?_; rintro e w' ⟨rfl, rfl⟩)
    | (go_at_call 13; refine (keepOp_any _ _).mono ?_; rintro e w' ⟨rfl, rfl⟩))
  go_ret
  refine gave_new ?_ (by simp) _ _ (by simp) (by simp) _ (by simp [icells])
  repeat (first | exact Below.refl _ _ | refine Below.alloc ?_ (by first | omega | (simp; done) | (simp; omega)) _)

set_option maxRecDepth 100000 in
set_option maxHeartbeats 1000000 in
theorem line_3 (l : Ln) (hl : LnOk l) (w : World) (hk : pickP l.kind 10 = 3) : Calls Tryd.prog 26 #[lnV l] w (Gave (lineP l) w) := by
  have hx : lineP l = [(2, pickP l.p 5), (19, 0)] := by simp [lineP, hk]
  have hq6 := pickP_bd l.q (n := 6) (by omega)
  have e6 : wrap64 (4 + pickP l.q 6) = 4 + pickP l.q 6 := by unfold wrap64; omega
  rw [hx]
  obtain ⟨_, h2, h3, h4, h5, _, _⟩ := hl
  clear hx hq6
  unfold lnV
  go_enter Tryd.func26, Tryd.ntmps26
  go_wp2_with (first
    | (go_at_call 11; refine (keepPick_any _ _ _ (by assumption) (by omega)).mono ?_; rintro e w' ⟨rfl, rfl⟩)
    | (go_at_call 12; refine (keepLoad_any _ _).mono ?_; rintro e w' ⟨rfl, rfl⟩)
    | (go_at_call 40; refine (keepStore_any _ _).mono ?_; rintro e w' ⟨rfl, rfl⟩)
    | (go_at_call 29; refine (keepConst_any _ _).mono ?_; rintro e w' ⟨rfl, rfl⟩)
    | (go_at_call 13; refine (keepOp_any _ _).mono ?_; rintro e w' ⟨rfl, rfl⟩))
  go_ret
  refine gave_new ?_ (by simp) _ _ (by simp) (by simp) _ (by simp [icells])
  repeat (first | exact Below.refl _ _ | refine Below.alloc ?_ (by first | omega | (simp; done) | (simp; omega)) _)

set_option maxRecDepth 100000 in
set_option maxHeartbeats 1000000 in
theorem line_5 (l : Ln) (hl : LnOk l) (w : World) (hk : pickP l.kind 10 = 5) : Calls Tryd.prog 26 #[lnV l] w (Gave (lineP l) w) := by
  have hx : lineP l = [(0, pickP l.r 9), (15, 0), (3, pickP l.p 5)] := by simp [lineP, hk]
  have hq6 := pickP_bd l.q (n := 6) (by omega)
  have e6 : wrap64 (4 + pickP l.q 6) = 4 + pickP l.q 6 := by unfold wrap64; omega
  rw [hx]
  obtain ⟨_, h2, h3, h4, h5, _, _⟩ := hl
  clear hx hq6
  unfold lnV
  go_enter Tryd.func26, Tryd.ntmps26
  go_wp2_with (first
    | (go_at_call 11; refine (keepPick_any _ _ _ (by assumption) (by omega)).mono ?_; rintro e w' ⟨rfl, rfl⟩)
    | (go_at_call 12; refine (keepLoad_any _ _).mono ?_; rintro e w' ⟨rfl, rfl⟩)
    | (go_at_call 40; refine (keepStore_any _ _).mono ?_; rintro e w' ⟨rfl, rfl⟩)
    | (go_at_call 29; refine (keepConst_any _ _).mono ?_; rintro e w' ⟨rfl, rfl⟩)
    | (go_at_call 13; refine (keepOp_any _ _).mono ?_; rintro e w' ⟨rfl, rfl⟩))
  go_ret
  refine gave_new ?_ (by simp) _ _ (by simp) (by simp) _ (by simp [icells])
  repeat (first | exact Below.refl _ _ | refine Below.alloc ?_ (by first | omega | (simp; done) | (simp; omega)) _)

set_option maxRecDepth 100000 in
set_option maxHeartbeats 1000000 in
theorem line_6 (l : Ln) (hl : LnOk l) (w : World) (hk : pickP l.kind 10 = 6) : Calls Tryd.prog 26 #[lnV l] w (Gave (lineP l) w) := by
  have hx : lineP l = [(2, pickP l.p 5), (2, pickP l.q 5), (16, 0), (3, pickP l.r 5)] := by simp [lineP, hk]
  have hq6 := pickP_bd l.q (n := 6) (by omega)
  have e6 : wrap64 (4 + pickP l.q 6) = 4 + pickP l.q 6 := by unfold wrap64; omega
  rw [hx]
  obtain ⟨_, h2, h3, h4, h5, _, _⟩ := hl
  clear hx hq6
  unfold lnV
  go_enter Tryd.func26, Tryd.ntmps26
  go_wp2_with (first
    | (go_at_call 11; refine (keepPick_any _ _ _ (by assumption) (by omega)).mono ?_; rintro e w' ⟨rfl, rfl⟩)
    | (go_at_call 12; refine (keepLoad_any _ _).mono ?_; rintro e w' ⟨rfl, rfl⟩)
    | (go_at_call 40; refine (keepStore_any _ _).mono ?_; rintro e w' ⟨rfl, rfl⟩)
    | (go_at_call 29; refine (keepConst_any _ _).mono ?_; rintro e w' ⟨rfl, rfl⟩)
    | (go_at_call 13; refine (keepOp_any _ _).mono ?_; rintro e w' ⟨rfl, rfl⟩))
  go_ret
  refine gave_new ?_ (by simp) _ _ (by simp) (by simp) _ (by simp [icells])
  repeat (first | exact Below.refl _ _ | refine Below.alloc ?_ (by first | omega | (simp; done) | (simp; omega)) _)

set_option maxRecDepth 100000 in
set_option maxHeartbeats 1000000 in
theorem line_7 (l : Ln) (hl : LnOk l) (w : World) (hk : pickP l.kind 10 = 7) : Calls Tryd.prog 26 #[lnV l] w (Gave (lineP l) w) := by
  have hx : lineP l = [(2, pickP l.p 5), (2, pickP l.q 5), (2, pickP l.r 5), (17, 0)] := by simp [lineP, hk]
  have hq6 := pickP_bd l.q (n := 6) (by omega)
  have e6 : wrap64 (4 + pickP l.q 6) = 4 + pickP l.q 6 := by unfold wrap64; omega
  rw [hx]
  obtain ⟨_, h2, h3, h4, h5, _, _⟩ := hl
  clear hx hq6
  unfold lnV
  go_enter Tryd.func26, Tryd.ntmps26
  go_wp2_with (first
    | (go_at_call 11; refine (keepPick_any _ _ _ (by assumption) (by omega)).mono ?_; rintro e w' ⟨rfl, rfl⟩)
    | (go_at_call 12; refine (keepLoad_any _ _).mono ?_; rintro e w' ⟨rfl, rfl⟩)
    | (go_at_call 40; refine (keepStore_any _ _).mono ?_; rintro e w' ⟨rfl, rfl⟩)
    | (go_at_call 29; refine (keepConst_any _ _).mono ?_; rintro e w' ⟨rfl, rfl⟩)
    | (go_at_call 13; refine (keepOp_any _ _).mono ?_; rintro e w' ⟨rfl, rfl⟩))
  go_ret
  refine gave_new ?_ (by simp) _ _ (by simp) (by simp) _ (by simp [icells])
  repeat (first | exact Below.refl _ _ | refine Below.alloc ?_ (by first | omega | (simp; done) | (simp; omega)) _)

set_option maxRecDepth 100000 in
set_option maxHeartbeats 1000000 in
theorem line_8 (l : Ln) (hl : LnOk l) (w : World) (hk : pickP l.kind 10 = 8) : Calls Tryd.prog 26 #[lnV l] w (Gave (lineP l) w) := by
  have hx : lineP l = [(2, pickP l.p 5), (21, 0), (20, 0), (18, 0), (3, pickP l.q 5)] := by simp [lineP, hk]
  have hq6 := pickP_bd l.q (n := 6) (by omega)
  have e6 : wrap64 (4 + pickP l.q 6) = 4 + pickP l.q 6 := by unfold wrap64; omega
  rw [hx]
  obtain ⟨_, h2, h3, h4, h5, _, _⟩ := hl
  clear hx hq6
  unfold lnV
  go_enter Tryd.func26, Tryd.ntmps26
  go_wp2_with (first
    | (go_at_call 11; refine (keepPick_any _ _ _ (by assumption) (by omega)).mono ?_; rintro e w' ⟨rfl, rfl⟩)
    | (go_at_call 12; refine (keepLoad_any _ _).mono ?_; rintro e w' ⟨rfl, rfl⟩)
    | (go_at_call 40; refine (keepStore_any _ _).mono ?_; rintro e w' ⟨rfl, rfl⟩)
    | (go_at_call 29; refine (keepConst_any _ _).mono ?_; rintro e w' ⟨rfl, rfl⟩)
    | (go_at_call 13; refine (keepOp_any _ _).mono ?_; rintro e w' ⟨rfl, rfl⟩))
  go_ret
  refine gave_new ?_ (by simp) _ _ (by simp) (by simp) _ (by simp [icells])
  repeat (first | exact Below.refl _ _ | refine Below.alloc ?_ (by first | omega | (simp; done) | (simp; omega)) _)

set_option maxRecDepth 100000 in
set_option maxHeartbeats 1000000 in
theorem line_9 (l : Ln) (hl : LnOk l) (w : World) (hk : pickP l.kind 10 = 9) : Calls Tryd.prog 26 #[lnV l] w (Gave (lineP l) w) := by
  have hx : lineP l = [(12, pickP l.r 3), (3, pickP l.p 5), (1, 0), (20, 0)] := by simp [lineP, hk]
  have hq6 := pickP_bd l.q (n := 6) (by omega)
  have e6 : wrap64 (4 + pickP l.q 6) = 4 + pickP l.q 6 := by unfold wrap64; omega
  rw [hx]
  obtain ⟨_, h2, h3, h4, h5, _, _⟩ := hl
  clear hx hq6
  unfold lnV
  go_enter Tryd.func26, Tryd.ntmps26
  go_wp2_with (first
    | (go_at_call 11; refine (keepPick_any _ _ _ (by assumption) (by omega)).mono ?_; rintro e w' ⟨rfl, rfl⟩)
    | (go_at_call 12; refine (keepLoad_any _ _).mono ?_; rintro e w' ⟨rfl, rfl⟩)
    | (go_at_call 40; refine (keepStore_any _ _).mono ?_; rintro e w' ⟨rfl, rfl⟩)
    | (go_at_call 29; refine (keepConst_any _ _).mono ?_; rintro e w' ⟨rfl, rfl⟩)
    | (go_at_call 13; refine (keepOp_any _ _).mono ?_; rintro e w' ⟨rfl, rfl⟩))
  go_ret
  refine gave_new ?_ (by simp) _ _ (by simp) (by simp) _ (by simp [icells])
  repeat (first | exact Below.refl _ _ | refine Below.alloc ?_ (by first | omega | (simp; done) | (simp; omega)) _)

end Go.Proofs.YtnhjjjijeeobbaaDoor
