/-
  The walks of package check's flow: follows, reach.
-/
import Derived.Test.YtkpcdjoblmighaaDoorWd
import Derived.BigQuiet
namespace Go.Proofs.YtkpcdjoblmighaaDoor
open Go.RowKit

/-- The ints of a list lie in block b, from its cell 0 on. -/
def IntsAt (w : World) (b : Nat) (l : List Int) : Prop := ∀ j, j < l.length → w.cell? ⟨b, j, none⟩ = some (.int .i64 (l.getD j 0))

theorem ints_one (w : World) (x : Int) (t : TypeId) (B : Nat) (hB : B = w.heap.size) : IntsAt (w.alloc (.cells #[.int .i64 x] t)) B [x] := by
  subst hB
  intro j hj
  obtain rfl : j = 0 := by simpa using hj
  unfold World.cell?; rw [Go.Deep.blk_alloc_new]; rfl
theorem ints_two (w : World) (x y : Int) (t : TypeId) (B : Nat) (hB : B = w.heap.size) : IntsAt (w.alloc (.cells #[.int .i64 x, .int .i64 y] t)) B [x, y] := by
  subst hB
  intro j hj
  have : j = 0 ∨ j = 1 := by simp at hj; omega
  rcases this with rfl | rfl <;> (unfold World.cell?; rw [Go.Deep.blk_alloc_new]; rfl)

/-- What a list of where to go is: nil, or ints in a new block. -/
def GoesTo (w w' : World) (p : Option Addr) (l : List Int) : Prop := l = [] ∨ ∃ b, w.heap.size ≤ b ∧ b < w'.heap.size ∧ p = some ⟨b, 0, none⟩ ∧ IntsAt w' b l

set_option maxHeartbeats 1000000 in
theorem follows_any (op a : Int) (i : Nat) (w : World) (hi : i < 64) :
    Calls Tryd.prog 31 #[.agg #[.int .i64 op, .int .i64 a], .int .i64 i] w fun e w' =>
      ∃ p c, e = .returned (.slice p (afterP op a i).length c) ∧ Below w.heap.size w w' ∧ GoesTo w w' p (afterP op a i) := by
  by_cases h1 : op = 14
  · subst h1
    have hl : afterP 14 a i = [] := by simp [afterP]
    rw [hl]
    go_enter Tryd.func31, Tryd.ntmps31
    go_wp2
    go_ret
    exact ⟨_, _, rfl, (Below.refl _ _).alloc (Nat.le_refl _) _, Or.inl rfl⟩
  · have b1 : (op == 14) = false := by simpa using h1
    by_cases h2 : op = 10
    · subst h2
      have hl : afterP 10 a i = [a] := by simp [afterP]
      rw [hl]
      clear hl h1
      go_enter Tryd.func31, Tryd.ntmps31
      go_wp2
      go_ret
      exact ⟨_, _, rfl, ((Below.refl _ _).alloc (Nat.le_refl _) _).alloc (by simp) _, Or.inr ⟨w.heap.size + 1, by omega, by simp, rfl, ints_one (w.alloc _) a 3 _ (by simp)⟩⟩
    · have b2 : (op == 10) = false := by simpa using h2
      by_cases h3 : op = 11
      · subst h3
        have hl : afterP 11 a i = [(i : Int) + 1, a] := by simp [afterP]
        rw [hl]
        clear hl h1
        go_enter Tryd.func31, Tryd.ntmps31
        go_wp2
        go_ret
        exact ⟨_, _, rfl, ((Below.refl _ _).alloc (Nat.le_refl _) _).alloc (by simp) _, Or.inr ⟨w.heap.size + 1, by omega, by simp, rfl, ints_two (w.alloc _) _ a 3 _ (by simp)⟩⟩
      · have b3 : (op == 11) = false := by simpa using h3
        have hl : afterP op a i = [(i : Int) + 1] := by simp [afterP, h1, h2, h3]
        rw [hl]
        clear hl h1 h2 h3
        go_enter Tryd.func31, Tryd.ntmps31
        go_wp2
        go_ret
        exact ⟨_, _, rfl, ((Below.refl _ _).alloc (Nat.le_refl _) _).alloc (by simp) _, Or.inr ⟨w.heap.size + 1, by omega, by simp, rfl, ints_one (w.alloc _) _ 3 _ (by simp)⟩⟩

set_option maxHeartbeats 1000000 in
theorem reach_any (b n : Nat) (s : St) (to h : Int) (w : World) (hp : PlacesAt w b n s) (ht : 0 ≤ to) :
    Calls Tryd.prog 32 #[.slice (some ⟨b, 0, none⟩) n n, .int .i64 to, .int .i64 h] w fun e w' =>
      e = .returned (.int .i64 (reachP n s to h).1) ∧ PlacesAt w' b n (reachP n s to h).2 ∧ Kp b w w' := by
  obtain ⟨i, rfl⟩ := Int.eq_ofNat_of_zero_le ht
  unfold reachP
  by_cases hn : (n : Int) ≤ (i : Int)
  · rw [if_pos hn]
    go_enter Tryd.func32, Tryd.ntmps32
    go_wp2
    go_ret
    exact ⟨rfl, hp, Kp.refl _ _⟩
  · rw [if_neg hn]
    simp only [Int.toNat_natCast]
    have c0 := hp.K (i := i) (by omega)
    have c2 := hp.H (i := i) (by omega)
    have fz : ∀ o, w.frozen? ⟨b, o, none⟩ = false := fun o => World.rowIs.frozen hp o
    by_cases hk : s.K i = true
    · by_cases hh : s.H i = h
      · have fin : PlacesAt ((w.setCell ⟨b, i * 3, none⟩ (.bool true)).setCell ⟨b, i * 3 + 2, none⟩ (.int .i64 h)) b n { K := upd s.K i true, L := s.L, H := upd s.H i h } := (hp.setK i true).setH i h
        have HF : Hid (PlacesAt ((w.setCell ⟨b, i * 3, none⟩ (.bool true)).setCell ⟨b, i * 3 + 2, none⟩ (.int .i64 h)) b n { K := upd s.K i true, L := s.L, H := upd s.H i h }) := fin
        rw [hk] at c0
        rw [hh] at c2
        rw [if_neg (by simp [hh])]
        clear fin hk hh hp
        go_enter Tryd.func32, Tryd.ntmps32
        go_wp2
        go_ret
        exact ⟨rfl, HF.out, ((Kp.refl _ _).set _ _).set _ _⟩
      · have hb : (s.H i != h) = true := by simpa using hh
        rw [hk] at c0
        rw [if_pos ⟨hk, hh⟩]
        have HF : Hid (PlacesAt w b n s) := hp
        clear hk hh hp
        generalize s.H i = hi at *
        go_enter Tryd.func32, Tryd.ntmps32
        go_wp2
        go_ret
        exact ⟨rfl, HF.out, Kp.refl _ _⟩
    · have hk' : s.K i = false := by simpa using hk
      have fin : PlacesAt ((w.setCell ⟨b, i * 3, none⟩ (.bool true)).setCell ⟨b, i * 3 + 2, none⟩ (.int .i64 h)) b n { K := upd s.K i true, L := s.L, H := upd s.H i h } := (hp.setK i true).setH i h
      have HF : Hid (PlacesAt ((w.setCell ⟨b, i * 3, none⟩ (.bool true)).setCell ⟨b, i * 3 + 2, none⟩ (.int .i64 h)) b n { K := upd s.K i true, L := s.L, H := upd s.H i h }) := fin
      rw [hk'] at c0
      rw [if_neg (by simp [hk'])]
      clear fin hk hk' hp
      generalize s.H i = hi at *
      go_enter Tryd.func32, Tryd.ntmps32
      go_wp2
      go_ret
      exact ⟨rfl, HF.out, ((Kp.refl _ _).set _ _).set _ _⟩
end Go.Proofs.YtkpcdjoblmighaaDoor
