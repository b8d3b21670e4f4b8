import Derived.Test.YtkafkipjedpohaaGreatDoorM14

/-
  The project's machine: straight, of any instruction that goes on to the next; count, pass, turns.
-/
namespace Go.Proofs.YtkafkipjedpohaaGreatDoor
open Go.RowKit

theorem str_any (w : World) (B mb : Nat) (A : AdM) (s : Mc) (en : Int) (f : Fr) (rest : List Fr) (op a : Int) (m : Nat) (locals n : Int) (hl : legalP op a locals n m = true) (h10 : op ≠ 10) (h11 : op ≠ 11) (h13 : op ≠ 13) (h14 : op ≠ 14)
    (hp : popsP op a ≤ f.stk.length) (hok : AllOk m s.arr.length f.stk) (hloc : (f.loc.length : Int) = locals) (hh : f.stk.length ≤ 40) (hL : LayM w B mb A s en) (hs : s.fr = f :: rest) (hB : B ≤ w.heap.size) (ho : s.out.length ≤ 100000) (hm : s.arr.length ≤ 150000) (hc : cellsP s.arr ≤ 200) :
    Calls Tryz.prog 121 #[.pointer (some ⟨mb, 0, none⟩), .pointer (some ⟨A.FB rest.length, 0, none⟩), .agg #[.int .i64 op, .int .i64 a]] w (StrE w B mb A s en rest (execP op a f s.arr s.out)) := by
  have hr := legal_range hl
  by_cases e : op = 0
  · subst e
    exact str_const w B mb A s en f rest a hL hs hB (by omega)
  by_cases e : op = 1
  · subst e
    exact str_nil w B mb A s en f rest a hL hs hB (by omega)
  by_cases e : op = 12
  · subst e
    exact str_fun w B mb A s en f rest a hL hs hB (by omega)
  by_cases e : op = 2
  · subst e
    have hf : 0 ≤ a ∧ a < locals := by simpa [legalP] using hl
    have h := str_load w B mb A s en f rest a.toNat (by omega) hL hs hB (by omega)
    rw [show ((a.toNat : Nat) : Int) = a by omega] at h
    exact h
  have hp1 : 1 ≤ f.stk.length := by
    have : 1 ≤ popsP op a := by unfold popsP popsT; rw [if_neg h13, if_neg (by omega)]; split <;> (try split) <;> omega
    omega
  obtain ⟨x, r, hst⟩ : ∃ x r, f.stk = x :: r := by
    cases hc : f.stk with
    | nil => rw [hc] at hp1; simp at hp1
    | cons x r => exact ⟨x, r, rfl⟩
  have hlr : r.length + 1 = f.stk.length := by rw [hst]; rfl
  by_cases e : op = 3
  · subst e
    have hf : 0 ≤ a ∧ a < locals := by simpa [legalP] using hl
    have h := str_store w B mb A s en f rest a.toNat (by omega) x r hst hL hs hB (by omega)
    rw [show ((a.toNat : Nat) : Int) = a by omega] at h
    exact h
  have hxk : x.k = 2 → 0 ≤ x.n ∧ x.n < s.arr.length := (hok x (by rw [hst]; exact List.mem_cons_self)).1
  by_cases e : op = 19
  · subst e
    exact str_print w B mb A s en f rest a x r hst hL hs hB (by omega) ho
  by_cases e : op = 20
  · subst e
    exact str_pop w B mb A s en f rest a x r hst hL hs hB (by omega)
  by_cases e : op = 21
  · subst e
    exact str_dup w B mb A s en f rest a x r hst hL hs hB (by omega)
  by_cases e : op = 15
  · subst e
    exact str_new w B mb A s en f rest a x r hst hL hs hB (by omega) hm hc
  by_cases e : op = 18
  · subst e
    exact str_len w B mb A s en f rest a x r hst hxk hL hs hB (by omega)
  have hp2 : 2 ≤ f.stk.length := by
    have : 2 ≤ popsP op a := by unfold popsP popsT; rw [if_neg h13, if_neg (by omega)]; split <;> (try split) <;> omega
    omega
  obtain ⟨y, q, hst2⟩ : ∃ y q, r = y :: q := by
    cases hc : r with
    | nil => rw [hc] at hlr; simp at hlr; omega
    | cons x r => exact ⟨x, r, rfl⟩
  subst hst2
  have hlq : q.length + 1 = (y :: q).length := rfl
  have hyk : y.k = 2 → 0 ≤ y.n ∧ y.n < s.arr.length := (hok y (by rw [hst]; simp)).1
  by_cases e : op = 16
  · subst e
    exact str_get w B mb A s en f rest a x y q hst hyk hL hs hB (by omega)
  by_cases e : op = 9
  · subst e
    exact str_equal w B mb A s en f rest a x y q hst hL hs hB (by omega)
  by_cases e : op = 17
  · subst e
    have hp3 : 3 ≤ f.stk.length := by
      have : 3 ≤ popsP 17 a := by simp [popsP, popsT]
      omega
    obtain ⟨z, p, hst3⟩ : ∃ z p, q = z :: p := by
      cases hc : q with
      | nil => rw [hc] at hlq hlr; simp at hlr; omega
      | cons x r => exact ⟨x, r, rfl⟩
    subst hst3
    have hzk : z.k = 2 → 0 ≤ z.n ∧ z.n < s.arr.length := (hok z (by rw [hst]; simp)).1
    exact str_set w B mb A s en f rest a x y z p hst hzk hL hs hB (by simp at hlr; omega)
  exact str_reckon w B mb A s en f rest a op (by omega) x y q hst hL hs hB (by omega)

theorem turnsM (op : Int) (w : World) : Calls Tryz.prog 119 #[.int .i64 op] w fun e w' => e = .returned (.bool (decide (op = 10 ∨ op = 11 ∨ op = 13 ∨ op = 14))) ∧ w' = w := by
  by_cases e : op = 10
  · subst e
    go_enter Tryz.func119, Tryz.ntmps119
    go_wp2
    go_ret
    exact ⟨rfl, rfl⟩
  by_cases e : op = 11
  · subst e
    go_enter Tryz.func119, Tryz.ntmps119
    go_wp2
    go_ret
    exact ⟨rfl, rfl⟩
  by_cases e : op = 13
  · subst e
    go_enter Tryz.func119, Tryz.ntmps119
    go_wp2
    go_ret
    exact ⟨rfl, rfl⟩
  by_cases e : op = 14
  · subst e
    go_enter Tryz.func119, Tryz.ntmps119
    go_wp2
    go_ret
    exact ⟨rfl, rfl⟩
  have h : decide (op = 10 ∨ op = 11 ∨ op = 13 ∨ op = 14) = false := by simp; omega
  rw [h]
  have o1 : (op == 10) = false := by simp; omega
  have o2 : (op == 11) = false := by simp; omega
  have o3 : (op == 13) = false := by simp; omega
  have o4 : (op == 14) = false := by simp; omega
  clear h
  go_enter Tryz.func119, Tryz.ntmps119
  go_wp2
  go_ret
  exact ⟨rfl, rfl⟩
end Go.Proofs.YtkafkipjedpohaaGreatDoor
