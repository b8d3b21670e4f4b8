/-
  The walks of package check's flow: leastWaiting.
-/
import Derived.Test.YtkpcdjoblmighaaDoorA1
import Derived.Test.YtkpcdjoblmighaaDoorA2
namespace Go.Proofs.YtkpcdjoblmighaaDoor
open Go.RowKit

/-- What check.leastWaiting answers. -/
def lwV (s : St) (n : Nat) : Value := .tuple #[.int .i64 (if leastP (waits s) n < n then (leastP (waits s) n : Int) else 0), .bool (decide (leastP (waits s) n < n))]

set_option maxHeartbeats 1000000 in
theorem leastWaiting_any (b n : Nat) (s : St) (w : World) (hp : PlacesAt w b n s) (hn : n ≤ 64) :
    Calls Tryd.prog 28 #[.slice (some ⟨b, 0, none⟩) n n] w fun e w' =>
      e = .returned (lwV s n) ∧ Below w.heap.size w w' := by
  have hb : b < w.heap.size := World.rowIs.lt hp
  go_enter Tryd.func28, Tryd.ntmps28
  go_wp2
  go_loopw [8] (fun i wr => ∃ k : Nat, k ≤ n ∧ i = .int .i64 k ∧ (∀ j, j < k → waits s j = false) ∧ Below w.heap.size w wr) (fun i _ => n - (intOf i).toNat)
  case atStart => exact ⟨0, Nat.zero_le _, rfl, fun j hj => by omega, Below.refl _ _⟩
  case round =>
    obtain ⟨k, hk, rfl, hno, hB⟩ := hrel
    by_cases hlt : k < n
    · have c0 : wr.cell? ⟨b, k * 3, none⟩ = some (.bool (s.K k)) := (hB.cell (p := ⟨b, _, none⟩) hb).trans (hp.K hlt)
      have c1 : wr.cell? ⟨b, k * 3 + 1, none⟩ = some (.bool (s.L k)) := (hB.cell (p := ⟨b, _, none⟩) hb).trans (hp.L hlt)
      have c2 : wr.cell? ⟨b, k * 3 + 2, none⟩ = some (.int .i64 (s.H k)) := (hB.cell (p := ⟨b, _, none⟩) hb).trans (hp.H hlt)
      have hz := hB.size
      have HN : Hid (∀ j, j < k → waits s j = false) := hno
      clear hno
      cases hK : s.K k
      · have HS : Hid (∀ j, j < k + 1 → waits s j = false) := fun j hj => by
          by_cases e : j = k
          · rw [e]; simp [waits, hK]
          · exact HN.out j (by omega)
        rw [hK] at c0
        clear hK HN
        generalize s.L k = lk at *
        generalize s.H k = hk' at *
        go_wp2
        go_roundw
        case rel => exact ⟨k + 1, by omega, by go_num, HS.out, by repeat (first | exact hB | refine Below.alloc ?_ (by first | omega | (simp; omega)) _)⟩
        case measure => simp [intOf]; omega
      · cases hL : s.L k
        · have HS : Hid (leastP (waits s) n = k) := leastP_eq _ _ _ hlt (by simp [waits, hK, hL]) HN.out
          rw [hK] at c0
          rw [hL] at c1
          clear hK hL HN
          generalize s.H k = hk' at *
          go_wp2
          go_ret2
          refine ⟨?_, by repeat (first | exact hB | refine Below.alloc ?_ (by first | omega | (simp; omega)) _)⟩
          unfold lwV
          rw [HS.out]
          simp [hlt]
        · have HS : Hid (∀ j, j < k + 1 → waits s j = false) := fun j hj => by
            by_cases e : j = k
            · rw [e]; simp [waits, hL]
            · exact HN.out j (by omega)
          rw [hK] at c0
          rw [hL] at c1
          clear hK hL HN
          generalize s.H k = hk' at *
          go_wp2
          go_roundw
          case rel => exact ⟨k + 1, by omega, by go_num, HS.out, by repeat (first | exact hB | refine Below.alloc ?_ (by first | omega | (simp; omega)) _)⟩
          case measure => simp [intOf]; omega
    · have HS : Hid (leastP (waits s) n = n) := leastP_none _ _ (fun j hj => hno j (by omega))
      clear hno
      go_wp2
      go_ret2
      refine ⟨?_, hB⟩
      unfold lwV
      rw [HS.out]
      simp
end Go.Proofs.YtkpcdjoblmighaaDoor
