import Derived.Test.YtkafkipjedpohaaGreatDoorM32
import Derived.Test.YtkafkipjedpohaaGreatDoorV1
import Derived.Test.YtkafkipjedpohaaGreatDoorWd

/-
  Package upshiftkeep: values, alike, stands: of what is the same.
-/
namespace Go.Proofs.YtkafkipjedpohaaGreatDoor
open Go.RowKit

theorem Row.args {w : World} {B : Nat} {tag : Nat → Nat} {c : Nat} {v : Value} {l : List V} (h : Row w B tag c 43 2 v l.length (vcell l)) : ArgsIn w v l := by
  rcases h with ⟨rfl, h0⟩ | ⟨b, cap, cur, rfl, hb, ht, hh, hc, hm, hs, hf⟩
  · exact Or.inl ⟨List.length_eq_zero_iff.1 h0, none, 0, rfl⟩
  · exact Or.inr ⟨b, cap, rfl, heap_lt hh, fun i hi => (cell_heap hh).trans (hf i hi)⟩

theorem ArgsIn.any {w : World} {v : Value} {l : List V} (h : ArgsIn w v l) : ∃ p c, v = .slice p l.length c := by
  rcases h with ⟨rfl, a, c, rfl⟩ | ⟨ab, c, rfl, _⟩
  · exact ⟨a, c, rfl⟩
  · exact ⟨_, c, rfl⟩
theorem ArgsIn.at_ {w : World} {p : Option Addr} {c n : Nat} {l : List V} (h : ArgsIn w (.slice p n c) l) {i : Nat} (hi : i < l.length) : ∃ b, p = some ⟨b, 0, none⟩ ∧ w.cell? ⟨b, i * 2, none⟩ = some (.int .i64 (l.getD i vnil).k) ∧ w.cell? ⟨b, i * 2 + 1, none⟩ = some (.int .i64 (l.getD i vnil).n) := by
  rcases h with ⟨rfl, _⟩ | ⟨ab, c, e, _, hf⟩
  · simp at hi
  · injection e with e1 e2 e3
    refine ⟨ab, e1, (hf (i * 2) (by omega)).trans ?_, (hf (i * 2 + 1) (by omega)).trans ?_⟩
    · unfold vcell
      rw [if_pos (by omega), show i * 2 / 2 = i by omega]
    · unfold vcell
      rw [if_neg (by omega), show (i * 2 + 1) / 2 = i by omega]
theorem ArgsIn.below {w w' : World} {v : Value} {l : List V} (h : ArgsIn w v l) (k : Below w.heap.size w w') : ArgsIn w' v l := by
  rcases h with h | ⟨ab, c, rfl, hab, hf⟩
  · exact Or.inl h
  · exact Or.inr ⟨ab, c, rfl, by have := k.size; omega, fun i hi => (k.cell (p := ⟨ab, i, none⟩) hab).trans (hf i hi)⟩

theorem neqVal (a : V) (X : World) : (binOp .neq 43 (.agg #[.int .i64 a.k, .int .i64 a.n]) (.agg #[.int .i64 a.k, .int .i64 a.n])).run Tryz.prog X = .ok (.bool false) X := by
  have e1 : (a.k == a.k) = true := by simp
  have e2 : (a.n == a.n) = true := by simp
  go_simp

set_option maxRecDepth 100000 in
set_option maxHeartbeats 1000000 in
theorem valuesT (w : World) (v u : Value) (l : List V) (h1 : ArgsIn w v l) (h2 : ArgsIn w u l) (hl : l.length ≤ 200000) :
    Calls Tryz.prog 20 #[v, u] w fun e w' => e = .returned (.bool true) ∧ ∃ k, w' = w.drewN k := by
  obtain ⟨p1, c1, rfl⟩ := h1.any
  obtain ⟨p2, c2, rfl⟩ := h2.any
  have HA := hid (And.intro h1 h2)
  clear h1 h2
  generalize hn : l.length = n at *
  have HN := hid hn
  clear hn
  go_enter Tryz.func20, Tryz.ntmps20
  go_wp2
  go_loopw [5] (fun v wr => ∃ j : Nat, j ≤ n ∧ v = .int .i64 j ∧ ∃ k, wr = w.drewN k) (fun v _ => n - (intOf v).toNat)
  case atStart => exact ⟨0, by omega, rfl, 0, rfl⟩
  case round =>
    obtain ⟨j, hj, rfl, k, hk⟩ := hrel
    subst hk
    by_cases hlt : j < n
    · have hdec : decide ((j : Int) < (n : Int)) = true := by simp; omega
      obtain ⟨b1, e1, x0, x1⟩ := HA.out.1.at_ (i := j) (by rw [HN.out]; exact hlt)
      obtain ⟨b2, e2, y0, y1⟩ := HA.out.2.at_ (i := j) (by rw [HN.out]; exact hlt)
      subst e1 e2
      have i0 : (0 : Int) ≤ (j : Int) := by omega
      have i1 : (j : Int) < (n : Int) := by omega
      generalize l.getD j vnil = x at *
      have hne := neqVal x
      go_wp2_with fail
      go_quiet (fail)
      go_wp2
      exact ⟨⟨j + 1, by omega, by go_num, _, rfl⟩, by simp [intOf]; omega⟩
    · have hdec : decide ((j : Int) < (n : Int)) = false := by simp; omega
      go_wp2
      go_ret
      exact ⟨rfl, k, rfl⟩

theorem valuesB (w : World) (v u : Value) (l : List V) (h1 : ArgsIn w v l) (h2 : ArgsIn w u l) (hl : l.length ≤ 200000) :
    Calls Tryz.prog 20 #[v, u] w fun e w' => e = .returned (.bool true) ∧ Below w.heap.size w w' := by
  refine (valuesT w v u l h1 h2 hl).mono ?_
  rintro e w' ⟨rfl, k, rfl⟩
  exact ⟨rfl, below_drewN (Below.refl _ _) _⟩

set_option maxRecDepth 100000 in
set_option maxHeartbeats 1000000 in
theorem alikeT (w : World) (en st : Int) (g : V) (v u : Value) (l : List V) (h1 : ArgsIn w v l) (h2 : ArgsIn w u l) (hl : l.length ≤ 200000) :
    Calls Tryz.prog 21 #[.agg #[.int .i64 en, .int .i64 st, .int .i64 g.k, .int .i64 g.n, v], .agg #[.int .i64 en, .int .i64 st, .int .i64 g.k, .int .i64 g.n, u]] w fun e w' => e = .returned (.bool true) ∧ Below w.heap.size w w' := by
  obtain ⟨p1, c1, rfl⟩ := h1.any
  obtain ⟨p2, c2, rfl⟩ := h2.any
  have e1 : (en == en) = true := by simp
  have e2 : (st == st) = true := by simp
  have e3 := eqlVal g g true (by simp)
  obtain ⟨W, hWd⟩ : ∃ W, W = (w.alloc (.cells #[.int .i64 en, .int .i64 st, .int .i64 g.k, .int .i64 g.n, .slice p1 l.length c1] 46)).alloc (.cells #[.int .i64 en, .int .i64 st, .int .i64 g.k, .int .i64 g.n, .slice p2 l.length c2] 46) := ⟨_, rfl⟩
  have hW : Below w.heap.size w W := by rw [hWd]; exact ((Below.refl _ _).alloc (Nat.le_refl _) _).alloc (by simp) _
  have r1 : W.heap[w.heap.size]? = some (.cells #[.int .i64 en, .int .i64 st, .int .i64 g.k, .int .i64 g.n, .slice p1 l.length c1] 46 (0, 0)) := by
    rw [hWd]; exact (Below.heap_alloc _ _ _ (by simp)).trans (Go.Deep.blk_alloc_new _ _)
  have r2 : W.heap[w.heap.size + 1]? = some (.cells #[.int .i64 en, .int .i64 st, .int .i64 g.k, .int .i64 g.n, .slice p2 l.length c2] 46 (0, 0)) := by
    rw [hWd]
    have := Go.Deep.blk_alloc_new (w.alloc (.cells #[.int .i64 en, .int .i64 st, .int .i64 g.k, .int .i64 g.n, .slice p1 l.length c1] 46)) (.cells #[.int .i64 en, .int .i64 st, .int .i64 g.k, .int .i64 g.n, .slice p2 l.length c2] 46)
    simpa using this
  have HV := hid (valuesB _ _ _ l (h1.below hW) (h2.below hW) hl)
  have HW := hid (And.intro hW (And.intro r1 r2))
  have HD := hid hWd
  clear h1 h2 hW hWd r1 r2
  generalize l.length = n at *
  go_enter Tryz.func21, Tryz.ntmps21
  go_wp2_with fail
  rw [← HD.out]
  refine HV.out.mono ?_
  rintro e w2 ⟨rfl, hB2⟩
  obtain ⟨hW, r1, r2⟩ := HW.out
  have q1 := (hB2.block _ (heap_lt r1)).trans r1
  have q2 := (hB2.block _ (heap_lt r2)).trans r2
  have HB := hid (hW.trans (hB2.mono hW.size))
  have x0 : w2.cell? ⟨w.heap.size, 0, none⟩ = some (.int .i64 en) := (cell_heap q1).trans rfl
  have x1 : w2.cell? ⟨w.heap.size, 1, none⟩ = some (.int .i64 st) := (cell_heap q1).trans rfl
  have x2 : w2.cell? ⟨w.heap.size, 2, none⟩ = some (.int .i64 g.k) := (cell_heap q1).trans rfl
  have x3 : w2.cell? ⟨w.heap.size, 3, none⟩ = some (.int .i64 g.n) := (cell_heap q1).trans rfl
  have y0 : w2.cell? ⟨w.heap.size + 1, 0, none⟩ = some (.int .i64 en) := (cell_heap q2).trans rfl
  have y1 : w2.cell? ⟨w.heap.size + 1, 1, none⟩ = some (.int .i64 st) := (cell_heap q2).trans rfl
  have y2 : w2.cell? ⟨w.heap.size + 1, 2, none⟩ = some (.int .i64 g.k) := (cell_heap q2).trans rfl
  have y3 : w2.cell? ⟨w.heap.size + 1, 3, none⟩ = some (.int .i64 g.n) := (cell_heap q2).trans rfl
  clear hW r1 r2 q1 q2 hB2 HW HV HD
  go_wp2
  go_ret
  exact ⟨rfl, HB.out⟩

/-- What is read of a frame that went out. -/
theorem FrsOut.at_ {w : World} {B k : Nat} {tag : Nat → Nat} {p : Option Addr} {n c : Nat} {LV SV : Nat → Value} {fr : Nat → Fr} (h : FrsOut w B tag (.slice p n c) LV SV fr k) {i : Nat} (hi : i < k) :
    ∃ b, p = some ⟨b, 0, none⟩ ∧ b < w.heap.size ∧ w.cell? ⟨b, i * 4, none⟩ = some (.int .i64 (fr i).fn) ∧ w.cell? ⟨b, i * 4 + 1, none⟩ = some (.int .i64 (fr i).pc) ∧ w.cell? ⟨b, i * 4 + 2, none⟩ = some (LV i) ∧ w.cell? ⟨b, i * 4 + 3, none⟩ = some (SV i) := by
  have hr := h.row
  obtain ⟨b, cap, e, _, hz, _, _⟩ := hr.form (by omega)
  injection e with e1 e2 e3
  subst e1 e2 e3
  refine ⟨b, rfl, hz, (hr.cell (i := i * 4) (by omega)).trans ?_, (hr.cell (i := i * 4 + 1) (by omega)).trans ?_, (hr.cell (i := i * 4 + 2) (by omega)).trans ?_, (hr.cell (i := i * 4 + 3) (by omega)).trans ?_⟩
  · unfold gcell; rw [if_pos (by omega), show i * 4 / 4 = i by omega]
  · unfold gcell; rw [if_neg (by omega), if_pos (by omega), show (i * 4 + 1) / 4 = i by omega]
  · unfold gcell; rw [if_neg (by omega), if_neg (by omega), if_pos (by omega), show (i * 4 + 2) / 4 = i by omega]
  · unfold gcell; rw [if_neg (by omega), if_neg (by omega), if_neg (by omega), show (i * 4 + 3) / 4 = i by omega]
end Go.Proofs.YtkafkipjedpohaaGreatDoor

/-
  check.Events.
-/
namespace Go.Proofs.YtkafkipjedpohaaGreatDoor
open Go.RowKit

/-- May this event be, in a program of m functions? -/
def mayP (m : Int) (e : Ev) : Bool := if e.k = 1 ∨ e.k = 2 then decide (0 ≤ e.n ∧ e.n ≤ m - 1) else decide (e.k = 3 ∨ e.k = 4)
/-- Events that rise, from a on, and may be. -/
def evsP (m : Int) : Int → List Ev → Bool
  | _, [] => true
  | a, e :: r => !(decide (e.st < a)) && mayP m e && evsP m e.st r
/-- What check.Events answers. -/
def eventsP (m : Int) (E : List Ev) : Int := if 200 < E.length then 5 else if evsP m 0 E = true then 0 else 5

theorem mayP_ok {m : Nat} {e : Ev} (h : mayP m e = true) (h0 : 0 ≤ e.st) : EvOk m e := by
  unfold mayP at h
  split at h
  · rename_i hk
    simp at h
    exact ⟨h0, by omega, fun _ => by omega⟩
  · rename_i hk
    simp at h
    exact ⟨h0, by omega, fun _ => by omega⟩
theorem evsP_ok {m : Nat} : ∀ {E : List Ev} {a : Int}, 0 ≤ a → evsP m a E = true → Rising a E ∧ ∀ e, e ∈ E → EvOk m e
  | [], _, _, _ => ⟨trivial, fun e he => by cases he⟩
  | e :: r, a, h0, h => by
    unfold evsP at h
    simp at h
    obtain ⟨⟨h1, h2⟩, h3⟩ := h
    obtain ⟨k1, k2⟩ := evsP_ok (by omega) h3
    refine ⟨⟨h1, k1⟩, fun x hx => ?_⟩
    rcases List.mem_cons.1 hx with rfl | hx
    · exact mayP_ok h2 (by omega)
    · exact k2 x hx

set_option maxHeartbeats 1000000 in
theorem mayBeM (e : Ev) (m : Int) (hm : 0 ≤ m ∧ m ≤ 1000) (w : World) :
    Calls Tryz.prog 66 #[.agg #[.int .i64 e.st, .int .i64 e.k, .int .i64 e.n], .int .i64 m] w fun r w' => r = .returned (.bool (mayP m e)) ∧ Below w.heap.size w w' := by
  obtain ⟨st, k, n⟩ := e
  have HB := hid (show Below w.heap.size w (w.alloc (.cells #[.int .i64 st, .int .i64 k, .int .i64 n] 65)) from (Below.refl _ _).alloc (Nat.le_refl _) _)
  have e1 : wrap64 (m - 1) = m - 1 := by unfold wrap64; omega
  unfold mayP
  dsimp only
  by_cases h1 : k = 1
  · subst h1
    go_enter Tryz.func66, Tryz.ntmps66
    go_wp2_with (go_at_call 48; refine (within_any _ _ _ _).mono ?_; rintro e w' ⟨rfl, rfl⟩)
    go_ret
    exact ⟨by simp, HB.out⟩
  by_cases h2 : k = 2
  · subst h2
    go_enter Tryz.func66, Tryz.ntmps66
    go_wp2_with (go_at_call 48; refine (within_any _ _ _ _).mono ?_; rintro e w' ⟨rfl, rfl⟩)
    go_ret
    exact ⟨by simp, HB.out⟩
  by_cases h3 : k = 3
  · subst h3
    go_enter Tryz.func66, Tryz.ntmps66
    go_wp2
    go_ret
    exact ⟨by simp, HB.out⟩
  by_cases h4 : k = 4
  · subst h4
    go_enter Tryz.func66, Tryz.ntmps66
    go_wp2
    go_ret
    exact ⟨by simp, HB.out⟩
  have b1 : (k == 1) = false := by simpa using h1
  have b2 : (k == 2) = false := by simpa using h2
  have b3 : (k == 3) = false := by simpa using h3
  have b4 : (k == 4) = false := by simpa using h4
  go_enter Tryz.func66, Tryz.ntmps66
  go_wp2
  go_ret
  exact ⟨by simp, HB.out⟩

set_option maxRecDepth 100000 in
set_option maxHeartbeats 1000000 in
theorem eventsM (w : World) (v : Value) (E : List Ev) (hE : EvV w w.heap.size v E) (m : Int) (hm : 0 ≤ m ∧ m ≤ 1000) :
    Calls Tryz.prog 44 #[v, .int .i64 m] w fun r w' => r = .returned (.int .i64 (eventsP m E)) ∧ Below w.heap.size w w' := by
  obtain ⟨p, c, rfl, hc, hcells⟩ := hE
  have HM := hid hm
  clear hm
  unfold eventsP
  by_cases h200 : 200 < E.length
  · rw [if_pos h200]
    have hd : decide ((200 : Int) < (E.length : Int)) = true := by simp; omega
    clear hcells
    generalize E.length = n at *
    go_enter Tryz.func44, Tryz.ntmps44
    go_wp2
    go_ret
    exact ⟨rfl, Below.refl _ _⟩
  · rw [if_neg h200]
    have hd : decide ((200 : Int) < (E.length : Int)) = false := by simp; omega
    have HC := hid hcells
    clear hcells
    obtain ⟨R, hR⟩ : ∃ R, R = (if evsP m 0 E = true then (0 : Int) else 5) := ⟨_, rfl⟩
    rw [← hR]
    have HR := hid hR
    clear hR
    go_enter Tryz.func44, Tryz.ntmps44
    go_wp2
    go_loopw [5, 13] (fun a v wr => ∃ (k : Nat) (x : Int), k ≤ E.length ∧ v = .int .i64 k ∧ a = .int .i64 x ∧ evsP m 0 E = evsP m x (E.drop k) ∧ Below w.heap.size w wr) (fun _ v _ => E.length - (intOf v).toNat)
    case atStart => exact ⟨0, 0, Nat.zero_le _, rfl, rfl, rfl, Below.refl _ _⟩
    case round =>
      obtain ⟨k, x, hk, rfl, rfl, hno, hB⟩ := hrel
      by_cases hlt : k < E.length
      · obtain ⟨eb, eo, rfl, heb, hcs⟩ := HC.out (by intro e; rw [e] at hlt; simp at hlt)
        obtain ⟨k0, k1, k2⟩ := hcs k hlt
        have hdr : E.drop k = E.getD k ⟨0, 0, 0⟩ :: E.drop (k + 1) := by
          rw [List.drop_eq_getElem_cons hlt, List.getD_eq_getElem?_getD, List.getElem?_eq_getElem hlt]
          rfl
        rw [hdr] at hno
        generalize E.getD k ⟨0, 0, 0⟩ = ev at *
        have y0 : wr.cell? ⟨eb, eo + k * 3, none⟩ = some (.int .i64 ev.st) := (hB.cell (p := ⟨eb, eo + k * 3, none⟩) heb).trans k0
        have y1 : wr.cell? ⟨eb, eo + k * 3 + 1, none⟩ = some (.int .i64 ev.k) := (hB.cell (p := ⟨eb, eo + k * 3 + 1, none⟩) heb).trans k1
        have y2 : wr.cell? ⟨eb, eo + k * 3 + 2, none⟩ = some (.int .i64 ev.n) := (hB.cell (p := ⟨eb, eo + k * 3 + 2, none⟩) heb).trans k2
        have hno' : evsP m 0 E = (!(decide (ev.st < x)) && mayP m ev && evsP m ev.st (E.drop (k + 1))) := hno
        have hsz := hB.size
        have HMB := hid (fun X => mayBeM ev m HM.out X)
        have HB1 := hid (show Below w.heap.size w (wr.alloc (.cells #[.int .i64 ev.st, .int .i64 ev.k, .int .i64 ev.n] 65)) from hB.alloc hsz _)
        have HB2 := hid (show ∀ X, Below (wr.alloc (.cells #[.int .i64 ev.st, .int .i64 ev.k, .int .i64 ev.n] 65)).heap.size (wr.alloc (.cells #[.int .i64 ev.st, .int .i64 ev.k, .int .i64 ev.n] 65)) X → Below w.heap.size w X ∧ X.cell? ⟨wr.heap.size, 0, none⟩ = some (.int .i64 ev.st) from fun X hX => ⟨(hB.alloc hsz _).trans (hX.mono (by simp; omega)), by
          rw [hX.cell (p := ⟨wr.heap.size, 0, none⟩) (by simp)]
          go_simp⟩)
        have HNO := hid hno'
        clear hno hno' hB hdr k0 k1 k2 hcs
        by_cases hst : ev.st < x
        · have hd2 : decide (ev.st < x) = true := by simpa using hst
          rw [hd2] at HNO
          have HV : Hid (R = 5) := by unfold Hid; rw [HR.out, HNO.out]; simp
          clear HNO HR
          go_wp2
          go_ret
          exact ⟨by rw [HV.out]; rfl, HB1.out⟩
        · have hd2 : decide (ev.st < x) = false := by simpa using hst
          rw [hd2] at HNO
          cases hmb : mayP m ev with
          | false =>
            rw [hmb] at HNO HMB
            have HV : Hid (R = 5) := by unfold Hid; rw [HR.out, HNO.out]; simp
            clear HNO HR
            go_wp2_with (go_at_call 66; refine (HMB.out _).mono ?_; rintro e w' ⟨rfl, hB'⟩; have HB3 := hid (HB2.out _ hB'); clear hB')
            go_ret
            exact ⟨by rw [HV.out]; rfl, HB3.out.1⟩
          | true =>
            rw [hmb] at HNO HMB
            have HV : Hid (evsP m 0 E = evsP m ev.st (E.drop (k + 1))) := by unfold Hid; rw [HNO.out]; simp
            clear HNO
            go_wp2_with (go_at_call 66; refine (HMB.out _).mono ?_; rintro e w' ⟨rfl, hB'⟩; have HB3 := hid (HB2.out _ hB'); have y5 := HB3.out.2; clear hB')
            go_roundw
            case rel => exact ⟨k + 1, ev.st, by omega, by go_num, rfl, HV.out, HB3.out.1⟩
            case measure => simp [intOf]; omega
      · obtain rfl : k = E.length := by omega
        have HV : Hid (R = 0) := by unfold Hid; rw [HR.out, hno]; simp [evsP]
        have HB2 := hid hB
        clear hno hB
        go_wp2
        go_ret
        exact ⟨by rw [HV.out]; rfl, HB2.out⟩
end Go.Proofs.YtkafkipjedpohaaGreatDoor
