import Derived.Test.YtkafkipjedpohaaGreatDoorWd

/-
  The walks of package check's flow: leastWaiting.
-/
namespace Go.Proofs.YtkafkipjedpohaaGreatDoor
open Go.RowKit

/-- What check.leastWaiting answers. -/
def lwV (s : St) (n : Nat) : Value := .tuple #[.int .i64 (if leastP (waits s) n < n then (leastP (waits s) n : Int) else 0), .bool (decide (leastP (waits s) n < n))]

set_option maxHeartbeats 1000000 in
theorem leastWaiting_any (b n : Nat) (s : St) (w : World) (hp : PlacesAt w b n s) (hn : n ≤ 64) :
    Calls Tryz.prog 94 #[.slice (some ⟨b, 0, none⟩) n n] w fun e w' =>
      e = .returned (lwV s n) ∧ Below w.heap.size w w' := by
  have hb : b < w.heap.size := World.rowIs.lt hp
  go_enter Tryz.func94, Tryz.ntmps94
  go_wp2
  go_loopw [8] (fun i wr => ∃ k : Nat, k ≤ n ∧ i = .int .i64 k ∧ (∀ j, j < k → waits s j = false) ∧ Below w.heap.size w wr) (fun i _ => n - (intOf i).toNat)
  case atStart => exact ⟨0, Nat.zero_le _, rfl, fun j hj => by omega, Below.refl _ _⟩
  case round =>
    obtain ⟨k, hk, rfl, hno, hB⟩ := hrel
    by_cases hlt : k < n
    · have c0 : wr.cell? ⟨b, k * 3, none⟩ = some (.bool (s.K k)) := (hB.cell (p := ⟨b, _, none⟩) hb).trans (hp.K hlt)
      have c1 : wr.cell? ⟨b, k * 3 + 1, none⟩ = some (.bool (s.L k)) := (hB.cell (p := ⟨b, _, none⟩) hb).trans (hp.L hlt)
      have c2 : wr.cell? ⟨b, k * 3 + 2, none⟩ = some (.int .i64 (s.H k)) := (hB.cell (p := ⟨b, _, none⟩) hb).trans (hp.H hlt)
      have hz := hB.size
      have HN : Hid (∀ j, j < k → waits s j = false) := hno
      clear hno
      cases hK : s.K k
      · have HS : Hid (∀ j, j < k + 1 → waits s j = false) := fun j hj => by
          by_cases e : j = k
          · rw [e]; simp [waits, hK]
          · exact HN.out j (by omega)
        rw [hK] at c0
        clear hK HN
        generalize s.L k = lk at *
        generalize s.H k = hk' at *
        go_wp2
        go_roundw
        case rel => exact ⟨k + 1, by omega, by go_num, HS.out, by repeat (first | exact hB | refine Below.alloc ?_ (by first | omega | (simp; omega)) _)⟩
        case measure => simp [intOf]; omega
      · cases hL : s.L k
        · have HS : Hid (leastP (waits s) n = k) := leastP_eq _ _ _ hlt (by simp [waits, hK, hL]) HN.out
          rw [hK] at c0
          rw [hL] at c1
          clear hK hL HN
          generalize s.H k = hk' at *
          go_wp2
          go_ret2
          refine ⟨?_, by repeat (first | exact hB | refine Below.alloc ?_ (by first | omega | (simp; omega)) _)⟩
          unfold lwV
          rw [HS.out]
          simp [hlt]
        · have HS : Hid (∀ j, j < k + 1 → waits s j = false) := fun j hj => by
            by_cases e : j = k
            · rw [e]; simp [waits, hL]
            · exact HN.out j (by omega)
          rw [hK] at c0
          rw [hL] at c1
          clear hK hL HN
          generalize s.H k = hk' at *
          go_wp2
          go_roundw
          case rel => exact ⟨k + 1, by omega, by go_num, HS.out, by repeat (first | exact hB | refine Below.alloc ?_ (by first | omega | (simp; omega)) _)⟩
          case measure => simp [intOf]; omega
    · have HS : Hid (leastP (waits s) n = n) := leastP_none _ _ (fun j hj => hno j (by omega))
      clear hno
      go_wp2
      go_ret2
      refine ⟨?_, hB⟩
      unfold lwV
      rw [HS.out]
      simp
end Go.Proofs.YtkafkipjedpohaaGreatDoor

/-
  The walk of check.look.
-/
namespace Go.Proofs.YtkafkipjedpohaaGreatDoor
open Go.RowKit

theorem hid {p : Prop} (h : p) : Hid p := h
theorem PlacesAt.alloc {w : World} {b n : Nat} {s : St} (h : PlacesAt w b n s) (o : Obj) : PlacesAt (w.alloc o) b n s := World.rowIs.alloc h o
theorem PlacesAt.drewN {w : World} {b n : Nat} {s : St} (h : PlacesAt w b n s) (k : Nat) : PlacesAt (w.drewN k) b n s := h
theorem Kp.drewN {b : Nat} {u w : World} (h : Kp b u w) (k : Nat) : Kp b u (w.drewN k) := ⟨h.os, h.tape, h.output, h.size, h.block⟩
theorem PlacesAt.below {w w' : World} {B b n : Nat} {s : St} (h : PlacesAt w b n s) (k : Below B w w') (hb : b < B) : PlacesAt w' b n s := World.rowIs.of_block h (k.block b hb)

theorem afterP_nonneg {op a : Int} {i : Nat} (hj : op = 10 ∨ op = 11 → 0 ≤ a) : ∀ t, t ∈ afterP op a i → 0 ≤ t := by
  intro t ht
  unfold afterP at ht
  split at ht
  · simp at ht
  · split at ht
    · simp at ht; subst ht; exact hj (Or.inl (by assumption))
    · split at ht
      · simp at ht
        rcases ht with rfl | rfl
        · omega
        · exact hj (Or.inr (by assumption))
      · simp at ht; omega
theorem afterP_len (op a : Int) (i : Nat) : (afterP op a i).length ≤ 2 := by unfold afterP; split <;> (try split) <;> (try split) <;> simp
theorem getD_lt (l : List Int) (k : Nat) (h : k < l.length) : l.getD k 0 = l[k] := by simp [List.getD_eq_getElem?_getD, h]
theorem reachAll_drop (n : Nat) (h : Int) (l : List Int) (s : St) (k : Nat) (hk : k < l.length) :
    reachAll n h (l.drop k) s = if (reachP n s (l.getD k 0) h).1 = 0 then reachAll n h (l.drop (k + 1)) (reachP n s (l.getD k 0) h).2 else reachP n s (l.getD k 0) h := by
  rw [List.drop_eq_getElem_cons hk, reachAll, getD_lt l k hk]
theorem reachAll_end (n : Nat) (h : Int) (l : List Int) (s : St) : reachAll n h (l.drop l.length) s = (0, s) := by simp [reachAll]

theorem IntsAt.kp {w w' : World} {c b : Nat} {l : List Int} (h : IntsAt w b l) (k : Kp c w w') (hb : b < w.heap.size) (hc : b ≠ c) : IntsAt w' b l :=
  fun j hj => (k.cell (p := ⟨b, _, none⟩) hb hc).trans (h j hj)

set_option maxHeartbeats 1000000 in
theorem look_any (cb co cc b n i : Nat) (op ar : Nat → Int) (s : St) (w : World) (hc : CodeAt w cb co n op ar) (hcb : cb < w.heap.size) (hne : ¬ cb = b) (hp : PlacesAt w b n s) (ht : TabAt w) (h0b : ¬ 0 = b) (hs : HB s) (hi : i < n) (hn : n ≤ 64)
    (ho : 0 ≤ op i ∧ op i < 22) (h13 : op i = 13 → 0 ≤ ar i ∧ ar i ≤ 8) (hj : op i = 10 ∨ op i = 11 → 0 ≤ ar i ∧ ar i < n) :
    Calls Tryz.prog 95 #[.slice (some ⟨cb, co, none⟩) n cc, .slice (some ⟨b, 0, none⟩) n n, .int .i64 i] w fun e w' =>
      e = .returned (.int .i64 (lookP n op ar s i).1) ∧ PlacesAt w' b n (lookP n op ar s i).2 ∧ Kp b w w' := by
  have hb : b < w.heap.size := World.rowIs.lt hp
  obtain ⟨x0, x1⟩ := hc i hi
  have fz : ∀ o, w.frozen? ⟨b, o, none⟩ = false := fun o => World.rowIs.frozen hp o
  have l1 := hp.L hi
  have hp1 := hp.setL i true
  have hk1 : Kp b w (w.setCell ⟨b, i * 3 + 1, none⟩ (.bool true)) := (Kp.refl b w).set _ _
  have ht1 := ht.kp hk1 (by omega) h0b
  have HP : Hid (PlacesAt (w.setCell ⟨b, i * 3 + 1, none⟩ (.bool true)) b n { s with L := upd s.L i true } ∧ Kp b w (w.setCell ⟨b, i * 3 + 1, none⟩ (.bool true)) ∧ TabAt (w.setCell ⟨b, i * 3 + 1, none⟩ (.bool true)) ∧ CodeAt w cb co n op ar ∧ HB s) := ⟨hp1, hk1, ht1, hc, hs⟩
  clear hp1 hk1 ht1 hp ht hc hs
  have hsz : (w.setCell ⟨b, i * 3 + 1, none⟩ (.bool true)).heap.size = w.heap.size := by simp [World.setCell]
  have hpb := popsP_bd h13
  have hqb := pushesP_bd (op i)
  have hHi := HP.out.2.2.2.2 i
  go_enter Tryz.func95, Tryz.ntmps95
  go_wp2_with fail
  refine (effectOf_any _ _ _ HP.out.2.2.1 ho.1 ho.2 h13 (by omega)).mono ?_
  rintro e w2 ⟨rfl, hB2⟩
  obtain ⟨hp1, hk1, ht1, hc, hs⟩ := HP.out
  have hp2 := hp1.below hB2 (by omega)
  have hk2 : Kp b w w2 := hk1.trans (Kp.of_below hB2)
  have y0 : w2.cell? ⟨cb, co + i * 2, none⟩ = some (.int .i64 (op i)) := ((hc.kp hk2 hcb hne) i hi).1
  have y1 : w2.cell? ⟨cb, co + i * 2 + 1, none⟩ = some (.int .i64 (ar i)) := ((hc.kp hk2 hcb hne) i hi).2
  have y2 : w2.cell? ⟨b, i * 3 + 2, none⟩ = some (.int .i64 (s.H i)) := hp2.H hi
  have hsz2 : w.heap.size ≤ w2.heap.size := hk2.size
  have hb2 : b < w2.heap.size := by omega
  have hcb2 : cb < w2.heap.size := by omega
  clear HP x0 x1 l1 hB2 hp1 hk1 ht1 hc hsz fz
  have hs1 : HB { s with L := upd s.L i true } := hs
  clear hs
  by_cases hA : s.H i < popsP (op i) (ar i)
  · have HL : Hid (lookP n op ar s i = (4, { s with L := upd s.L i true })) := by unfold Hid lookP; rw [if_pos hA]
    have HP2 : Hid (PlacesAt w2 b n { s with L := upd s.L i true } ∧ Kp b w w2) := ⟨hp2, hk2⟩
    clear hp2 hk2 hs1
    generalize popsP (op i) (ar i) = pp at *
    generalize pushesP (op i) = qq at *
    generalize s.H i = hh at *
    go_wp2
    go_quiet (fail)
    go_wp2
    go_ret
    rw [HL.out]
    exact ⟨rfl, (HP2.out.1.alloc _).drewN _, (HP2.out.2.alloc _).drewN _⟩
  · by_cases hC : 16 < s.H i - popsP (op i) (ar i) + pushesP (op i)
    · have HL : Hid (lookP n op ar s i = (4, { s with L := upd s.L i true })) := by unfold Hid lookP; rw [if_neg hA, if_pos hC]
      have HP2 : Hid (PlacesAt w2 b n { s with L := upd s.L i true } ∧ Kp b w w2) := ⟨hp2, hk2⟩
      clear hp2 hk2 hs1
      generalize popsP (op i) (ar i) = pp at *
      generalize pushesP (op i) = qq at *
      generalize s.H i = hh at *
      go_wp2
      go_quiet (fail)
      go_wp2
      go_quiet (fail)
      go_wp2
      go_ret
      rw [HL.out]
      exact ⟨rfl, (HP2.out.1.alloc _).drewN _, (HP2.out.2.alloc _).drewN _⟩
    · have HL : Hid (lookP n op ar s i = reachAll n (s.H i - popsP (op i) (ar i) + pushesP (op i)) (afterP (op i) (ar i) i) { s with L := upd s.L i true }) := by unfold Hid lookP; rw [if_neg hA, if_neg hC]
      have HP2 : Hid (PlacesAt w2 b n { s with L := upd s.L i true } ∧ Kp b w w2 ∧ HB { s with L := upd s.L i true }) := ⟨hp2, hk2, hs1⟩
      clear hp2 hk2 hs1
      generalize popsP (op i) (ar i) = pp at *
      generalize pushesP (op i) = qq at *
      generalize s.H i = hh at *
      go_wp2
      go_quiet (fail)
      go_wp2
      go_quiet (fail)
      go_wp2_with fail
      refine (follows_any _ _ _ _ (by omega)).mono ?_
      rintro e w3 ⟨p, c, rfl, hB3, hG⟩
      obtain ⟨hp2, hk2, hs1⟩ := HP2.out
      have hp3 : PlacesAt w3 b n { s with L := upd s.L i true } := ((hp2.alloc _).drewN _).below hB3 (by simp; omega)
      have hk3 : Kp b w w3 := ((hk2.alloc _).drewN _).trans (Kp.of_below hB3)
      have hnn := afterP_nonneg (i := i) (fun hx => (hj hx).1)
      have hln := afterP_len (op i) (ar i) i
      have hsz3 : w2.heap.size + 1 ≤ w3.heap.size := by have := hB3.size; simpa using this
      clear HP2 hp2 hk2 hB3 y0 y1 y2 hcb2
      generalize { s with L := upd s.L i true } = s1 at *
      generalize afterP (op i) (ar i) i = l at *
      clear ho h13 hj
      rcases hG with rfl | ⟨bl, hbl, hbl3, rfl, hI⟩
      · have HF : Hid (PlacesAt w3 b n s1 ∧ Kp b w w3) := ⟨hp3, hk3⟩
        clear hp3 hk3 hnn hs1
        go_wp2
        go_loopw [49] (fun j wr => j = .int .i64 0 ∧ wr = w3) (fun _ _ => 0)
        case atStart => exact ⟨rfl, rfl⟩
        case round =>
          obtain ⟨rfl, rfl⟩ := hrel
          go_wp2
          go_ret
          rw [HL.out]
          exact ⟨rfl, HF.out⟩
      · have hblb : ¬ bl = b := by simp at hbl; omega
        have hblw : w2.heap.size + 1 ≤ bl := by simpa using hbl
        have HF : Hid ((∀ t, t ∈ l → 0 ≤ t) ∧ HB s1) := ⟨hnn, hs1⟩
        clear hbl hnn hs1
        have h16 : 0 ≤ hh - pp + qq := by omega
        generalize hh - pp + qq = ht at *
        go_wp2
        go_loopw [49] (fun j wr => ∃ (k : Nat) (sk : St), k ≤ l.length ∧ j = .int .i64 k ∧ reachAll n ht l s1 = reachAll n ht (l.drop k) sk ∧ PlacesAt wr b n sk ∧ Kp b w wr ∧ IntsAt wr bl l ∧ bl < wr.heap.size) (fun j _ => l.length - (intOf j).toNat)
        case atStart => exact ⟨0, s1, Nat.zero_le _, rfl, rfl, hp3, hk3, hI, hbl3⟩
        case round =>
          obtain ⟨k, sk, hk, rfl, hR, hpk, hkk, hIk, hblk⟩ := hrel
          by_cases hlt : k < l.length
          · have z := hIk k hlt
            have hz0 : 0 ≤ l.getD k 0 := HF.out.1 _ (by rw [getD_lt l k hlt]; exact List.getElem_mem _)
            have HK : Hid (reachAll n ht l s1 = reachAll n ht (l.drop k) sk ∧ PlacesAt wr b n sk ∧ Kp b w wr ∧ IntsAt wr bl l) := ⟨hR, hpk, hkk, hIk⟩
            have hst := reachAll_drop n ht l sk k hlt
            clear hR hpk hkk hIk hp3 hk3 hI
            generalize l.getD k 0 = tk at *
            have HS : Hid (reachAll n ht (l.drop k) sk = if (reachP n sk tk ht).1 = 0 then reachAll n ht (l.drop (k + 1)) (reachP n sk tk ht).2 else reachP n sk tk ht) := hst
            clear hst
            have hcon := reach_any b n sk tk ht wr HK.out.2.1 hz0
            rcases hrp : reachP n sk tk ht with ⟨er, sr⟩
            rw [hrp] at hcon
            unfold Hid at HS
            rw [hrp] at HS
            simp only at hcon HS
            have HC := hid hcon
            have HS' := hid HS
            clear hcon HS hrp
            go_wp2_with fail
            refine HC.out.mono ?_
            rintro e w4 ⟨rfl, hp4, hk4⟩
            have hk5 : Kp b w w4 := HK.out.2.2.1.trans hk4
            have hI5 : IntsAt w4 bl l := HK.out.2.2.2.kp hk4 hblk hblb
            have hb5 : bl < w4.heap.size := by have := hk4.size; omega
            have HM : Hid (PlacesAt w4 b n sr ∧ Kp b w w4 ∧ IntsAt w4 bl l) := ⟨hp4, hk5, hI5⟩
            clear hp4 hk4 hk5 hI5 HC
            by_cases her : er = 0
            · subst her
              go_wp2
              go_roundw
              case rel => exact ⟨k + 1, sr, by omega, by go_num, by rw [HK.out.1, HS'.out]; rfl, HM.out.1, HM.out.2.1, HM.out.2.2, hb5⟩
              case measure => simp [intOf]; omega
            · have hne : (er != 0) = true := by simpa using her
              have HR : Hid (lookP n op ar s i = (er, sr)) := by unfold Hid; rw [HL.out, HK.out.1, HS'.out, if_neg her]
              clear her
              go_wp2
              go_ret
              rw [HR.out]
              exact ⟨rfl, HM.out.1, HM.out.2.1⟩
          · obtain rfl : k = l.length := by omega
            have HR : Hid (lookP n op ar s i = (0, sk)) := by unfold Hid; rw [HL.out, hR, reachAll_end]
            have HM : Hid (PlacesAt wr b n sk ∧ Kp b w wr) := ⟨hpk, hkk⟩
            clear hR hpk hkk hIk hp3 hk3 hI
            go_wp2
            go_ret
            rw [HR.out]
            exact ⟨rfl, HM.out.1, HM.out.2⟩
end Go.Proofs.YtkafkipjedpohaaGreatDoor
