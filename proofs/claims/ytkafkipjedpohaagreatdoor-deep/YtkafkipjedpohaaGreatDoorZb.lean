import Derived.Test.YtkafkipjedpohaaGreatDoorZ9

/-
  How compiled code is made: stretchOf.
-/
namespace Go.Proofs.YtkafkipjedpohaaGreatDoor
open Go.RowKit

/-- What stretchOf leaves. -/
def StrOfE (w : World) (k : Mk) (e : Ending) (w' : World) : Prop :=
  ∃ v L, e = .returned (.agg #[.int .i64 k.seen, v]) ∧ StrV L k.ds v ∧ Hb L w' ∧ (∀ t, t ∈ L → w.heap.size ≤ t.1) ∧ Below w.heap.size w w'

set_option maxRecDepth 100000 in
set_option maxHeartbeats 1000000 in
theorem stretchOfM (w : World) (cb co n cap p : Nat) (f : PF) (m : Int) (hcode : ∀ i, i < n → w.cell? ⟨cb, co + i * 2, none⟩ = some (.int .i64 (f.op (p + i))) ∧ w.cell? ⟨cb, co + i * 2 + 1, none⟩ = some (.int .i64 (f.ar (p + i)))) (hcb : cb < w.heap.size) (hpn : p + n = f.cn) (hn : n ≤ 64) (hleg : ∀ i, i < f.cn → legalP (f.op i) (f.ar i) f.locals f.cn m = true) :
    Calls Tryz.prog 144 #[.slice (some ⟨cb, co, none⟩) n cap] w (StrOfE w (mkOf f p)) := by
  have hbl0 : Below w.heap.size w (w.alloc (.cells #[.int .i64 0, .nilFunc] 183)) := (Below.refl _ _).alloc (Nat.le_refl _) _
  have hst := MkA.start (w.alloc (.cells #[.int .i64 0, .nilFunc] 183))
  have hsz0 : (w.alloc (.cells #[.int .i64 0, .nilFunc] 183)).heap.size = w.heap.size + 1 := by simp
  rw [hsz0] at hst
  have hbl1 : Below (w.heap.size + 1) (w.alloc (.cells #[.int .i64 0, .nilFunc] 183)) ((w.alloc (.cells #[.int .i64 0, .nilFunc] 183)).alloc (.cells #[.slice none 0 0, .slice none 0 0, .int .i64 0, .int .i64 0] 219)) := by
    rw [← hsz0]
    exact (Below.refl _ _).alloc (Nat.le_refl _) _
  have HR0 := hid (Go.Deep.blk_alloc_new w (.cells #[.int .i64 0, .nilFunc] 183))
  have HB0 := hid hbl0
  have HST := hid (And.intro hst hbl1)
  have HCD := hid hcode
  have HLG := hid (And.intro hleg hpn)
  have HMK : Hid (mkFrom f n p ⟨[], [], 0, 0⟩ = mkOf f p) := hid (by unfold mkOf; rw [show f.cn - p = n by omega])
  clear hbl0 hst hsz0 hbl1 hcode hleg
  go_enter Tryz.func144, Tryz.ntmps144
  go_wp2
  go_loopw [10] (fun v wr => ∃ j : Nat, j ≤ n ∧ v = .int .i64 j ∧ ∃ L k, MkA wr (w.heap.size + 1) (w.heap.size + 1) L k ∧ Below (w.heap.size + 1) (w.alloc (.cells #[.int .i64 0, .nilFunc] 183)) wr ∧ Szk j k ∧ mkFrom f (n - j) (p + j) k = mkOf f p) (fun v _ => n - (intOf v).toNat)
  case atStart =>
    exact ⟨0, by omega, rfl, [], ⟨[], [], 0, 0⟩, HST.out.1, HST.out.2, ⟨rfl, by simp, by simp, Nat.le_refl _⟩, HMK.out⟩
  case round =>
    obtain ⟨j, hj, rfl, L, k, hA, hB, hS, hK⟩ := hrel
    by_cases hlt : j < n
    · have hdec : decide ((j : Int) < (n : Int)) = true := by simp; omega
      obtain ⟨q0, q1⟩ := HCD.out j hlt
      have hbw : Below w.heap.size w wr := HB0.out.trans (hB.mono (by omega))
      have y0 := (hbw.cell (p := ⟨cb, co + j * 2, none⟩) hcb).trans q0
      have y1 := (hbw.cell (p := ⟨cb, co + j * 2 + 1, none⟩) hcb).trans q1
      have hlg := HLG.out.1 (p + j) (by have := HLG.out.2; omega)
      have hun : mkFrom f (n - j) (p + j) k = if turnsP (f.op (p + j)) = true then k.turn (f.op (p + j)) (f.ar (p + j)) else mkFrom f (n - (j + 1)) (p + (j + 1)) (k.straight (f.op (p + j)) (f.ar (p + j))) := by
        rw [show n - j = (n - (j + 1)) + 1 by omega]
        rfl
      rw [hun] at hK
      have i0 : (0 : Int) ≤ (j : Int) := by omega
      have i1 : (j : Int) < (n : Int) := by omega
      have hA1 := hA.box #[.int .i64 (f.op (p + j)), .int .i64 (f.ar (p + j))] 33
      have hB1 := hB.trans (below_alloc hA.le.1 (.cells #[.int .i64 (f.op (p + j)), .int .i64 (f.ar (p + j))] 33))
      have HA := hid (And.intro hA1 (And.intro hB1 (And.intro hS (And.intro hK hlg))))
      obtain ⟨tb, htb⟩ : ∃ tb, turnsP (f.op (p + j)) = tb := ⟨_, rfl⟩
      have HTM := hid (fun X => turnsM (f.op (p + j)) X)
      have htb2 : decide (f.op (p + j) = 10 ∨ f.op (p + j) = 11 ∨ f.op (p + j) = 13 ∨ f.op (p + j) = 14) = tb := htb
      rw [htb2] at HTM
      have HTB := hid htb
      clear hA hB hS hK hlg hA1 hB1 hun q0 q1 hbw htb htb2 HST HMK
      generalize f.op (p + j) = op at *
      generalize f.ar (p + j) = ar at *
      go_wp2_with fail
      have hwz : wr.heap.size < (wr.alloc (.cells #[.int .i64 op, .int .i64 ar] 33)).heap.size := by simp
      clear y0 y1
      refine (HTM.out _).mono ?_
      rintro e w1 ⟨rfl, hw1⟩
      rw [hw1]
      clear hw1 w1 HTM
      cases tb
      · have HT := hid (straightMk HA.out.1 (HA.out.2.2.1.sml (by omega)) op ar HA.out.2.2.2.2 HTB.out)
        go_wp2_with fail
        refine HT.out.mono ?_
        rintro e w2 ⟨rfl, L2, hl2, h2, b2⟩
        have HQ := hid (show ∃ L k, MkA w2 (w.heap.size + 1) (w.heap.size + 1) L k ∧ Below (w.heap.size + 1) (w.alloc (.cells #[.int .i64 0, .nilFunc] 183)) w2 ∧ Szk (j + 1) k ∧ mkFrom f (n - (j + 1)) (p + (j + 1)) k = mkOf f p from ⟨L2, k.straight op ar, h2, HA.out.2.1.trans b2, HA.out.2.2.1.straight op ar, by have := HA.out.2.2.2.1; rw [if_neg (by rw [HTB.out]; simp)] at this; exact this⟩)
        clear h2 b2 hl2 HT HA
        go_wp2
        exact ⟨⟨j + 1, by omega, by go_num, HQ.out⟩, by simp [intOf]; omega⟩
      · have HT := hid (turnMk HA.out.1 (HA.out.2.2.1.sml (by omega)) op ar HA.out.2.2.2.2 HTB.out)
        go_wp2_with fail
        refine HT.out.mono ?_
        rintro e wf ⟨rfl, L2, hl2, h2, b2⟩
        have HFin := hid (show ∃ Lf, MkA wf (w.heap.size + 1) (w.heap.size + 1) Lf (mkOf f p) ∧ Below (w.heap.size + 1) (w.alloc (.cells #[.int .i64 0, .nilFunc] 183)) wf from ⟨L2, by have := HA.out.2.2.2.1; rw [if_pos HTB.out] at this; rw [← this]; exact h2, HA.out.2.1.trans b2⟩)
        clear h2 b2 hl2 HT HA HCD HLG HTB
        obtain ⟨Lf, af, bf⟩ := HFin.out
        obtain ⟨pd, cd, c0, hfin⟩ := af.finish
        obtain ⟨c2, _, _, _⟩ := af.counts
        have hr0 : wf.heap[w.heap.size]? = some (.cells #[.int .i64 0, .nilFunc] 183 (0, 0)) := (bf.block w.heap.size (by omega)).trans HR0.out
        have HC := hid (And.intro c0 (And.intro c2 (And.intro hr0 (And.intro hfin (And.intro bf af.le)))))
        clear c0 c2 hr0 hfin bf af HFin
        generalize hkf : mkOf f p = kf at *
        have hkz := HC.out.2.2.2.2.2.2.1
        go_wp2_with fail
        refine region_lex (fun w' => w'.cell? ⟨w.heap.size + 1, 0, none⟩ = some (.slice pd kf.ds.length cd) ∧ w'.cell? ⟨w.heap.size + 1, 2, none⟩ = some (.int .i64 kf.seen)) [(false, 0), (false, 1), (false, 2), (false, 3), (false, 4), (false, 5), (false, 6), (false, 7), (true, 8), (false, 9), (true, 10)] (by kernel_rfl) (by kernel_rfl) (panic_frame _ _ _) ⟨HC.out.1, HC.out.2.1⟩ ?_
        simp only [lexL, List.getElem?_cons_zero, List.getElem?_cons_succ]
        iterate 8 (refine lexW_free (by rfl) (by intro w' hS'; obtain ⟨y0, y1⟩ := hS'; go_simp; exact rfl) ?_; simp only [Act.put, List.setIfInBounds_toArray, List.set_cons_zero, List.set_cons_succ])
        have hdr : Below wf.heap.size wf wf.drew := (Below.refl _ _).drew
        have hkz2 : w.heap.size + 1 < wf.drew.heap.size := hkz
        have hc0 : wf.drew.cell? ⟨w.heap.size + 1, 0, none⟩ = some (.slice pd kf.ds.length cd) := HC.out.1
        have hc2 : wf.drew.cell? ⟨w.heap.size + 1, 2, none⟩ = some (.int .i64 kf.seen) := HC.out.2.1
        have HD := hid (And.intro hdr (And.intro hc0 hc2))
        clear hdr hc0 hc2
        generalize hwd : wf.drew = wd at *
        have hwsz : wd.heap.size = wf.heap.size := by rw [← hwd]; rfl
        have HWS := hid hwsz
        clear hwsz hwd
        refine lexW_sole (fun K hK => ?_)
        go_simp
        refine (allOfM wd pd kf.ds.length cd).mono ?_
        rintro e w8 ⟨rfl, hw8⟩
        rw [hw8]
        clear hw8 w8
        have hbl8 : Below wd.heap.size wd (wd.alloc (.cells #[.slice pd kf.ds.length cd] 216)) := (Below.refl _ _).alloc (Nat.le_refl _) _
        have hz8 : wd.heap.size < (wd.alloc (.cells #[.slice pd kf.ds.length cd] 216)).heap.size := by simp
        refine hK.out _ _ ⟨alloc_cell HD.out.2.1 hkz2, alloc_cell HD.out.2.2 hkz2⟩ ?_
        clear hK K
        refine lexW_free (by rfl) (by intro w' hS'; clear hS'; go_simp; exact rfl) ?_
        simp only [Act.put, List.setIfInBounds_toArray, List.set_cons_zero, List.set_cons_succ]
        obtain ⟨L', hL1, hL2, hL3⟩ := HC.out.2.2.2.1 (wd.alloc (.cells #[.slice pd kf.ds.length cd] 216)) wd.heap.size (HD.out.1.trans (hbl8.mono (by rw [HWS.out]; exact Nat.le_refl _))) (by have := HC.out.2.2.2.2.2.1; rw [HWS.out]; exact this) (Go.Deep.blk_alloc_new _ _)
        have hrd : wd.heap[w.heap.size]? = some (.cells #[.int .i64 0, .nilFunc] 183 (0, 0)) := (HD.out.1.block w.heap.size (by omega)).trans HC.out.2.2.1
        have hr8 : (wd.alloc (.cells #[.slice pd kf.ds.length cd] 216)).heap[w.heap.size]? = some (.cells #[.int .i64 0, .nilFunc] 183 (0, 0)) := (hbl8.block w.heap.size (heap_lt hrd)).trans hrd
        have HL := hid (And.intro hL1 (And.intro hL2 hL3))
        have HBW := hid (show Below w.heap.size w (wd.alloc (.cells #[.slice pd kf.ds.length cd] 216)) from by
          have h1 : Below w.heap.size w wf := HB0.out.trans (HC.out.2.2.2.2.1.mono (by omega))
          exact (h1.trans (HD.out.1.mono (by omega))).trans (hbl8.mono (by rw [HWS.out]; omega)))
        have HR8 := hid hr8
        have HZ := hid (show w.heap.size < (wd.alloc (.cells #[.slice pd kf.ds.length cd] 216)).heap.size from heap_lt hr8)
        have HK1 := hid (And.intro (alloc_cell (o := .cells #[.slice pd kf.ds.length cd] 216) HD.out.2.1 hkz2) (alloc_cell (o := .cells #[.slice pd kf.ds.length cd] 216) HD.out.2.2 hkz2))
        clear hL1 hL2 hL3 hrd hr8 hbl8 hz8 HC HD
        generalize hvb : wd.heap.size = vb at *
        generalize wd.alloc (.cells #[.slice pd kf.ds.length cd] 216) = V at *
        have x0 : V.cell? ⟨w.heap.size, 0, none⟩ = some (.int .i64 0) := (cell_heap HR8.out).trans rfl
        have x1 : V.cell? ⟨w.heap.size, 1, none⟩ = some .nilFunc := (cell_heap HR8.out).trans rfl
        have z0 : V.frozen? ⟨w.heap.size, 0, none⟩ = false := frozen_heap HR8.out
        have z1 : V.frozen? ⟨w.heap.size, 1, none⟩ = false := frozen_heap HR8.out
        refine lexW_sole (fun K hK => ?_)
        go_simp
        have hkk : ¬ w.heap.size = w.heap.size + 1 := by omega
        refine hK.out _ _ ⟨?_, ?_⟩ ?_
        · rw [World.cell?_setCell_far _ _ _ _ hkk, World.cell?_setCell_far _ _ _ _ hkk]; exact HK1.out.1
        · rw [World.cell?_setCell_far _ _ _ _ hkk, World.cell?_setCell_far _ _ _ _ hkk]; exact HK1.out.2
        clear hK K x0 x1 z0 z1
        have hr9 := heap_set (o := 1) (heap_set (o := 0) HR8.out (.int .i64 kf.seen)) (.func (.func 176) #[] #[ptr vb])
        have HQ := hid (show StrOfE w kf (.returned (.agg #[.int .i64 kf.seen, .func (.func 176) #[] #[ptr vb]])) ((V.setCell ⟨w.heap.size, 0, none⟩ (.int .i64 kf.seen)).setCell ⟨w.heap.size, 1, none⟩ (.func (.func 176) #[] #[ptr vb])) from
          ⟨_, L', rfl, HL.out.2.2, fun t ht => by
            have hne : t.1 ≠ w.heap.size := by have := HL.out.1 t ht; omega
            exact ((Below.heap_setCell _ _ _ _ hne).trans (Below.heap_setCell _ _ _ _ hne)).trans (HL.out.2.1 t ht), fun t ht => by have := HL.out.1 t ht; omega, (HBW.out.setCell (Nat.le_refl _) _).setCell (Nat.le_refl _) _⟩)
        have y0 : ((V.setCell ⟨w.heap.size, 0, none⟩ (.int .i64 kf.seen)).setCell ⟨w.heap.size, 1, none⟩ (.func (.func 176) #[] #[ptr vb])).cell? ⟨w.heap.size, 0, none⟩ = some (.int .i64 kf.seen) := (cell_heap hr9).trans rfl
        have y1 : ((V.setCell ⟨w.heap.size, 0, none⟩ (.int .i64 kf.seen)).setCell ⟨w.heap.size, 1, none⟩ (.func (.func 176) #[] #[ptr vb])).cell? ⟨w.heap.size, 1, none⟩ = some (.func (.func 176) #[] #[ptr vb]) := (cell_heap hr9).trans rfl
        clear hr9
        refine lexW_done ?_
        go_wp2
        exact bodyPost_ret (v := .agg #[.int .i64 kf.seen, .func (.func 176) #[] #[ptr vb]]) (by simp [results, Tryz.results144, go_sem, y0, y1]) rfl HQ.out
    · have hdec : decide ((j : Int) < (n : Int)) = false := by simp; omega
      have hkk : k = mkOf f p := by rw [← hK, show n - j = 0 by omega]; rfl
      have HFin := hid (show ∃ Lf, MkA wr (w.heap.size + 1) (w.heap.size + 1) Lf (mkOf f p) ∧ Below (w.heap.size + 1) (w.alloc (.cells #[.int .i64 0, .nilFunc] 183)) wr from ⟨L, by rw [← hkk]; exact hA, hB⟩)
      clear hA hB hS hK hkk HCD HLG HST HMK
      generalize wr = wf at *
      obtain ⟨Lf, af, bf⟩ := HFin.out
      obtain ⟨pd, cd, c0, hfin⟩ := af.finish
      obtain ⟨c2, _, _, _⟩ := af.counts
      have hr0 : wf.heap[w.heap.size]? = some (.cells #[.int .i64 0, .nilFunc] 183 (0, 0)) := (bf.block w.heap.size (by omega)).trans HR0.out
      have HC := hid (And.intro c0 (And.intro c2 (And.intro hr0 (And.intro hfin (And.intro bf af.le)))))
      clear c0 c2 hr0 hfin bf af HFin
      generalize hkf : mkOf f p = kf at *
      have hkz := HC.out.2.2.2.2.2.2.1
      go_wp2_with fail
      refine region_lex (fun w' => w'.cell? ⟨w.heap.size + 1, 0, none⟩ = some (.slice pd kf.ds.length cd) ∧ w'.cell? ⟨w.heap.size + 1, 2, none⟩ = some (.int .i64 kf.seen)) [(false, 0), (false, 1), (false, 2), (false, 3), (false, 4), (false, 5), (false, 6), (false, 7), (true, 8), (false, 9), (true, 10)] (by kernel_rfl) (by kernel_rfl) (panic_frame _ _ _) ⟨HC.out.1, HC.out.2.1⟩ ?_
      simp only [lexL, List.getElem?_cons_zero, List.getElem?_cons_succ]
      iterate 8 (refine lexW_free (by rfl) (by intro w' hS'; obtain ⟨y0, y1⟩ := hS'; go_simp; exact rfl) ?_; simp only [Act.put, List.setIfInBounds_toArray, List.set_cons_zero, List.set_cons_succ])
      have hdr : Below wf.heap.size wf wf.drew := (Below.refl _ _).drew
      have hkz2 : w.heap.size + 1 < wf.drew.heap.size := hkz
      have hc0 : wf.drew.cell? ⟨w.heap.size + 1, 0, none⟩ = some (.slice pd kf.ds.length cd) := HC.out.1
      have hc2 : wf.drew.cell? ⟨w.heap.size + 1, 2, none⟩ = some (.int .i64 kf.seen) := HC.out.2.1
      have HD := hid (And.intro hdr (And.intro hc0 hc2))
      clear hdr hc0 hc2
      generalize hwd : wf.drew = wd at *
      have hwsz : wd.heap.size = wf.heap.size := by rw [← hwd]; rfl
      have HWS := hid hwsz
      clear hwsz hwd
      refine lexW_sole (fun K hK => ?_)
      go_simp
      refine (allOfM wd pd kf.ds.length cd).mono ?_
      rintro e w8 ⟨rfl, hw8⟩
      rw [hw8]
      clear hw8 w8
      have hbl8 : Below wd.heap.size wd (wd.alloc (.cells #[.slice pd kf.ds.length cd] 216)) := (Below.refl _ _).alloc (Nat.le_refl _) _
      have hz8 : wd.heap.size < (wd.alloc (.cells #[.slice pd kf.ds.length cd] 216)).heap.size := by simp
      refine hK.out _ _ ⟨alloc_cell HD.out.2.1 hkz2, alloc_cell HD.out.2.2 hkz2⟩ ?_
      clear hK K
      refine lexW_free (by rfl) (by intro w' hS'; clear hS'; go_simp; exact rfl) ?_
      simp only [Act.put, List.setIfInBounds_toArray, List.set_cons_zero, List.set_cons_succ]
      obtain ⟨L', hL1, hL2, hL3⟩ := HC.out.2.2.2.1 (wd.alloc (.cells #[.slice pd kf.ds.length cd] 216)) wd.heap.size (HD.out.1.trans (hbl8.mono (by rw [HWS.out]; exact Nat.le_refl _))) (by have := HC.out.2.2.2.2.2.1; rw [HWS.out]; exact this) (Go.Deep.blk_alloc_new _ _)
      have hrd : wd.heap[w.heap.size]? = some (.cells #[.int .i64 0, .nilFunc] 183 (0, 0)) := (HD.out.1.block w.heap.size (by omega)).trans HC.out.2.2.1
      have hr8 : (wd.alloc (.cells #[.slice pd kf.ds.length cd] 216)).heap[w.heap.size]? = some (.cells #[.int .i64 0, .nilFunc] 183 (0, 0)) := (hbl8.block w.heap.size (heap_lt hrd)).trans hrd
      have HL := hid (And.intro hL1 (And.intro hL2 hL3))
      have HBW := hid (show Below w.heap.size w (wd.alloc (.cells #[.slice pd kf.ds.length cd] 216)) from by
        have h1 : Below w.heap.size w wf := HB0.out.trans (HC.out.2.2.2.2.1.mono (by omega))
        exact (h1.trans (HD.out.1.mono (by omega))).trans (hbl8.mono (by rw [HWS.out]; omega)))
      have HR8 := hid hr8
      have HZ := hid (show w.heap.size < (wd.alloc (.cells #[.slice pd kf.ds.length cd] 216)).heap.size from heap_lt hr8)
      have HK1 := hid (And.intro (alloc_cell (o := .cells #[.slice pd kf.ds.length cd] 216) HD.out.2.1 hkz2) (alloc_cell (o := .cells #[.slice pd kf.ds.length cd] 216) HD.out.2.2 hkz2))
      clear hL1 hL2 hL3 hrd hr8 hbl8 hz8 HC HD
      generalize hvb : wd.heap.size = vb at *
      generalize wd.alloc (.cells #[.slice pd kf.ds.length cd] 216) = V at *
      have x0 : V.cell? ⟨w.heap.size, 0, none⟩ = some (.int .i64 0) := (cell_heap HR8.out).trans rfl
      have x1 : V.cell? ⟨w.heap.size, 1, none⟩ = some .nilFunc := (cell_heap HR8.out).trans rfl
      have z0 : V.frozen? ⟨w.heap.size, 0, none⟩ = false := frozen_heap HR8.out
      have z1 : V.frozen? ⟨w.heap.size, 1, none⟩ = false := frozen_heap HR8.out
      refine lexW_sole (fun K hK => ?_)
      go_simp
      have hkk : ¬ w.heap.size = w.heap.size + 1 := by omega
      refine hK.out _ _ ⟨?_, ?_⟩ ?_
      · rw [World.cell?_setCell_far _ _ _ _ hkk, World.cell?_setCell_far _ _ _ _ hkk]; exact HK1.out.1
      · rw [World.cell?_setCell_far _ _ _ _ hkk, World.cell?_setCell_far _ _ _ _ hkk]; exact HK1.out.2
      clear hK K x0 x1 z0 z1
      have hr9 := heap_set (o := 1) (heap_set (o := 0) HR8.out (.int .i64 kf.seen)) (.func (.func 176) #[] #[ptr vb])
      have HQ := hid (show StrOfE w kf (.returned (.agg #[.int .i64 kf.seen, .func (.func 176) #[] #[ptr vb]])) ((V.setCell ⟨w.heap.size, 0, none⟩ (.int .i64 kf.seen)).setCell ⟨w.heap.size, 1, none⟩ (.func (.func 176) #[] #[ptr vb])) from
        ⟨_, L', rfl, HL.out.2.2, fun t ht => by
          have hne : t.1 ≠ w.heap.size := by have := HL.out.1 t ht; omega
          exact ((Below.heap_setCell _ _ _ _ hne).trans (Below.heap_setCell _ _ _ _ hne)).trans (HL.out.2.1 t ht), fun t ht => by have := HL.out.1 t ht; omega, (HBW.out.setCell (Nat.le_refl _) _).setCell (Nat.le_refl _) _⟩)
      have y0 : ((V.setCell ⟨w.heap.size, 0, none⟩ (.int .i64 kf.seen)).setCell ⟨w.heap.size, 1, none⟩ (.func (.func 176) #[] #[ptr vb])).cell? ⟨w.heap.size, 0, none⟩ = some (.int .i64 kf.seen) := (cell_heap hr9).trans rfl
      have y1 : ((V.setCell ⟨w.heap.size, 0, none⟩ (.int .i64 kf.seen)).setCell ⟨w.heap.size, 1, none⟩ (.func (.func 176) #[] #[ptr vb])).cell? ⟨w.heap.size, 1, none⟩ = some (.func (.func 176) #[] #[ptr vb]) := (cell_heap hr9).trans rfl
      clear hr9
      refine lexW_done ?_
      go_wp2
      exact bodyPost_ret (v := .agg #[.int .i64 kf.seen, .func (.func 176) #[] #[ptr vb]]) (by simp [results, Tryz.results144, go_sem, y0, y1]) rfl HQ.out
end Go.Proofs.YtkafkipjedpohaaGreatDoor

/-
  How compiled code is made: compiled.
-/
namespace Go.Proofs.YtkafkipjedpohaaGreatDoor
open Go.RowKit

/-- A list of stretches, one from each instruction of a function on. -/
def CompV (L : Bxs) (f : PF) (v : Value) : Prop :=
  ∃ vb cap arr, v = .slice (some ⟨vb, 0, none⟩) f.cn cap ∧ (vb, arr, 183) ∈ L ∧ ∀ p, p < f.cn → arr[p * 2]? = some (.int .i64 (mkOf f p).seen) ∧ ∃ vd, arr[p * 2 + 1]? = some vd ∧ StrV L (mkOf f p).ds vd
theorem CompV.mono {L L' : Bxs} {f : PF} {v : Value} (h : CompV L f v) (hl : ∀ t, t ∈ L → t ∈ L') : CompV L' f v := by
  obtain ⟨vb, cap, arr, h1, h2, h3⟩ := h
  refine ⟨vb, cap, arr, h1, hl _ h2, fun p hp => ?_⟩
  obtain ⟨a1, vd, a2, a3⟩ := h3 p hp
  exact ⟨a1, vd, a2, a3.mono hl⟩

/-- What compiled leaves. -/
def CompE (w : World) (f : PF) (e : Ending) (w' : World) : Prop :=
  ∃ v L, e = .returned v ∧ CompV L f v ∧ Hb L w' ∧ (∀ t, t ∈ L → w.heap.size ≤ t.1) ∧ Below w.heap.size w w'

theorem Tryz.infoStr : (Tryz.prog.info? 183).map (fun i => (i.zero, i.size, i.bytes)) = some (some (.agg #[.int .i64 0, .nilFunc]), 2, 16) := by kernel_rfl

theorem set_two {cur : Array Value} {j n : Nat} (hs : cur.size = n * 2) (hj : j < n) (x y : Value) : ((cur.setIfInBounds (j * 2) x).setIfInBounds (j * 2 + 1) y).size = n * 2 ∧ ((cur.setIfInBounds (j * 2) x).setIfInBounds (j * 2 + 1) y)[j * 2]? = some x ∧ ((cur.setIfInBounds (j * 2) x).setIfInBounds (j * 2 + 1) y)[j * 2 + 1]? = some y ∧ ∀ i, i ≠ j → ((cur.setIfInBounds (j * 2) x).setIfInBounds (j * 2 + 1) y)[i * 2]? = cur[i * 2]? ∧ ((cur.setIfInBounds (j * 2) x).setIfInBounds (j * 2 + 1) y)[i * 2 + 1]? = cur[i * 2 + 1]? := by
  refine ⟨by simpa using hs, ?_, ?_, fun i hi => ⟨?_, ?_⟩⟩
  · rw [Array.getElem?_setIfInBounds_ne (by omega), Array.getElem?_setIfInBounds_self_of_lt (by omega)]
  · rw [Array.getElem?_setIfInBounds_self_of_lt (by simp; omega)]
  · rw [Array.getElem?_setIfInBounds_ne (by omega), Array.getElem?_setIfInBounds_ne (by omega)]
  · rw [Array.getElem?_setIfInBounds_ne (by omega), Array.getElem?_setIfInBounds_ne (by omega)]

/-- The first j stretches are made. -/
def SomeMade (w : World) (f : PF) (n j : Nat) (wr : World) : Prop :=
  ∃ cur L, wr.heap[w.heap.size]? = some (.cells cur 183 (0, 0)) ∧ cur.size = n * 2 ∧ (∀ i, i < j → cur[i * 2]? = some (.int .i64 (mkOf f i).seen) ∧ ∃ vd, cur[i * 2 + 1]? = some vd ∧ StrV L (mkOf f i).ds vd) ∧ Hb L wr ∧ (∀ t, t ∈ L → w.heap.size + 1 ≤ t.1) ∧ Below w.heap.size w wr

set_option maxRecDepth 100000 in
set_option maxHeartbeats 1000000 in
theorem compiledM (w : World) (cb co cap n : Nat) (f : PF) (m : Int) (hfn : f.cn = n) (hcode : ∀ i, i < n → w.cell? ⟨cb, co + i * 2, none⟩ = some (.int .i64 (f.op i)) ∧ w.cell? ⟨cb, co + i * 2 + 1, none⟩ = some (.int .i64 (f.ar i))) (hcb : cb < w.heap.size) (hn : n ≤ 64) (hc : n ≤ cap) (hleg : ∀ i, i < f.cn → legalP (f.op i) (f.ar i) f.locals f.cn m = true) :
    Calls Tryz.prog 125 #[.slice (some ⟨cb, co, none⟩) n cap] w (CompE w f) := by
  have hmk := fun wx => run_make_rows (P := Tryz.prog) 136 183 _ _ 2 16 Tryz.underlying136 Tryz.infoStr rfl .i64 .i64 n (by omega) (by omega) wx
  have hbl0 : Below w.heap.size w (w.alloc (.cells (madeCells #[.int .i64 0, .nilFunc] (n * 2)) 183)) := (Below.refl _ _).alloc (Nat.le_refl _) _
  have HST := hid (show SomeMade w f n 0 (w.alloc (.cells (madeCells #[.int .i64 0, .nilFunc] (n * 2)) 183)) from ⟨_, [], Go.Deep.blk_alloc_new _ _, by simp [size_madeCells], fun i hi => absurd hi (Nat.not_lt_zero _), fun t ht => absurd ht List.not_mem_nil, fun t ht => absurd ht List.not_mem_nil, hbl0⟩)
  have HCD := hid (And.intro hcode (And.intro hleg hfn))
  clear hbl0 hcode hleg hfn
  go_enter Tryz.func125, Tryz.ntmps125
  go_wp2
  clear hmk
  go_loopw [10] (fun v wr => ∃ j : Nat, j ≤ n ∧ v = .int .i64 j ∧ SomeMade w f n j wr) (fun v _ => n - (intOf v).toNat)
  case atStart =>
    exact ⟨0, by omega, rfl, HST.out⟩
  case round =>
    obtain ⟨j, hj, rfl, hI⟩ := hrel
    by_cases hlt : j < n
    · have hdec : decide ((j : Int) < (n : Int)) = true := by simp; omega
      have hbw := hI.choose_spec.choose_spec.2.2.2.2.2
      have hcbr : cb < wr.heap.size := by have := hbw.size; omega
      have HT := hid (stretchOfM wr cb (co + j * 2) (n - j) (cap - j) j f m (fun i hi => by
        obtain ⟨q0, q1⟩ := HCD.out.1 (j + i) (by omega)
        refine ⟨?_, ?_⟩
        · rw [show co + j * 2 + i * 2 = co + (j + i) * 2 by omega]
          exact (hbw.cell (p := ⟨cb, co + (j + i) * 2, none⟩) hcb).trans q0
        · rw [show co + j * 2 + i * 2 + 1 = co + (j + i) * 2 + 1 by omega]
          exact (hbw.cell (p := ⟨cb, co + (j + i) * 2 + 1, none⟩) hcb).trans q1) hcbr (by rw [HCD.out.2.2]; omega) (by omega) HCD.out.2.1)
      have HI := hid hI
      have i0 : (0 : Int) ≤ (j : Int) := by omega
      have i1 : (j : Int) < (n : Int) := by omega
      have i2 : (j : Int) ≤ (n : Int) := by omega
      have i3 : (n : Int) ≤ (cap : Int) := by omega
      clear hI hbw HST
      go_wp2_with fail
      refine HT.out.mono ?_
      rintro e w2 ⟨vd, L2, rfl, hsv, hb2, hB2, hbl2⟩
      obtain ⟨cur, L, h1, h2, h3, h4, h5, h6⟩ := HI.out
      have hz := heap_lt h1
      have h1' := (hbl2.block w.heap.size hz).trans h1
      obtain ⟨u0, hu0⟩ : ∃ u, cur[j * 2]? = some u := ⟨_, Array.getElem?_eq_getElem (by omega)⟩
      obtain ⟨u1, hu1⟩ : ∃ u, cur[j * 2 + 1]? = some u := ⟨_, Array.getElem?_eq_getElem (by omega)⟩
      have x0 : w2.cell? ⟨w.heap.size, j * 2, none⟩ = some u0 := (cell_heap h1').trans hu0
      have x1 : w2.cell? ⟨w.heap.size, j * 2 + 1, none⟩ = some u1 := (cell_heap h1').trans hu1
      have z0 : w2.frozen? ⟨w.heap.size, j * 2, none⟩ = false := frozen_heap h1'
      have z1 : w2.frozen? ⟨w.heap.size, j * 2 + 1, none⟩ = false := frozen_heap h1'
      have HN := hid (show SomeMade w f n (j + 1) ((w2.setCell ⟨w.heap.size, j * 2, none⟩ (.int .i64 (mkOf f j).seen)).setCell ⟨w.heap.size, j * 2 + 1, none⟩ vd) from by
        obtain ⟨s1, s2, s3, s4⟩ := set_two h2 hlt (.int .i64 (mkOf f j).seen) vd
        refine ⟨_, L ++ L2, heap_set (heap_set h1' _) _, s1, fun i hi => ?_, fun t ht => ?_, fun t ht => ?_, ((h6.trans (hbl2.mono h6.size)).setCell (Nat.le_refl _) _).setCell (Nat.le_refl _) _⟩
        · by_cases e : i = j
          · subst e
            exact ⟨s2, vd, s3, hsv.mono (fun t ht => List.mem_append.2 (Or.inr ht))⟩
          · obtain ⟨a1, vd', a2, a3⟩ := h3 i (by omega)
            obtain ⟨b1, b2⟩ := s4 i e
            exact ⟨b1.trans a1, vd', b2.trans a2, a3.mono (fun t ht => List.mem_append.2 (Or.inl ht))⟩
        · have hne : t.1 ≠ w.heap.size := by
            rcases List.mem_append.1 ht with ht | ht
            · have := h5 t ht; omega
            · have := hB2 t ht; omega
          refine ((Below.heap_setCell _ _ _ _ hne).trans (Below.heap_setCell _ _ _ _ hne)).trans ?_
          rcases List.mem_append.1 ht with ht | ht
          · exact (hbl2.block t.1 (heap_lt (h4 t ht))).trans (h4 t ht)
          · exact hb2 t ht
        · rcases List.mem_append.1 ht with ht | ht
          · exact h5 t ht
          · have := hB2 t ht; omega)
      obtain ⟨bv, rfl, _⟩ := hsv
      generalize (mkOf f j).seen = sn at *
      clear h1 h1' h2 h3 h4 h5 h6 hb2 hB2 hbl2 hu0 hu1 HT HI
      go_wp2
      exact ⟨⟨j + 1, by omega, by go_num, HN.out⟩, by simp [intOf]; omega⟩
    · have hdec : decide ((j : Int) < (n : Int)) = false := by simp; omega
      obtain rfl : j = n := by omega
      have HQ := hid (show CompE w f (.returned (.slice (some ⟨w.heap.size, 0, none⟩) j j)) wr from by
        obtain ⟨cur, L, h1, h2, h3, h4, h5, h6⟩ := hI
        refine ⟨_, (w.heap.size, cur, 183) :: L, rfl, ⟨w.heap.size, j, cur, by rw [HCD.out.2.2], List.mem_cons_self, fun p hp => ?_⟩, fun t ht => ?_, fun t ht => ?_, h6⟩
        · rw [HCD.out.2.2] at hp
          obtain ⟨a1, vd, a2, a3⟩ := h3 p hp
          exact ⟨a1, vd, a2, a3.mono (fun t ht => List.mem_cons_of_mem _ ht)⟩
        · rcases List.mem_cons.1 ht with rfl | ht
          · exact h1
          · exact h4 t ht
        · rcases List.mem_cons.1 ht with rfl | ht
          · exact Nat.le_refl _
          · have := h5 t ht; omega)
      clear hI
      go_wp2
      go_ret
      exact HQ.out
end Go.Proofs.YtkafkipjedpohaaGreatDoor
