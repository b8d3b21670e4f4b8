/-
  The project's machine: step.
-/
import Derived.Test.YtnhjjjijeeobbaaDoorM9
namespace Go.Proofs.YtnhjjjijeeobbaaDoor
open Go.RowKit

/-- One step more is counted. -/
theorem LayM.tick {w : World} {B mb : Nat} {A : AdM} {s : Mc} {en : Int} (h : LayM w B mb A s en) (n : Nat) :
    LayM (w.setCell ⟨mb, 5, none⟩ (.int .i64 n)) B mb A { s with steps := n } en ∧ Ch B (fun d => d = 0) A.tag A.tag w (w.setCell ⟨mb, 5, none⟩ (.int .i64 n)) := by
  have hc : Ch B (fun d => d = 0) A.tag A.tag w (w.setCell ⟨mb, 5, none⟩ (.int .i64 n)) := Ch.set w _ _ _ h.own.1 h.own.2
  refine ⟨⟨heap_set h.run _, h.own, h.fr.keep hc (by omega), fun i hi => ?_, h.ar.keep hc (by omega), h.out.keep hc (by omega), fun i hi => (h.loc i hi).keep hc (by omega), fun i hi => (h.stk i hi).keep hc (by omega), fun j hj => (h.arr j hj).keep hc (by omega)⟩, hc⟩
  obtain ⟨g1, g2, g3⟩ := h.fb i hi
  obtain ⟨g4, g5⟩ := blk_keep g1 hc (by rw [g3]; omega)
  exact ⟨g4, g2, g5.trans g3⟩

/-- What a step without a trap leaves. -/
def Stepped (w : World) (B mb : Nat) (A : AdM) (s' : Mc) (en : Int) (e : Ending) (w' : World) : Prop :=
  e = .returned (.tuple #[]) ∧ ∃ A' : AdM, LayM w' B mb A' s' en ∧ A'.pv = A.pv ∧ Ch B (fun d => d ≠ 5) A.tag A'.tag w w'

set_option maxRecDepth 100000 in
set_option maxHeartbeats 1000000 in
theorem step_str (w : World) (B mb m : Nat) (A : AdM) (s : Mc) (en : Int) (F : Nat → PF) (f : Fr) (rest : List Fr) (op ar : Int) (hL : LayM w B mb A s en) (hPg : Pg w B A.pv m F) (hB : B ≤ w.heap.size) (hs : s.fr = f :: rest) (hfn : f.fn < m) (hpc : f.pc < (F f.fn).cn) (hcn : (F f.fn).cn ≤ 64) (_hm : m ≤ 8) (hr : rest.length ≤ 60) (hst : s.steps ≤ 1000000) (hop : (F f.fn).op f.pc = op) (har : (F f.fn).ar f.pc = ar)
    (f' : Fr) (hstr : ∀ (X : World) (A1 : AdM), LayM X B mb A1 { s with steps := s.steps + 1 } en → B ≤ X.heap.size → Calls Tryd.prog 95 #[.pointer (some ⟨mb, 0, none⟩), .pointer (some ⟨A1.FB rest.length, 0, none⟩), .agg #[.int .i64 op, .int .i64 ar]] X (WentM X B mb A1 { s with steps := s.steps + 1 } en rest f')) (hno : op ≠ 10 ∧ op ≠ 11 ∧ op ≠ 13 ∧ op ≠ 14) (hf' : f'.pc = f.pc) :
    Calls Tryd.prog 80 #[.pointer (some ⟨mb, 0, none⟩)] w (Stepped w B mb A { s with steps := s.steps + 1, fr := { f' with pc := f.pc + 1 } :: rest } en) := by
  have o10 : (op == 10) = false := by simpa using hno.1
  have o11 : (op == 11) = false := by simpa using hno.2.1
  have o13 : (op == 13) = false := by simpa using hno.2.2.1
  have o14 : (op == 14) = false := by simpa using hno.2.2.2
  have HST := hid hstr
  clear hstr hno
  obtain ⟨l1, c1⟩ := hL.tick (s.steps + 1)
  have ec : ((s.steps + 1 : Nat) : Int) = (s.steps : Int) + 1 := by omega
  rw [ec] at l1 c1
  have hB1 : Below B w (w.setCell ⟨mb, 5, none⟩ (.int .i64 ((s.steps : Int) + 1))) := c1.below hB
  have x5 : w.cell? ⟨mb, 5, none⟩ = some (.int .i64 s.steps) := by rw [cell_heap hL.run]; rfl
  have z5 : w.frozen? ⟨mb, 5, none⟩ = false := frozen_heap hL.run
  have hcN := c1.mono (q := fun d => d ≠ 5) (fun d hd => by omega)
  have HW := hid (And.intro l1 (And.intro hB1 (And.intro (hPg.below hB1) hcN)))
  have HS := hid (And.intro hs (And.intro hop har))
  clear hL hPg l1 c1 hB1 ec hs hop har hcN
  have hsp : (0 : Int) ≤ (s.steps : Int) ∧ (s.steps : Int) ≤ 1000000 := by omega
  generalize (s.steps : Int) = sp at *
  have e5 : wrap64 (sp + 1) = sp + 1 := by unfold wrap64; omega
  go_enter Tryd.func80, Tryd.ntmps80
  go_wp2_with fail
  obtain ⟨l1, hB1, hPg1, hcN⟩ := HW.out
  have hpvA := hPg1
  clear HW x5 z5
  generalize w.setCell ⟨mb, 5, none⟩ (.int .i64 (sp + 1)) = W at *
  obtain ⟨hs, hop, har⟩ := HS.out
  have hfrl : ({ s with steps := s.steps + 1 } : Mc).fr.length = rest.length + 1 := by show s.fr.length = _; rw [hs]; rfl
  have hrow := l1.fr
  rw [hfrl] at hrow
  obtain ⟨gb, gcap, hgv, _, _, _, _⟩ := hrow.form (by omega)
  rw [hgv] at hrow
  have x1 : W.cell? ⟨mb, 1, none⟩ = some (.slice (some ⟨gb, 0, none⟩) (rest.length + 1) gcap) := by rw [cell_heap l1.run, ← hgv]; rfl
  have q0 : W.cell? ⟨gb, rest.length, none⟩ = some (.pointer (some ⟨A.FB rest.length, 0, none⟩)) := hrow.cell (i := rest.length) (by omega)
  have HL := hid l1
  clear hrow hgv l1 hpvA
  refine (topF W mb 1 rest.length gb gcap _ x1 q0 (by omega)).mono ?_
  rintro e w6 ⟨rfl, k6, hw6⟩
  rw [hw6]
  clear hw6 w6 x1 q0
  have hV : Below W.heap.size W (W.drewN k6) := below_drewN (Below.refl _ _) _
  have l2 := HL.out.below hV
  have hWB : B ≤ W.heap.size := by have := hB1.size; omega
  have hBV : Below B w (W.drewN k6) := hB1.trans (hV.mono hWB)
  have hPg2 := hPg1.below (hV.mono hWB)
  have hcV := hcN.trans (Ch.of_below (B := B) (p := fun d => d ≠ 5) (tag := A.tag) hV)
  have hBVs : B ≤ (W.drewN k6).heap.size := by have := hV.size; omega
  clear HL hPg1 hB1 hV hWB hcN
  generalize W.drewN k6 = V at *
  obtain ⟨pb, po, pc, CA, CC, hpv, hPA, hpb, _⟩ := hPg2.at_
  have r0 : V.cell? ⟨mb, 0, none⟩ = some (.slice (some ⟨pb, po, none⟩) m pc) := by rw [cell_heap l2.run, ← hpv]; rfl
  obtain ⟨g1, g2, g3⟩ := l2.fb rest.length (by rw [hfrl]; omega)
  have e0 : frAt ({ s with steps := s.steps + 1 } : Mc).fr rest.length = f := by show frAt s.fr _ = f; rw [hs]; exact frAt_top _ _
  rw [e0] at g1
  have y0 : V.cell? ⟨A.FB rest.length, 0, none⟩ = some (.int .i64 f.fn) := (cell_heap g1).trans rfl
  have y1 : V.cell? ⟨A.FB rest.length, 1, none⟩ = some (.int .i64 f.pc) := (cell_heap g1).trans rfl
  have s2 := (hPA.fn f.fn hfn).slice
  obtain ⟨cb, co, hca, hcb, hcode⟩ := (hPA.fn f.fn hfn).code (by omega)
  rw [hca] at s2
  obtain ⟨k0, k1⟩ := hcode f.pc hpc
  rw [hop] at k0
  rw [har] at k1
  have HX := hid (And.intro l2 (And.intro hBV (And.intro hPg2 (And.intro hBVs (And.intro hs hcV)))))
  have hzm := heap_lt l2.run
  have hzf := heap_lt g1
  have hzp : pb < V.heap.size := by omega
  clear l2 hBV hcV hPg2 hPA hpv g1 g2 g3 e0 hcode hca hs hop har HS hfrl hB hBVs
  generalize hfb : A.FB rest.length = fb at *
  have HF := hid hfb
  clear hfb
  generalize hfnl : f.fn = fnl at *
  generalize hpcl : f.pc = pcl at *
  have HFP := hid (And.intro hfnl hpcl)
  clear hfnl hpcl
  generalize hcnl : (F fnl).cn = cnl at *
  have HCN := hid hcnl
  clear hcnl
  have i0 : (0 : Int) ≤ (fnl : Int) := by omega
  have i1 : (fnl : Int) < (m : Int) := by omega
  have i2 : (0 : Int) ≤ (pcl : Int) := by omega
  have i3 : (pcl : Int) < (cnl : Int) := by omega
  go_wp2_with fail
  go_region_held3 (fun w' => w'.cell? ⟨mb, 0, none⟩ = some (.slice (some ⟨pb, po, none⟩) m pc) ∧ w'.cell? ⟨fb, 0, none⟩ = some (.int .i64 fnl) ∧ w'.cell? ⟨fb, 1, none⟩ = some (.int .i64 pcl) ∧ w'.cell? ⟨pb, po + fnl * 3 + 2, none⟩ = some (.slice (some ⟨cb, co, none⟩) cnl (CC fnl)) ∧ w'.cell? ⟨cb, co + pcl * 2, none⟩ = some (.int .i64 op) ∧ w'.cell? ⟨cb, co + pcl * 2 + 1, none⟩ = some (.int .i64 ar))
    (go_keep) (fail)
  rename_i hheld
  clear hheld
  obtain ⟨l2, hBV, hPg2, hBVs, hs, hcV⟩ := HX.out
  have hX : Below V.heap.size V (V.alloc (.cells #[.int .i64 op, .int .i64 ar] 35)).drew := ((Below.refl _ _).alloc (Nat.le_refl _) _).drew
  have hch : Ch B (fun _ => False) A.tag (upd A.tag V.heap.size 5) V (V.alloc (.cells #[.int .i64 op, .int .i64 ar] 35)).drew := Ch.of_tags hX (fun b hb => upd_other _ _ _ _ (by omega))
  have l3 := l2.keep hch
  have hcX : Ch B (fun d => d ≠ 5) A.tag ({ A with tag := upd A.tag V.heap.size 5 } : AdM).tag w (V.alloc (.cells #[.int .i64 op, .int .i64 ar] 35)).drew := hcV.trans (hch.mono (fun _ h => h.elim))
  have b0 : (V.alloc (.cells #[.int .i64 op, .int .i64 ar] 35)).drew.cell? ⟨V.heap.size, 0, none⟩ = some (.int .i64 op) := cell_new V _ _ _ _ rfl
  have b1 : (V.alloc (.cells #[.int .i64 op, .int .i64 ar] 35)).drew.cell? ⟨V.heap.size, 1, none⟩ = some (.int .i64 ar) := cell_new V _ _ _ _ rfl
  have hBX : Below B w (V.alloc (.cells #[.int .i64 op, .int .i64 ar] 35)).drew := hBV.trans (hX.mono hBVs)
  have hBXs : B ≤ (V.alloc (.cells #[.int .i64 op, .int .i64 ar] 35)).drew.heap.size := by have := hX.size; omega
  have hPg3 := hPg2.below (hX.mono hBVs)
  have hf3 : ({ A with tag := upd A.tag V.heap.size 5 } : AdM).FB rest.length = fb := HF.out
  clear hX hch l2 hPg2 hBV hcV HX r0 y0 y1 s2 k0 k1 hBVs
  generalize (V.alloc (.cells #[.int .i64 op, .int .i64 ar] 35)).drew = X at *
  generalize V.heap.size = bx at *
  generalize hA1 : ({ A with tag := upd A.tag bx 5 } : AdM) = A1 at *
  have hpv1 : A1.pv = A.pv := by rw [← hA1]
  clear hA1
  have hstr := HST.out X A1 l3 hBXs
  rw [hf3] at hstr
  have HSX := hid hstr
  have HBX := hid (And.intro hcX (And.intro hBXs (And.intro hpv1 hf3)))
  clear hcX hstr l3 hPg3 hBX hBXs hpv1 hf3 HST hs
  go_wp2_with fail
  refine HSX.out.mono ?_
  rintro e w7 ⟨rfl, A7, l7, p7, f7, c7⟩
  obtain ⟨hcX, hBXs, hpv1, hf3⟩ := HBX.out
  have e7 : A7.FB rest.length = fb := by rw [f7]; exact hf3
  obtain ⟨g1, _, _⟩ := l7.fb rest.length (by show rest.length < rest.length + 1; omega)
  rw [e7] at g1
  have y1 : w7.cell? ⟨fb, 1, none⟩ = some (.int .i64 pcl) := by rw [cell_heap g1]; show some (Value.int .i64 ((frAt (f' :: rest) rest.length).pc : Int)) = _; rw [frAt_top, hf']
  have z1 : w7.frozen? ⟨fb, 1, none⟩ = false := frozen_heap g1
  obtain ⟨l8, c8⟩ := l7.goto rfl (pcl + 1)
  rw [e7] at l8 c8
  have ec : ((pcl + 1 : Nat) : Int) = (pcl : Int) + 1 := by omega
  have hB8 := (hcX.trans (c7.mono (q := fun d => d ≠ 5) (fun d hd => by unfold Tk at hd; omega))).trans (c8.mono (q := fun d => d ≠ 5) (fun d hd => by unfold Tk at hd; omega))
  rw [ec] at l8 hB8
  have HQ := hid (And.intro l8 (And.intro (p7.trans hpv1) hB8))
  clear l7 l8 c7 c8 p7 f7 g1 hB8 ec e7 HSX HBX hcX hBXs hpv1 hf3 b0 b1 hf'
  have hp2 : (0 : Int) ≤ (pcl : Int) ∧ (pcl : Int) ≤ 64 := by omega
  generalize hpi : (pcl : Int) = pci at *
  have epc : wrap64 (pci + 1) = pci + 1 := by unfold wrap64; omega
  go_wp2
  go_end0
  exact ⟨rfl, A7, HQ.out⟩

set_option maxRecDepth 100000 in
set_option maxHeartbeats 1000000 in
theorem step_call (w : World) (B mb m : Nat) (A : AdM) (s : Mc) (en : Int) (F : Nat → PF) (f : Fr) (rest : List Fr) (op ar : Int) (hL : LayM w B mb A s en) (hPg : Pg w B A.pv m F) (hB : B ≤ w.heap.size) (hs : s.fr = f :: rest) (hfn : f.fn < m) (hpc : f.pc < (F f.fn).cn) (hcn : (F f.fn).cn ≤ 64) (hm : m ≤ 8) (hr : rest.length ≤ 60) (hst : s.steps ≤ 1000000) (hop : (F f.fn).op f.pc = op) (har : (F f.fn).ar f.pc = ar)
    (xs r : List V) (gn cnt : Nat) (h13 : op = 13) (hcnt' : ar = cnt) (hstk : f.stk = xs ++ ⟨3, gn⟩ :: r) (hxs : xs.length = cnt) (hcnt : cnt ≤ 8) (hrl : r.length ≤ 20) (hgn : gn < m) (hga : (F gn).args = cnt) (hl0 : 0 ≤ (F gn).locals) (hl8 : (F gn).locals ≤ 8) (hal : (cnt : Int) ≤ (F gn).locals) (hfr : rest.length + 1 < 24) :
    Calls Tryd.prog 80 #[.pointer (some ⟨mb, 0, none⟩)] w (Stepped w B mb A { s with steps := s.steps + 1, fr := ⟨gn, 0, xs.reverse ++ List.replicate ((F gn).locals.toNat - cnt) vnil, []⟩ :: { f with pc := f.pc + 1, stk := r } :: rest } en) := by
  subst h13
  subst hcnt'
  have HC := hid (And.intro hstk (And.intro hxs (And.intro hcnt (And.intro hrl (And.intro hgn (And.intro hga (And.intro hl0 (And.intro hl8 (And.intro hal hfr)))))))))
  clear hstk hxs hcnt hrl hgn hga hl0 hl8 hal
  obtain ⟨l1, c1⟩ := hL.tick (s.steps + 1)
  have ec : ((s.steps + 1 : Nat) : Int) = (s.steps : Int) + 1 := by omega
  rw [ec] at l1 c1
  have hB1 : Below B w (w.setCell ⟨mb, 5, none⟩ (.int .i64 ((s.steps : Int) + 1))) := c1.below hB
  have x5 : w.cell? ⟨mb, 5, none⟩ = some (.int .i64 s.steps) := by rw [cell_heap hL.run]; rfl
  have z5 : w.frozen? ⟨mb, 5, none⟩ = false := frozen_heap hL.run
  have hcN := c1.mono (q := fun d => d ≠ 5) (fun d hd => by omega)
  have HW := hid (And.intro l1 (And.intro hB1 (And.intro (hPg.below hB1) hcN)))
  have HS := hid (And.intro hs (And.intro hop har))
  clear hL hPg l1 c1 hB1 ec hs hop har hcN
  have hsp : (0 : Int) ≤ (s.steps : Int) ∧ (s.steps : Int) ≤ 1000000 := by omega
  generalize (s.steps : Int) = sp at *
  have e5 : wrap64 (sp + 1) = sp + 1 := by unfold wrap64; omega
  go_enter Tryd.func80, Tryd.ntmps80
  go_wp2_with fail
  obtain ⟨l1, hB1, hPg1, hcN⟩ := HW.out
  have hpvA := hPg1
  clear HW x5 z5
  generalize w.setCell ⟨mb, 5, none⟩ (.int .i64 (sp + 1)) = W at *
  obtain ⟨hs, hop, har⟩ := HS.out
  have hfrl : ({ s with steps := s.steps + 1 } : Mc).fr.length = rest.length + 1 := by show s.fr.length = _; rw [hs]; rfl
  have hrow := l1.fr
  rw [hfrl] at hrow
  obtain ⟨gb, gcap, hgv, _, _, _, _⟩ := hrow.form (by omega)
  rw [hgv] at hrow
  have x1 : W.cell? ⟨mb, 1, none⟩ = some (.slice (some ⟨gb, 0, none⟩) (rest.length + 1) gcap) := by rw [cell_heap l1.run, ← hgv]; rfl
  have q0 : W.cell? ⟨gb, rest.length, none⟩ = some (.pointer (some ⟨A.FB rest.length, 0, none⟩)) := hrow.cell (i := rest.length) (by omega)
  have HL := hid l1
  clear hrow hgv l1 hpvA
  refine (topF W mb 1 rest.length gb gcap _ x1 q0 (by omega)).mono ?_
  rintro e w6 ⟨rfl, k6, hw6⟩
  rw [hw6]
  clear hw6 w6 x1 q0
  have hV : Below W.heap.size W (W.drewN k6) := below_drewN (Below.refl _ _) _
  have l2 := HL.out.below hV
  have hWB : B ≤ W.heap.size := by have := hB1.size; omega
  have hBV : Below B w (W.drewN k6) := hB1.trans (hV.mono hWB)
  have hPg2 := hPg1.below (hV.mono hWB)
  have hcV := hcN.trans (Ch.of_below (B := B) (p := fun d => d ≠ 5) (tag := A.tag) hV)
  have hBVs : B ≤ (W.drewN k6).heap.size := by have := hV.size; omega
  clear HL hPg1 hB1 hV hWB hcN
  generalize W.drewN k6 = V at *
  obtain ⟨pb, po, pc, CA, CC, hpv, hPA, hpb, _⟩ := hPg2.at_
  have r0 : V.cell? ⟨mb, 0, none⟩ = some (.slice (some ⟨pb, po, none⟩) m pc) := by rw [cell_heap l2.run, ← hpv]; rfl
  obtain ⟨g1, g2, g3⟩ := l2.fb rest.length (by rw [hfrl]; omega)
  have e0 : frAt ({ s with steps := s.steps + 1 } : Mc).fr rest.length = f := by show frAt s.fr _ = f; rw [hs]; exact frAt_top _ _
  rw [e0] at g1
  have y0 : V.cell? ⟨A.FB rest.length, 0, none⟩ = some (.int .i64 f.fn) := (cell_heap g1).trans rfl
  have y1 : V.cell? ⟨A.FB rest.length, 1, none⟩ = some (.int .i64 f.pc) := (cell_heap g1).trans rfl
  have s2 := (hPA.fn f.fn hfn).slice
  obtain ⟨cb, co, hca, hcb, hcode⟩ := (hPA.fn f.fn hfn).code (by omega)
  rw [hca] at s2
  obtain ⟨k0, k1⟩ := hcode f.pc hpc
  rw [hop] at k0
  rw [har] at k1
  have HX := hid (And.intro l2 (And.intro hBV (And.intro hPg2 (And.intro hBVs (And.intro hs hcV)))))
  have hzm := heap_lt l2.run
  have hzf := heap_lt g1
  have hzp : pb < V.heap.size := by omega
  clear l2 hBV hcV hPg2 hPA hpv g1 g2 g3 e0 hcode hca hs hop har HS hfrl hB hBVs
  generalize hfb : A.FB rest.length = fb at *
  have HF := hid hfb
  clear hfb
  generalize hfnl : f.fn = fnl at *
  generalize hpcl : f.pc = pcl at *
  have HFP := hid (And.intro hfnl hpcl)
  clear hfnl hpcl
  generalize hcnl : (F fnl).cn = cnl at *
  have HCN := hid hcnl
  clear hcnl
  have i0 : (0 : Int) ≤ (fnl : Int) := by omega
  have i1 : (fnl : Int) < (m : Int) := by omega
  have i2 : (0 : Int) ≤ (pcl : Int) := by omega
  have i3 : (pcl : Int) < (cnl : Int) := by omega
  go_wp2_with fail
  go_region_held3 (fun w' => w'.cell? ⟨mb, 0, none⟩ = some (.slice (some ⟨pb, po, none⟩) m pc) ∧ w'.cell? ⟨fb, 0, none⟩ = some (.int .i64 fnl) ∧ w'.cell? ⟨fb, 1, none⟩ = some (.int .i64 pcl) ∧ w'.cell? ⟨pb, po + fnl * 3 + 2, none⟩ = some (.slice (some ⟨cb, co, none⟩) cnl (CC fnl)) ∧ w'.cell? ⟨cb, co + pcl * 2, none⟩ = some (.int .i64 13) ∧ w'.cell? ⟨cb, co + pcl * 2 + 1, none⟩ = some (.int .i64 (cnt : Int)))
    (go_keep) (fail)
  rename_i hheld
  clear hheld
  obtain ⟨l2, hBV, hPg2, hBVs, hs, hcV⟩ := HX.out
  have hX : Below V.heap.size V (V.alloc (.cells #[.int .i64 13, .int .i64 (cnt : Int)] 35)).drew := ((Below.refl _ _).alloc (Nat.le_refl _) _).drew
  have hch : Ch B (fun _ => False) A.tag (upd A.tag V.heap.size 5) V (V.alloc (.cells #[.int .i64 13, .int .i64 (cnt : Int)] 35)).drew := Ch.of_tags hX (fun b hb => upd_other _ _ _ _ (by omega))
  have l3 := l2.keep hch
  have hcX : Ch B (fun d => d ≠ 5) A.tag ({ A with tag := upd A.tag V.heap.size 5 } : AdM).tag w (V.alloc (.cells #[.int .i64 13, .int .i64 (cnt : Int)] 35)).drew := hcV.trans (hch.mono (fun _ h => h.elim))
  have b0 : (V.alloc (.cells #[.int .i64 13, .int .i64 (cnt : Int)] 35)).drew.cell? ⟨V.heap.size, 0, none⟩ = some (.int .i64 13) := cell_new V _ _ _ _ rfl
  have b1 : (V.alloc (.cells #[.int .i64 13, .int .i64 (cnt : Int)] 35)).drew.cell? ⟨V.heap.size, 1, none⟩ = some (.int .i64 (cnt : Int)) := cell_new V _ _ _ _ rfl
  have hBX : Below B w (V.alloc (.cells #[.int .i64 13, .int .i64 (cnt : Int)] 35)).drew := hBV.trans (hX.mono hBVs)
  have hBXs : B ≤ (V.alloc (.cells #[.int .i64 13, .int .i64 (cnt : Int)] 35)).drew.heap.size := by have := hX.size; omega
  have hPg3 := hPg2.below (hX.mono hBVs)
  have hf3 : ({ A with tag := upd A.tag V.heap.size 5 } : AdM).FB rest.length = fb := HF.out
  clear hX hch l2 hPg2 hBV hcV HX r0 y0 y1 s2 k0 k1 hBVs
  generalize (V.alloc (.cells #[.int .i64 13, .int .i64 (cnt : Int)] 35)).drew = X at *
  generalize V.heap.size = bx at *
  generalize hA1 : ({ A with tag := upd A.tag bx 5 } : AdM) = A1 at *
  have hpv1 : A1.pv = A.pv := by rw [← hA1]
  clear hA1
  have hcall := callM X B mb m A1 { s with steps := s.steps + 1 } en F f rest xs r gn cnt l3 (by rw [hpv1]; exact hPg3) hBXs hs HC.out.1 HC.out.2.1 HC.out.2.2.1 HC.out.2.2.2.1 HC.out.2.2.2.2.1 HC.out.2.2.2.2.2.1 HC.out.2.2.2.2.2.2.1 HC.out.2.2.2.2.2.2.2.1 HC.out.2.2.2.2.2.2.2.2.1 HC.out.2.2.2.2.2.2.2.2.2 hm (by have := HFP.out.2; omega)
  rw [hf3] at hcall
  have HSX := hid hcall
  have HBX := hid (And.intro hcX hpv1)
  clear hcX hcall l3 hPg3 hBX hBXs hpv1 hf3 hs
  go_wp2_with fail
  refine HSX.out.mono ?_
  rintro e w7 ⟨rfl, A7, l7, p7, b7⟩
  have HQ := hid (And.intro l7 (And.intro (p7.trans HBX.out.2) (HBX.out.1.trans b7)))
  clear l7 p7 b7 HSX HBX b0 b1
  go_wp2
  go_end0
  obtain ⟨hfn', hpc'⟩ := HFP.out
  subst hpc'
  subst hfn'
  exact ⟨rfl, A7, HQ.out⟩

set_option maxRecDepth 100000 in
set_option maxHeartbeats 1000000 in
theorem step_end (w : World) (B mb m : Nat) (A : AdM) (s : Mc) (en : Int) (F : Nat → PF) (f : Fr) (rest : List Fr) (op ar : Int) (hL : LayM w B mb A s en) (hPg : Pg w B A.pv m F) (hB : B ≤ w.heap.size) (hs : s.fr = f :: rest) (hfn : f.fn < m) (hpc : f.pc < (F f.fn).cn) (hcn : (F f.fn).cn ≤ 64) (_hm : m ≤ 8) (hr : rest.length ≤ 60) (hst : s.steps ≤ 1000000) (hop : (F f.fn).op f.pc = op) (har : (F f.fn).ar f.pc = ar)
    (v : V) (st : List V) (h14 : op = 14) (hrest : rest = []) (hstk : f.stk = v :: st) (hst2 : st.length ≤ 60) :
    Calls Tryd.prog 80 #[.pointer (some ⟨mb, 0, none⟩)] w (Stepped w B mb A { s with steps := s.steps + 1, fr := [], gives := v } en) := by
  subst h14
  have HRs := hid hrest
  have HC := hid (And.intro hstk hst2)
  clear hstk hst2 hrest
  obtain ⟨l1, c1⟩ := hL.tick (s.steps + 1)
  have ec : ((s.steps + 1 : Nat) : Int) = (s.steps : Int) + 1 := by omega
  rw [ec] at l1 c1
  have hB1 : Below B w (w.setCell ⟨mb, 5, none⟩ (.int .i64 ((s.steps : Int) + 1))) := c1.below hB
  have x5 : w.cell? ⟨mb, 5, none⟩ = some (.int .i64 s.steps) := by rw [cell_heap hL.run]; rfl
  have z5 : w.frozen? ⟨mb, 5, none⟩ = false := frozen_heap hL.run
  have hcN := c1.mono (q := fun d => d ≠ 5) (fun d hd => by omega)
  have HW := hid (And.intro l1 (And.intro hB1 (And.intro (hPg.below hB1) hcN)))
  have HS := hid (And.intro hs (And.intro hop har))
  clear hL hPg l1 c1 hB1 ec hs hop har hcN
  have hsp : (0 : Int) ≤ (s.steps : Int) ∧ (s.steps : Int) ≤ 1000000 := by omega
  generalize (s.steps : Int) = sp at *
  have e5 : wrap64 (sp + 1) = sp + 1 := by unfold wrap64; omega
  go_enter Tryd.func80, Tryd.ntmps80
  go_wp2_with fail
  obtain ⟨l1, hB1, hPg1, hcN⟩ := HW.out
  have hpvA := hPg1
  clear HW x5 z5
  generalize w.setCell ⟨mb, 5, none⟩ (.int .i64 (sp + 1)) = W at *
  obtain ⟨hs, hop, har⟩ := HS.out
  have hfrl : ({ s with steps := s.steps + 1 } : Mc).fr.length = rest.length + 1 := by show s.fr.length = _; rw [hs]; rfl
  have hrow := l1.fr
  rw [hfrl] at hrow
  obtain ⟨gb, gcap, hgv, _, _, _, _⟩ := hrow.form (by omega)
  rw [hgv] at hrow
  have x1 : W.cell? ⟨mb, 1, none⟩ = some (.slice (some ⟨gb, 0, none⟩) (rest.length + 1) gcap) := by rw [cell_heap l1.run, ← hgv]; rfl
  have q0 : W.cell? ⟨gb, rest.length, none⟩ = some (.pointer (some ⟨A.FB rest.length, 0, none⟩)) := hrow.cell (i := rest.length) (by omega)
  have HL := hid l1
  clear hrow hgv l1 hpvA
  refine (topF W mb 1 rest.length gb gcap _ x1 q0 (by omega)).mono ?_
  rintro e w6 ⟨rfl, k6, hw6⟩
  rw [hw6]
  clear hw6 w6 x1 q0
  have hV : Below W.heap.size W (W.drewN k6) := below_drewN (Below.refl _ _) _
  have l2 := HL.out.below hV
  have hWB : B ≤ W.heap.size := by have := hB1.size; omega
  have hBV : Below B w (W.drewN k6) := hB1.trans (hV.mono hWB)
  have hPg2 := hPg1.below (hV.mono hWB)
  have hcV := hcN.trans (Ch.of_below (B := B) (p := fun d => d ≠ 5) (tag := A.tag) hV)
  have hBVs : B ≤ (W.drewN k6).heap.size := by have := hV.size; omega
  clear HL hPg1 hB1 hV hWB hcN
  generalize W.drewN k6 = V at *
  obtain ⟨pb, po, pc, CA, CC, hpv, hPA, hpb, _⟩ := hPg2.at_
  have r0 : V.cell? ⟨mb, 0, none⟩ = some (.slice (some ⟨pb, po, none⟩) m pc) := by rw [cell_heap l2.run, ← hpv]; rfl
  obtain ⟨g1, g2, g3⟩ := l2.fb rest.length (by rw [hfrl]; omega)
  have e0 : frAt ({ s with steps := s.steps + 1 } : Mc).fr rest.length = f := by show frAt s.fr _ = f; rw [hs]; exact frAt_top _ _
  rw [e0] at g1
  have y0 : V.cell? ⟨A.FB rest.length, 0, none⟩ = some (.int .i64 f.fn) := (cell_heap g1).trans rfl
  have y1 : V.cell? ⟨A.FB rest.length, 1, none⟩ = some (.int .i64 f.pc) := (cell_heap g1).trans rfl
  have s2 := (hPA.fn f.fn hfn).slice
  obtain ⟨cb, co, hca, hcb, hcode⟩ := (hPA.fn f.fn hfn).code (by omega)
  rw [hca] at s2
  obtain ⟨k0, k1⟩ := hcode f.pc hpc
  rw [hop] at k0
  rw [har] at k1
  have HX := hid (And.intro l2 (And.intro hBV (And.intro hPg2 (And.intro hBVs (And.intro hs hcV)))))
  have hzm := heap_lt l2.run
  have hzf := heap_lt g1
  have hzp : pb < V.heap.size := by omega
  clear l2 hBV hcV hPg2 hPA hpv g1 g2 g3 e0 hcode hca hs hop har HS hfrl hB hBVs
  generalize hfb : A.FB rest.length = fb at *
  have HF := hid hfb
  clear hfb
  generalize hfnl : f.fn = fnl at *
  generalize hpcl : f.pc = pcl at *
  have HFP := hid (And.intro hfnl hpcl)
  clear hfnl hpcl
  generalize hcnl : (F fnl).cn = cnl at *
  have HCN := hid hcnl
  clear hcnl
  have i0 : (0 : Int) ≤ (fnl : Int) := by omega
  have i1 : (fnl : Int) < (m : Int) := by omega
  have i2 : (0 : Int) ≤ (pcl : Int) := by omega
  have i3 : (pcl : Int) < (cnl : Int) := by omega
  go_wp2_with fail
  go_region_held3 (fun w' => w'.cell? ⟨mb, 0, none⟩ = some (.slice (some ⟨pb, po, none⟩) m pc) ∧ w'.cell? ⟨fb, 0, none⟩ = some (.int .i64 fnl) ∧ w'.cell? ⟨fb, 1, none⟩ = some (.int .i64 pcl) ∧ w'.cell? ⟨pb, po + fnl * 3 + 2, none⟩ = some (.slice (some ⟨cb, co, none⟩) cnl (CC fnl)) ∧ w'.cell? ⟨cb, co + pcl * 2, none⟩ = some (.int .i64 14) ∧ w'.cell? ⟨cb, co + pcl * 2 + 1, none⟩ = some (.int .i64 ar))
    (go_keep) (fail)
  rename_i hheld
  clear hheld
  obtain ⟨l2, hBV, hPg2, hBVs, hs, hcV⟩ := HX.out
  have hX : Below V.heap.size V (V.alloc (.cells #[.int .i64 14, .int .i64 ar] 35)).drew := ((Below.refl _ _).alloc (Nat.le_refl _) _).drew
  have hch : Ch B (fun _ => False) A.tag (upd A.tag V.heap.size 5) V (V.alloc (.cells #[.int .i64 14, .int .i64 ar] 35)).drew := Ch.of_tags hX (fun b hb => upd_other _ _ _ _ (by omega))
  have l3 := l2.keep hch
  have hcX : Ch B (fun d => d ≠ 5) A.tag ({ A with tag := upd A.tag V.heap.size 5 } : AdM).tag w (V.alloc (.cells #[.int .i64 14, .int .i64 ar] 35)).drew := hcV.trans (hch.mono (fun _ h => h.elim))
  have b0 : (V.alloc (.cells #[.int .i64 14, .int .i64 ar] 35)).drew.cell? ⟨V.heap.size, 0, none⟩ = some (.int .i64 14) := cell_new V _ _ _ _ rfl
  have b1 : (V.alloc (.cells #[.int .i64 14, .int .i64 ar] 35)).drew.cell? ⟨V.heap.size, 1, none⟩ = some (.int .i64 ar) := cell_new V _ _ _ _ rfl
  have hBX : Below B w (V.alloc (.cells #[.int .i64 14, .int .i64 ar] 35)).drew := hBV.trans (hX.mono hBVs)
  have hBXs : B ≤ (V.alloc (.cells #[.int .i64 14, .int .i64 ar] 35)).drew.heap.size := by have := hX.size; omega
  have hPg3 := hPg2.below (hX.mono hBVs)
  have hf3 : ({ A with tag := upd A.tag V.heap.size 5 } : AdM).FB rest.length = fb := HF.out
  clear hX hch l2 hPg2 hBV hcV HX r0 y0 y1 s2 k0 k1 hBVs
  generalize (V.alloc (.cells #[.int .i64 14, .int .i64 ar] 35)).drew = X at *
  generalize V.heap.size = bx at *
  generalize hA1 : ({ A with tag := upd A.tag bx 5 } : AdM) = A1 at *
  have hpv1 : A1.pv = A.pv := by rw [← hA1]
  clear hA1
  obtain hrest := HRs.out
  subst hrest
  have hret := giveBackEnd X B mb A1 { s with steps := s.steps + 1 } en f v st l3 hBXs hs HC.out.1 HC.out.2
  rw [show A1.FB 0 = fb from hf3] at hret
  have HSX := hid hret
  have HBX := hid (And.intro hcX hpv1)
  clear hcX hret l3 hPg3 hBX hBXs hpv1 hf3 hs
  go_wp2_with fail
  refine HSX.out.mono ?_
  rintro e w7 ⟨rfl, A7, l7, p7, b7⟩
  have HQ := hid (And.intro l7 (And.intro (p7.trans HBX.out.2) (HBX.out.1.trans b7)))
  clear l7 p7 b7 HSX HBX b0 b1
  go_wp2
  go_end0
  exact ⟨rfl, A7, HQ.out⟩

set_option maxRecDepth 100000 in
set_option maxHeartbeats 1000000 in
theorem step_back (w : World) (B mb m : Nat) (A : AdM) (s : Mc) (en : Int) (F : Nat → PF) (f : Fr) (rest : List Fr) (op ar : Int) (hL : LayM w B mb A s en) (hPg : Pg w B A.pv m F) (hB : B ≤ w.heap.size) (hs : s.fr = f :: rest) (hfn : f.fn < m) (hpc : f.pc < (F f.fn).cn) (hcn : (F f.fn).cn ≤ 64) (_hm : m ≤ 8) (hr : rest.length ≤ 60) (hst : s.steps ≤ 1000000) (hop : (F f.fn).op f.pc = op) (har : (F f.fn).ar f.pc = ar)
    (g : Fr) (r : List Fr) (v : V) (st : List V) (h14 : op = 14) (hrest : rest = g :: r) (hstk : f.stk = v :: st) (hst2 : st.length ≤ 60) (hg : g.stk.length ≤ 60) :
    Calls Tryd.prog 80 #[.pointer (some ⟨mb, 0, none⟩)] w (Stepped w B mb A { s with steps := s.steps + 1, fr := { g with stk := v :: g.stk } :: r } en) := by
  subst h14
  have HRs := hid hrest
  have HC := hid (And.intro hstk (And.intro hst2 hg))
  clear hstk hst2 hg hrest
  obtain ⟨l1, c1⟩ := hL.tick (s.steps + 1)
  have ec : ((s.steps + 1 : Nat) : Int) = (s.steps : Int) + 1 := by omega
  rw [ec] at l1 c1
  have hB1 : Below B w (w.setCell ⟨mb, 5, none⟩ (.int .i64 ((s.steps : Int) + 1))) := c1.below hB
  have x5 : w.cell? ⟨mb, 5, none⟩ = some (.int .i64 s.steps) := by rw [cell_heap hL.run]; rfl
  have z5 : w.frozen? ⟨mb, 5, none⟩ = false := frozen_heap hL.run
  have hcN := c1.mono (q := fun d => d ≠ 5) (fun d hd => by omega)
  have HW := hid (And.intro l1 (And.intro hB1 (And.intro (hPg.below hB1) hcN)))
  have HS := hid (And.intro hs (And.intro hop har))
  clear hL hPg l1 c1 hB1 ec hs hop har hcN
  have hsp : (0 : Int) ≤ (s.steps : Int) ∧ (s.steps : Int) ≤ 1000000 := by omega
  generalize (s.steps : Int) = sp at *
  have e5 : wrap64 (sp + 1) = sp + 1 := by unfold wrap64; omega
  go_enter Tryd.func80, Tryd.ntmps80
  go_wp2_with fail
  obtain ⟨l1, hB1, hPg1, hcN⟩ := HW.out
  have hpvA := hPg1
  clear HW x5 z5
  generalize w.setCell ⟨mb, 5, none⟩ (.int .i64 (sp + 1)) = W at *
  obtain ⟨hs, hop, har⟩ := HS.out
  have hfrl : ({ s with steps := s.steps + 1 } : Mc).fr.length = rest.length + 1 := by show s.fr.length = _; rw [hs]; rfl
  have hrow := l1.fr
  rw [hfrl] at hrow
  obtain ⟨gb, gcap, hgv, _, _, _, _⟩ := hrow.form (by omega)
  rw [hgv] at hrow
  have x1 : W.cell? ⟨mb, 1, none⟩ = some (.slice (some ⟨gb, 0, none⟩) (rest.length + 1) gcap) := by rw [cell_heap l1.run, ← hgv]; rfl
  have q0 : W.cell? ⟨gb, rest.length, none⟩ = some (.pointer (some ⟨A.FB rest.length, 0, none⟩)) := hrow.cell (i := rest.length) (by omega)
  have HL := hid l1
  clear hrow hgv l1 hpvA
  refine (topF W mb 1 rest.length gb gcap _ x1 q0 (by omega)).mono ?_
  rintro e w6 ⟨rfl, k6, hw6⟩
  rw [hw6]
  clear hw6 w6 x1 q0
  have hV : Below W.heap.size W (W.drewN k6) := below_drewN (Below.refl _ _) _
  have l2 := HL.out.below hV
  have hWB : B ≤ W.heap.size := by have := hB1.size; omega
  have hBV : Below B w (W.drewN k6) := hB1.trans (hV.mono hWB)
  have hPg2 := hPg1.below (hV.mono hWB)
  have hcV := hcN.trans (Ch.of_below (B := B) (p := fun d => d ≠ 5) (tag := A.tag) hV)
  have hBVs : B ≤ (W.drewN k6).heap.size := by have := hV.size; omega
  clear HL hPg1 hB1 hV hWB hcN
  generalize W.drewN k6 = V at *
  obtain ⟨pb, po, pc, CA, CC, hpv, hPA, hpb, _⟩ := hPg2.at_
  have r0 : V.cell? ⟨mb, 0, none⟩ = some (.slice (some ⟨pb, po, none⟩) m pc) := by rw [cell_heap l2.run, ← hpv]; rfl
  obtain ⟨g1, g2, g3⟩ := l2.fb rest.length (by rw [hfrl]; omega)
  have e0 : frAt ({ s with steps := s.steps + 1 } : Mc).fr rest.length = f := by show frAt s.fr _ = f; rw [hs]; exact frAt_top _ _
  rw [e0] at g1
  have y0 : V.cell? ⟨A.FB rest.length, 0, none⟩ = some (.int .i64 f.fn) := (cell_heap g1).trans rfl
  have y1 : V.cell? ⟨A.FB rest.length, 1, none⟩ = some (.int .i64 f.pc) := (cell_heap g1).trans rfl
  have s2 := (hPA.fn f.fn hfn).slice
  obtain ⟨cb, co, hca, hcb, hcode⟩ := (hPA.fn f.fn hfn).code (by omega)
  rw [hca] at s2
  obtain ⟨k0, k1⟩ := hcode f.pc hpc
  rw [hop] at k0
  rw [har] at k1
  have HX := hid (And.intro l2 (And.intro hBV (And.intro hPg2 (And.intro hBVs (And.intro hs hcV)))))
  have hzm := heap_lt l2.run
  have hzf := heap_lt g1
  have hzp : pb < V.heap.size := by omega
  clear l2 hBV hcV hPg2 hPA hpv g1 g2 g3 e0 hcode hca hs hop har HS hfrl hB hBVs
  generalize hfb : A.FB rest.length = fb at *
  have HF := hid hfb
  clear hfb
  generalize hfnl : f.fn = fnl at *
  generalize hpcl : f.pc = pcl at *
  have HFP := hid (And.intro hfnl hpcl)
  clear hfnl hpcl
  generalize hcnl : (F fnl).cn = cnl at *
  have HCN := hid hcnl
  clear hcnl
  have i0 : (0 : Int) ≤ (fnl : Int) := by omega
  have i1 : (fnl : Int) < (m : Int) := by omega
  have i2 : (0 : Int) ≤ (pcl : Int) := by omega
  have i3 : (pcl : Int) < (cnl : Int) := by omega
  go_wp2_with fail
  go_region_held3 (fun w' => w'.cell? ⟨mb, 0, none⟩ = some (.slice (some ⟨pb, po, none⟩) m pc) ∧ w'.cell? ⟨fb, 0, none⟩ = some (.int .i64 fnl) ∧ w'.cell? ⟨fb, 1, none⟩ = some (.int .i64 pcl) ∧ w'.cell? ⟨pb, po + fnl * 3 + 2, none⟩ = some (.slice (some ⟨cb, co, none⟩) cnl (CC fnl)) ∧ w'.cell? ⟨cb, co + pcl * 2, none⟩ = some (.int .i64 14) ∧ w'.cell? ⟨cb, co + pcl * 2 + 1, none⟩ = some (.int .i64 ar))
    (go_keep) (fail)
  rename_i hheld
  clear hheld
  obtain ⟨l2, hBV, hPg2, hBVs, hs, hcV⟩ := HX.out
  have hX : Below V.heap.size V (V.alloc (.cells #[.int .i64 14, .int .i64 ar] 35)).drew := ((Below.refl _ _).alloc (Nat.le_refl _) _).drew
  have hch : Ch B (fun _ => False) A.tag (upd A.tag V.heap.size 5) V (V.alloc (.cells #[.int .i64 14, .int .i64 ar] 35)).drew := Ch.of_tags hX (fun b hb => upd_other _ _ _ _ (by omega))
  have l3 := l2.keep hch
  have hcX : Ch B (fun d => d ≠ 5) A.tag ({ A with tag := upd A.tag V.heap.size 5 } : AdM).tag w (V.alloc (.cells #[.int .i64 14, .int .i64 ar] 35)).drew := hcV.trans (hch.mono (fun _ h => h.elim))
  have b0 : (V.alloc (.cells #[.int .i64 14, .int .i64 ar] 35)).drew.cell? ⟨V.heap.size, 0, none⟩ = some (.int .i64 14) := cell_new V _ _ _ _ rfl
  have b1 : (V.alloc (.cells #[.int .i64 14, .int .i64 ar] 35)).drew.cell? ⟨V.heap.size, 1, none⟩ = some (.int .i64 ar) := cell_new V _ _ _ _ rfl
  have hBX : Below B w (V.alloc (.cells #[.int .i64 14, .int .i64 ar] 35)).drew := hBV.trans (hX.mono hBVs)
  have hBXs : B ≤ (V.alloc (.cells #[.int .i64 14, .int .i64 ar] 35)).drew.heap.size := by have := hX.size; omega
  have hPg3 := hPg2.below (hX.mono hBVs)
  have hf3 : ({ A with tag := upd A.tag V.heap.size 5 } : AdM).FB rest.length = fb := HF.out
  clear hX hch l2 hPg2 hBV hcV HX r0 y0 y1 s2 k0 k1 hBVs
  generalize (V.alloc (.cells #[.int .i64 14, .int .i64 ar] 35)).drew = X at *
  generalize V.heap.size = bx at *
  generalize hA1 : ({ A with tag := upd A.tag bx 5 } : AdM) = A1 at *
  have hpv1 : A1.pv = A.pv := by rw [← hA1]
  clear hA1
  obtain hrest := HRs.out
  subst hrest
  have hret := giveBackMid X B mb A1 { s with steps := s.steps + 1 } en f g r v st l3 hBXs hs HC.out.1 HC.out.2.1 HC.out.2.2 (by simp at hr; omega)
  rw [show A1.FB (r.length + 1) = fb from hf3] at hret
  have HSX := hid hret
  have HBX := hid (And.intro hcX hpv1)
  clear hcX hret l3 hPg3 hBX hBXs hpv1 hf3 hs
  go_wp2_with fail
  refine HSX.out.mono ?_
  rintro e w7 ⟨rfl, A7, l7, p7, b7⟩
  have HQ := hid (And.intro l7 (And.intro (p7.trans HBX.out.2) (HBX.out.1.trans b7)))
  clear l7 p7 b7 HSX HBX b0 b1
  go_wp2
  go_end0
  exact ⟨rfl, A7, HQ.out⟩

end Go.Proofs.YtnhjjjijeeobbaaDoor
