/-
  upshift's Run, of a run that is Halted; the document's fourth example.
-/
import Derived.Test.YtnhjjjijeeobbaaDoorM13
namespace Go.Proofs.YtnhjjjijeeobbaaDoor
open Go.RowKit

theorem Pg.of_prog {w : World} {pb po pc m : Nat} {F : Nat → PF} {CA : Nat → Option Addr} {CC : Nat → Nat} (h : ProgAt w pb po m F CA CC) : Pg w w.heap.size (.slice (some ⟨pb, po, none⟩) m pc) m F :=
  ⟨pb, po, pc, CA, CC, w, rfl, rfl, h, Below.refl _ _⟩

set_option maxRecDepth 100000 in
set_option maxHeartbeats 1000000 in
theorem codeRunHalt (w : World) (cb pb po pc m : Nat) (F : Nat → PF) (CA : Nat → Option Addr) (CC : Nat → Nat) (S : Nat → Mc) (N fuel : Nat) (hc : w.cell? ⟨cb, 0, none⟩ = some (.slice (some ⟨pb, po, none⟩) m pc)) (hcz : cb < w.heap.size) (hP : ProgAt w pb po m F CA CC) (hm1 : 1 ≤ m) (hm : m ≤ 8) (hl0 : 0 ≤ (F 0).locals) (hl8 : (F 0).locals ≤ 8) (hS0 : S 0 = mcStart F) (hst : ∀ j, j ≤ N → (S j).steps = j) (hfr : ∀ j, j < N → 1 ≤ (S j).fr.length) (hend : (S N).fr = []) (hN : 0 < N) (hf : N ≤ fuel) (hf2 : fuel ≤ 100000) (hout : (S N).out.length ≤ 200000)
    (hstep : ∀ j, j < N → ∀ (B mb : Nat) (X : World) (A1 : AdM), LayM X B mb A1 (S j) 0 → Pg X B A1.pv m F → B ≤ X.heap.size → Calls Tryd.prog 80 #[.pointer (some ⟨mb, 0, none⟩)] X (Stepped X B mb A1 (S (j + 1)) 0)) :
    Calls Tryd.prog 16 #[.pointer (some ⟨cb, 0, none⟩), .int .i64 fuel] w fun e w' => ∃ p n c, e = .returned (OutcomeV 1 (S N) (.slice p n c)) ∧ Below w.heap.size w w' := by
  have hW : Below w.heap.size w (w.alloc (.cells #[.int .i64 0, .int .i64 0, .int .i64 0, .int .i64 0, .slice none 0 0] 48)) := (Below.refl _ _).alloc (Nat.le_refl _) _
  have hP2 := hP.below hW (Nat.le_refl _)
  have hrun := machineRun _ m _ F S N fuel (Pg.of_prog (pc := pc) hP2) hm1 hm hl0 hl8 hS0 hst hfr hend hN hf hf2 hstep
  have c0 := (hW.cell (p := ⟨cb, 0, none⟩) hcz).trans hc
  have r0 : (w.alloc (.cells #[.int .i64 0, .int .i64 0, .int .i64 0, .int .i64 0, .slice none 0 0] 48)).heap[w.heap.size]? = some (.cells #[.int .i64 0, .int .i64 0, .int .i64 0, .int .i64 0, .slice none 0 0] 48 (0, 0)) := Go.Deep.blk_alloc_new _ _
  have hz : (w.alloc (.cells #[.int .i64 0, .int .i64 0, .int .i64 0, .int .i64 0, .slice none 0 0] 48)).heap.size = w.heap.size + 1 := by simp
  have HR := hid hrun
  have HX := hid (And.intro hW (And.intro r0 hz))
  clear hrun hW hP hP2 hst hfr hend hstep hS0 hc r0 hz
  go_enter Tryd.func16, Tryd.ntmps16
  go_wp2_with fail
  refine HR.out.mono ?_
  rintro e w2 ⟨mb, rfl, hB2, A2, l2⟩
  have hO := outcomeM w2 _ mb A2 (S N) 1 l2 hout
  have HO := hid hO
  have HB2 := hid hB2
  clear hO hB2 l2 HR
  go_wp2_with fail
  refine HO.out.mono ?_
  rintro e w3 ⟨v, rfl, hB3, hout3⟩
  obtain ⟨p3, cp3, rfl, _⟩ := Row.any hout3
  obtain ⟨hW, r0, hz⟩ := HX.out
  have hz2 := HB2.out.size
  have r2 := (HB2.out.block w.heap.size (by omega)).trans r0
  have r3 := (hB3.block w.heap.size (by omega)).trans r2
  have y0 : w3.cell? ⟨w.heap.size, 0, none⟩ = some (.int .i64 0) := (cell_heap r3).trans rfl
  have y1 : w3.cell? ⟨w.heap.size, 1, none⟩ = some (.int .i64 0) := (cell_heap r3).trans rfl
  have y2 : w3.cell? ⟨w.heap.size, 2, none⟩ = some (.int .i64 0) := (cell_heap r3).trans rfl
  have y3 : w3.cell? ⟨w.heap.size, 3, none⟩ = some (.int .i64 0) := (cell_heap r3).trans rfl
  have y4 : w3.cell? ⟨w.heap.size, 4, none⟩ = some (.slice none 0 0) := (cell_heap r3).trans rfl
  have z0 := frozen_heap (o := 0) r3
  have z1 := frozen_heap (o := 1) r3
  have z2 := frozen_heap (o := 2) r3
  have z3 := frozen_heap (o := 3) r3
  have z4 := frozen_heap (o := 4) r3
  have HB : Hid (Below w.heap.size w w3) := (hW.trans (HB2.out.mono (by omega))).trans (hB3.mono (by omega))
  have R3 := hid r3
  clear hB3 hout3 r0 r2 r3 hW hz hz2 HX HB2 HO
  have r3 := R3.out
  have r4 := heap_set (o := 4) (heap_set (o := 3) (heap_set (o := 2) (heap_set (o := 1) (heap_set (o := 0) r3 (.int .i64 1)) (.int .i64 (S N).steps)) (.int .i64 (S N).gives.k)) (.int .i64 (S N).gives.n)) (.slice p3 (S N).out.length cp3)
  have g0 : (((((w3.setCell ⟨w.heap.size, 0, none⟩ (.int .i64 1)).setCell ⟨w.heap.size, 1, none⟩ (.int .i64 (S N).steps)).setCell ⟨w.heap.size, 2, none⟩ (.int .i64 (S N).gives.k)).setCell ⟨w.heap.size, 3, none⟩ (.int .i64 (S N).gives.n)).setCell ⟨w.heap.size, 4, none⟩ (.slice p3 (S N).out.length cp3)).heap[w.heap.size]? = some (.cells #[.int .i64 1, .int .i64 (S N).steps, .int .i64 (S N).gives.k, .int .i64 (S N).gives.n, .slice p3 (S N).out.length cp3] 48 (0, 0)) := r4
  have hbl : Below w.heap.size w (((((w3.setCell ⟨w.heap.size, 0, none⟩ (.int .i64 1)).setCell ⟨w.heap.size, 1, none⟩ (.int .i64 (S N).steps)).setCell ⟨w.heap.size, 2, none⟩ (.int .i64 (S N).gives.k)).setCell ⟨w.heap.size, 3, none⟩ (.int .i64 (S N).gives.n)).setCell ⟨w.heap.size, 4, none⟩ (.slice p3 (S N).out.length cp3)) :=
    below_set (below_set (below_set (below_set (below_set HB.out (Nat.le_refl _) _) (Nat.le_refl _) _) (Nat.le_refl _) _) (Nat.le_refl _) _) (Nat.le_refl _) _
  have HQ := hid (And.intro g0 hbl)
  clear r3 r4 g0 hbl R3
  unfold OutcomeV
  go_wp2
  obtain ⟨g0, hbl⟩ := HQ.out
  generalize ((((w3.setCell ⟨w.heap.size, 0, none⟩ (.int .i64 1)).setCell ⟨w.heap.size, 1, none⟩ (.int .i64 (S N).steps)).setCell ⟨w.heap.size, 2, none⟩ (.int .i64 (S N).gives.k)).setCell ⟨w.heap.size, 3, none⟩ (.int .i64 (S N).gives.n)).setCell ⟨w.heap.size, 4, none⟩ (.slice p3 (S N).out.length cp3) = V5 at *
  have y0 : V5.cell? ⟨w.heap.size, 0, none⟩ = some (.int .i64 1) := (cell_heap g0).trans rfl
  have y1 : V5.cell? ⟨w.heap.size, 1, none⟩ = some (.int .i64 (S N).steps) := (cell_heap g0).trans rfl
  have y2 : V5.cell? ⟨w.heap.size, 2, none⟩ = some (.int .i64 (S N).gives.k) := (cell_heap g0).trans rfl
  have y3 : V5.cell? ⟨w.heap.size, 3, none⟩ = some (.int .i64 (S N).gives.n) := (cell_heap g0).trans rfl
  have y4 : V5.cell? ⟨w.heap.size, 4, none⟩ = some (.slice p3 (S N).out.length cp3) := (cell_heap g0).trans rfl
  exact bodyPost_ret (v := OutcomeV 1 (S N) (.slice p3 (S N).out.length cp3)) (by simp [results, Tryd.results16, go_sem, y0, y1, y2, y3, y4, OutcomeV]) rfl ⟨p3, (S N).out.length, cp3, rfl, hbl⟩

/-- The document's fourth example. -/
def fk0 : PF := ⟨0, 0, 4, fun i => if i = 0 then 12 else if i = 1 then 0 else if i = 2 then 13 else 14, fun i => if i = 0 then 1 else if i = 1 then 7 else if i = 2 then 1 else 0⟩
def fk1 : PF := ⟨1, 1, 4, fun i => if i = 0 then 2 else if i = 1 then 2 else if i = 2 then 6 else 14, fun _ => 0⟩
def FK : Nat → PF := fun k => if k = 0 then fk0 else fk1

def mcAt (fr : List Fr) (g : V) (n : Nat) : Mc := { mc0 with fr := fr, gives := g, steps := n }
/-- Its states. -/
def SK : Nat → Mc
  | 0 => mcAt [⟨0, 0, [], []⟩] vnil 0
  | 1 => mcAt [⟨0, 1, [], [⟨3, 1⟩]⟩] vnil 1
  | 2 => mcAt [⟨0, 2, [], [vnum 7, ⟨3, 1⟩]⟩] vnil 2
  | 3 => mcAt [⟨1, 0, [vnum 7], []⟩, ⟨0, 3, [], []⟩] vnil 3
  | 4 => mcAt [⟨1, 1, [vnum 7], [vnum 7]⟩, ⟨0, 3, [], []⟩] vnil 4
  | 5 => mcAt [⟨1, 2, [vnum 7], [vnum 7, vnum 7]⟩, ⟨0, 3, [], []⟩] vnil 5
  | 6 => mcAt [⟨1, 3, [vnum 7], [vnum 49]⟩, ⟨0, 3, [], []⟩] vnil 6
  | 7 => mcAt [⟨0, 3, [], [vnum 49]⟩] vnil 7
  | _ => mcAt [] (vnum 49) 8

theorem SK_step (j : Nat) (hj : j < 8) (B mb : Nat) (X : World) (A1 : AdM) (hL : LayM X B mb A1 (SK j) 0) (hPg : Pg X B A1.pv 2 FK) (hB : B ≤ X.heap.size) :
    Calls Tryd.prog 80 #[.pointer (some ⟨mb, 0, none⟩)] X (Stepped X B mb A1 (SK (j + 1)) 0) := by
  have hcase : j = 0 ∨ j = 1 ∨ j = 2 ∨ j = 3 ∨ j = 4 ∨ j = 5 ∨ j = 6 ∨ j = 7 := by omega
  rcases hcase with rfl | rfl | rfl | rfl | rfl | rfl | rfl | rfl
  · exact step_str X B mb 2 A1 (SK 0) 0 FK ⟨0, 0, [], []⟩ [] 12 1 hL hPg hB rfl (by decide) (by decide) (by decide) (by decide) (by simp) (by decide) rfl rfl ⟨0, 0, [], [⟨3, 1⟩]⟩ (fun Y A2 h1 h2 => straight_fun Y B mb A2 _ 0 ⟨0, 0, [], []⟩ [] 1 h1 rfl h2 (by simp)) (by decide) rfl
  · exact step_str X B mb 2 A1 (SK 1) 0 FK ⟨0, 1, [], [⟨3, 1⟩]⟩ [] 0 7 hL hPg hB rfl (by decide) (by decide) (by decide) (by decide) (by simp) (by decide) rfl rfl ⟨0, 1, [], [vnum 7, ⟨3, 1⟩]⟩ (fun Y A2 h1 h2 => straight_const Y B mb A2 _ 0 ⟨0, 1, [], [⟨3, 1⟩]⟩ [] 7 h1 rfl h2 (by simp)) (by decide) rfl
  · exact step_call X B mb 2 A1 (SK 2) 0 FK ⟨0, 2, [], [vnum 7, ⟨3, 1⟩]⟩ [] 13 1 hL hPg hB rfl (by decide) (by decide) (by decide) (by decide) (by simp) (by decide) rfl rfl [vnum 7] [] 1 1 rfl rfl rfl rfl (by decide) (by decide) (by decide) rfl (by decide) (by decide) (by decide) (by decide)
  · exact step_str X B mb 2 A1 (SK 3) 0 FK ⟨1, 0, [vnum 7], []⟩ [⟨0, 3, [], []⟩] 2 0 hL hPg hB rfl (by decide) (by decide) (by decide) (by decide) (by simp) (by decide) rfl rfl ⟨1, 0, [vnum 7], [vnum 7]⟩ (fun Y A2 h1 h2 => straight_load Y B mb A2 _ 0 ⟨1, 0, [vnum 7], []⟩ [⟨0, 3, [], []⟩] 0 (by decide) h1 rfl h2 (by simp)) (by decide) rfl
  · exact step_str X B mb 2 A1 (SK 4) 0 FK ⟨1, 1, [vnum 7], [vnum 7]⟩ [⟨0, 3, [], []⟩] 2 0 hL hPg hB rfl (by decide) (by decide) (by decide) (by decide) (by simp) (by decide) rfl rfl ⟨1, 1, [vnum 7], [vnum 7, vnum 7]⟩ (fun Y A2 h1 h2 => straight_load Y B mb A2 _ 0 ⟨1, 1, [vnum 7], [vnum 7]⟩ [⟨0, 3, [], []⟩] 0 (by decide) h1 rfl h2 (by simp)) (by decide) rfl
  · exact step_str X B mb 2 A1 (SK 5) 0 FK ⟨1, 2, [vnum 7], [vnum 7, vnum 7]⟩ [⟨0, 3, [], []⟩] 6 0 hL hPg hB rfl (by decide) (by decide) (by decide) (by decide) (by simp) (by decide) rfl rfl ⟨1, 2, [vnum 7], [vnum 49]⟩ (fun Y A2 h1 h2 => straight_reckon Y B mb A2 _ 0 ⟨1, 2, [vnum 7], [vnum 7, vnum 7]⟩ [⟨0, 3, [], []⟩] 6 0 (vnum 7) (vnum 7) [] h1 rfl rfl h2 (by decide) (by decide) rfl rfl (by decide)) (by decide) rfl
  · exact step_back X B mb 2 A1 (SK 6) 0 FK ⟨1, 3, [vnum 7], [vnum 49]⟩ [⟨0, 3, [], []⟩] 14 0 hL hPg hB rfl (by decide) (by decide) (by decide) (by decide) (by simp) (by decide) rfl rfl ⟨0, 3, [], []⟩ [] (vnum 49) [] rfl rfl rfl (by decide) (by decide)
  · exact step_end X B mb 2 A1 (SK 7) 0 FK ⟨0, 3, [], [vnum 49]⟩ [] 14 0 hL hPg hB rfl (by decide) (by decide) (by decide) (by decide) (by simp) (by decide) rfl rfl (vnum 49) [] rfl rfl rfl (by decide)

theorem knownRun (w : World) (cb pb po pc : Nat) (CA : Nat → Option Addr) (CC : Nat → Nat) (hc : w.cell? ⟨cb, 0, none⟩ = some (.slice (some ⟨pb, po, none⟩) 2 pc)) (hcz : cb < w.heap.size) (hP : ProgAt w pb po 2 FK CA CC) :
    Calls Tryd.prog 16 #[.pointer (some ⟨cb, 0, none⟩), .int .i64 100] w fun e w' => ∃ p n c, e = .returned (.agg #[.int .i64 1, .int .i64 8, .int .i64 1, .int .i64 49, .slice p n c]) ∧ Below w.heap.size w w' :=
  codeRunHalt w cb pb po pc 2 FK CA CC SK 8 100 hc hcz hP (by decide) (by decide) (by decide) (by decide) rfl (fun j hj => by
    have : j = 0 ∨ j = 1 ∨ j = 2 ∨ j = 3 ∨ j = 4 ∨ j = 5 ∨ j = 6 ∨ j = 7 ∨ j = 8 := by omega
    rcases this with rfl | rfl | rfl | rfl | rfl | rfl | rfl | rfl | rfl <;> rfl) (fun j hj => by
    have : j = 0 ∨ j = 1 ∨ j = 2 ∨ j = 3 ∨ j = 4 ∨ j = 5 ∨ j = 6 ∨ j = 7 := by omega
    rcases this with rfl | rfl | rfl | rfl | rfl | rfl | rfl | rfl <;> decide) rfl (by decide) (by decide) (by decide) (by decide) SK_step
end Go.Proofs.YtnhjjjijeeobbaaDoor
