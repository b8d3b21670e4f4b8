import Derived.Test.YtkafkipjedpohaaGreatDoorA6
import Derived.Test.YtkafkipjedpohaaGreatDoorA5

/-
  upshift.copied; upshift.Load.
-/
namespace Go.Proofs.YtkafkipjedpohaaGreatDoor
open Go.RowKit

/-- The cells of n instructions. -/
def insCells (n : Nat) (op ar : Nat → Int) : List Value := (List.range (n * 2)).map fun j => if j % 2 = 0 then .int .i64 (op (j / 2)) else .int .i64 (ar (j / 2))
theorem insCells_len (n : Nat) (op ar : Nat → Int) : (insCells n op ar).length = n * 2 := by simp [insCells]
theorem insCells_get (n : Nat) (op ar : Nat → Int) (j : Nat) (u : Value) (h : (insCells n op ar)[j]? = some u) : j < n * 2 ∧ u = if j % 2 = 0 then .int .i64 (op (j / 2)) else .int .i64 (ar (j / 2)) := by
  have hj : j < n * 2 := by
    have := (List.getElem?_eq_some_iff.1 h).1
    rwa [insCells_len] at this
  refine ⟨hj, ?_⟩
  simp [insCells, hj] at h
  exact h.symm
theorem insCells_at (n : Nat) (op ar : Nat → Int) (j : Nat) (hj : j < n * 2) : (insCells n op ar)[j]? = some (if j % 2 = 0 then .int .i64 (op (j / 2)) else .int .i64 (ar (j / 2))) := by
  simp [insCells, hj]
theorem insCells_one (n : Nat) (op ar : Nat → Int) : ∀ u ∈ insCells n op ar, u.oneCell' = true := by
  intro u hu
  simp only [insCells, List.mem_map] at hu
  obtain ⟨j, _, rfl⟩ := hu
  split <;> rfl

theorem insCells_code {w : World} {g n : Nat} {op ar : Nat → Int} (h : ∀ j u, (insCells n op ar)[j]? = some u → w.cell? ⟨g, j, none⟩ = some u) : CodeAt w g 0 n op ar := by
  intro i hi
  have h0 := h (i * 2) _ (insCells_at n op ar (i * 2) (by omega))
  have h1 := h (i * 2 + 1) _ (insCells_at n op ar (i * 2 + 1) (by omega))
  rw [if_pos (by omega), show i * 2 / 2 = i by omega] at h0
  rw [if_neg (by omega), show (i * 2 + 1) / 2 = i by omega] at h1
  simp only [Nat.zero_add]
  exact ⟨h0, h1⟩

theorem code_insCells {w : World} {b off n : Nat} {op ar : Nat → Int} (h : CodeAt w b off n op ar) : ∀ j u, (insCells n op ar)[j]? = some u → w.cell? ⟨b, off + j, none⟩ = some u := by
  intro j u hu
  obtain ⟨hj, rfl⟩ := insCells_get n op ar j u hu
  obtain ⟨h0, h1⟩ := h (j / 2) (by omega)
  by_cases e : j % 2 = 0
  · rw [if_pos e, show off + j = off + j / 2 * 2 by omega]; exact h0
  · rw [if_neg e, show off + j = off + j / 2 * 2 + 1 by omega]; exact h1

/-- The cells of m functions. -/
def funCell (F : Nat → PF) (CA : Nat → Option Addr) (CC : Nat → Nat) (j : Nat) : Value :=
  if j % 3 = 0 then .int .i64 (F (j / 3)).args else if j % 3 = 1 then .int .i64 (F (j / 3)).locals else .slice (CA (j / 3)) (F (j / 3)).cn (CC (j / 3))
def funCells (m : Nat) (F : Nat → PF) (CA : Nat → Option Addr) (CC : Nat → Nat) : List Value := (List.range (m * 3)).map (funCell F CA CC)
theorem funCells_len (m : Nat) (F : Nat → PF) (CA : Nat → Option Addr) (CC : Nat → Nat) : (funCells m F CA CC).length = m * 3 := by simp [funCells]
theorem funCells_at (m : Nat) (F : Nat → PF) (CA : Nat → Option Addr) (CC : Nat → Nat) (j : Nat) (hj : j < m * 3) : (funCells m F CA CC)[j]? = some (funCell F CA CC j) := by
  simp [funCells, hj]
theorem funCells_one (m : Nat) (F : Nat → PF) (CA : Nat → Option Addr) (CC : Nat → Nat) : ∀ u ∈ funCells m F CA CC, u.oneCell' = true := by
  intro u hu
  simp only [funCells, List.mem_map] at hu
  obtain ⟨j, _, rfl⟩ := hu
  unfold funCell
  split
  · rfl
  · split <;> rfl
theorem prog_funCells {w : World} {pb po m : Nat} {F : Nat → PF} {CA : Nat → Option Addr} {CC : Nat → Nat} (h : ProgAt w pb po m F CA CC) : ∀ j u, (funCells m F CA CC)[j]? = some u → w.cell? ⟨pb, po + j, none⟩ = some u := by
  intro j u hu
  have hj : j < m * 3 := by
    have := (List.getElem?_eq_some_iff.1 hu).1
    rwa [funCells_len] at this
  rw [funCells_at m F CA CC j hj] at hu
  obtain rfl := Option.some.inj hu
  obtain ⟨h0, h1, h2, _⟩ := h.fn (j / 3) (by omega)
  unfold funCell
  by_cases e0 : j % 3 = 0
  · rw [if_pos e0, show po + j = po + j / 3 * 3 by omega]; exact h0
  · by_cases e1 : j % 3 = 1
    · rw [if_neg e0, if_pos e1, show po + j = po + j / 3 * 3 + 1 by omega]; exact h1
    · rw [if_neg e0, if_neg e1, show po + j = po + j / 3 * 3 + 2 by omega]; exact h2
theorem funCells_fn {w : World} {g m : Nat} {F : Nat → PF} {CA : Nat → Option Addr} {CC : Nat → Nat} (h : ∀ j u, (funCells m F CA CC)[j]? = some u → w.cell? ⟨g, j, none⟩ = some u) (k : Nat) (hk : k < m) :
    w.cell? ⟨g, 0 + k * 3, none⟩ = some (.int .i64 (F k).args) ∧ w.cell? ⟨g, 0 + k * 3 + 1, none⟩ = some (.int .i64 (F k).locals) ∧ w.cell? ⟨g, 0 + k * 3 + 2, none⟩ = some (.slice (CA k) (F k).cn (CC k)) := by
  have h0 := h (k * 3) _ (funCells_at m F CA CC (k * 3) (by omega))
  have h1 := h (k * 3 + 1) _ (funCells_at m F CA CC (k * 3 + 1) (by omega))
  have h2 := h (k * 3 + 2) _ (funCells_at m F CA CC (k * 3 + 2) (by omega))
  unfold funCell at h0 h1 h2
  rw [if_pos (by omega), show k * 3 / 3 = k by omega] at h0
  rw [if_neg (by omega), if_pos (by omega), show (k * 3 + 1) / 3 = k by omega] at h1
  rw [if_neg (by omega), if_neg (by omega), show (k * 3 + 2) / 3 = k by omega] at h2
  simp only [Nat.zero_add]
  exact ⟨h0, h1, h2⟩

set_option maxHeartbeats 400000 in
theorem clone19_any (cb co cc n : Nat) (op ar : Nat → Int) (w : World) (hn : 1 ≤ n) (hn64 : n ≤ 64) (hcb : cb < w.heap.size) (hc : CodeAt w cb co n op ar) :
    Calls Tryz.prog 51 #[.slice (some ⟨cb, co, none⟩) n cc] w fun e w' => ∃ g cap, e = .returned (.slice (some ⟨g, 0, none⟩) n cap) ∧ Below w.heap.size w w' ∧ w.heap.size ≤ g ∧ g < w'.heap.size ∧ CodeAt w' g 0 n op ar ∧ n ≤ cap := by
  have hnil := fun wx => Lib.run_eql_slice_nil (P := Tryz.prog) wx 29 33 (some ⟨cb, co, none⟩) n cc 0 0 Tryz.underlying29
  obtain ⟨cap, w2, hrun, hB, hz, hcells, hfz, hcap⟩ := append_cloneC (P := Tryz.prog) 29 33 _ 2 16 Tryz.underlying29 Tryz.info33 (some ⟨w.heap.size, 0, none⟩) ⟨cb, co, none⟩ n cc (insCells n op ar) (insCells_len _ _ _) (insCells_one _ _ _) hn (by omega) (by omega) (w.alloc (.cells #[] 33))
    (fun j u hu => by rw [Addr.add_lit]; exact ((Below.cell ((Below.refl w.heap.size w).alloc (Nat.le_refl _) (.cells #[] 33)) (p := ⟨cb, co + j, none⟩) hcb)).trans (code_insCells hc j u hu))
  rw [World.size_alloc] at hrun hB hz hcells hfz
  have HX := hid (And.intro hB (And.intro hz (And.intro (insCells_code hcells) hcap)))
  have HR := hid hrun
  clear hB hz hcells hfz hrun hc hcap
  go_enter Tryz.func51, Tryz.ntmps51
  go_wp2_with (at_builtin; refine wpList_append_run _ rfl _ _ 29 rfl _ _ _ _ rfl rfl HR.out ?_)
  go_ret
  obtain ⟨hB, hz, hcells, hcap⟩ := HX.out
  exact ⟨_, _, rfl, ((Below.refl _ _).alloc (Nat.le_refl _) _).trans (hB.mono (by omega)), by omega, by omega, hcells, hcap⟩

/-- k functions of a copy in block g have code of their own. -/
def Cp (w wr : World) (g k m : Nat) (F : Nat → PF) : Prop :=
  ∃ (CA : Nat → Option Addr) (CC : Nat → Nat), ∀ j, j < m → FunAt wr g 0 j (F j) (CA j) (CC j) ∧ ∃ cb co, CA j = some ⟨cb, co, none⟩ ∧ cb ≠ g ∧ (j < k → w.heap.size ≤ cb ∧ (F j).cn ≤ CC j)

theorem Cp.step {w wr w2 : World} {g k m h cap : Nat} {F : Nat → PF} (hc : Cp w wr g k m F) (hk : k < m) (hB : Below wr.heap.size wr w2) (hg : g < wr.heap.size) (hh : wr.heap.size ≤ h) (hh2 : h < w2.heap.size) (hw : w.heap.size ≤ wr.heap.size) (hcode : CodeAt w2 h 0 (F k).cn (F k).op (F k).ar) (hcap : (F k).cn ≤ cap) :
    Cp w (w2.setCell ⟨g, k * 3 + 2, none⟩ (.slice (some ⟨h, 0, none⟩) (F k).cn cap)) g (k + 1) m F := by
  obtain ⟨CA, CC, hj⟩ := hc
  have hset : ∀ (b o : Nat), ¬ (b = g ∧ o = k * 3 + 2) → (w2.setCell ⟨g, k * 3 + 2, none⟩ (.slice (some ⟨h, 0, none⟩) (F k).cn cap)).cell? ⟨b, o, none⟩ = w2.cell? ⟨b, o, none⟩ := by
    intro b o hne
    refine World.cell?_setCell_other _ _ _ _ ?_
    intro e
    injection e with e1 e2
    exact hne ⟨e1.symm, e2.symm⟩
  have hsz : (w2.setCell ⟨g, k * 3 + 2, none⟩ (.slice (some ⟨h, 0, none⟩) (F k).cn cap)).heap.size = w2.heap.size := by simp [World.setCell]
  have hs2 := hB.size
  refine ⟨upd CA k (some ⟨h, 0, none⟩), upd CC k cap, fun j hjm => ?_⟩
  by_cases e : j = k
  · subst e
    rw [upd_same, upd_same]
    obtain ⟨⟨h0, h1, h2, _⟩, _⟩ := hj j hjm
    refine ⟨⟨?_, ?_, ?_, fun _ => ⟨h, 0, rfl, by rw [hsz]; exact hh2, fun i hi => ?_⟩⟩, h, 0, rfl, by omega, fun _ => ⟨by omega, hcap⟩⟩
    · rw [hset _ _ (by omega)]; exact (hB.cell (p := ⟨g, _, none⟩) hg).trans h0
    · rw [hset _ _ (by omega)]; exact (hB.cell (p := ⟨g, _, none⟩) hg).trans h1
    · have hx := (hB.cell (p := ⟨g, 0 + j * 3 + 2, none⟩) hg).trans h2
      rw [Nat.zero_add] at hx ⊢
      exact World.cell?_setCell_same _ _ _ hx
    · rw [hset _ _ (by omega), hset _ _ (by omega)]; exact hcode i hi
  · rw [upd_other _ _ _ _ e, upd_other _ _ _ _ e]
    obtain ⟨⟨h0, h1, h2, h3⟩, cb, co, ec, hne, hold⟩ := hj j hjm
    have H3 := hid h3
    clear h3 hj
    refine ⟨⟨?_, ?_, ?_, fun hn => ?_⟩, cb, co, ec, hne, fun hlt => hold (by omega)⟩
    · rw [hset _ _ (by omega)]; exact (hB.cell (p := ⟨g, _, none⟩) hg).trans h0
    · rw [hset _ _ (by omega)]; exact (hB.cell (p := ⟨g, _, none⟩) hg).trans h1
    · rw [hset _ _ (by omega)]; exact (hB.cell (p := ⟨g, _, none⟩) hg).trans h2
    · obtain ⟨cb', co', ec', hl, hcc⟩ := H3.out hn
      rw [ec] at ec'
      injection ec' with ec'
      injection ec' with e1 e2
      subst e1
      subst e2
      refine ⟨cb, co, ec, by rw [hsz]; omega, fun i hi => ?_⟩
      rw [hset _ _ (by omega), hset _ _ (by omega)]
      exact (hcc.below hB hl) i hi

set_option maxHeartbeats 1000000 in
theorem copied_any (pb po pc m : Nat) (F : Nat → PF) (CA : Nat → Option Addr) (CC : Nat → Nat) (w : World) (hP : ProgAt w pb po m F CA CC) (hm : 1 ≤ m) (hm8 : m ≤ 8) (hcn : ∀ k, k < m → 1 ≤ (F k).cn ∧ (F k).cn ≤ 64) :
    Calls Tryz.prog 35 #[.slice (some ⟨pb, po, none⟩) m pc] w fun e w' => ∃ g cap, e = .returned (.slice (some ⟨g, 0, none⟩) m cap) ∧ Below w.heap.size w w' ∧ w.heap.size ≤ g ∧ g < w'.heap.size ∧ Cp w w' g m m F := by
  have hcl := clone18_any pb po pc m (funCells m F CA CC) w hm hm8 (funCells_len _ _ _ _) (funCells_one _ _ _ _) hP.lt (prog_funCells hP)
  have HC := hid hcl
  have HP := hid hP
  have HN := hid hcn
  clear hcl hP hcn
  go_enter Tryz.func35, Tryz.ntmps35
  go_wp2_with fail
  refine HC.out.mono ?_
  rintro e w2 ⟨g, cap, rfl, hB, hg1, hg2, hcells, hfz⟩
  have hcp : Cp w w2 g 0 m F := by
    refine ⟨CA, CC, fun j hj => ?_⟩
    obtain ⟨a0, a1, a2⟩ := funCells_fn hcells j hj
    have hf := (HP.out.below hB (Nat.le_refl _)).fn j hj
    obtain ⟨cb, co, ec, hl, hcc⟩ := (HP.out.fn j hj).code (HN.out j hj).1
    exact ⟨⟨a0, a1, a2, hf.code⟩, cb, co, ec, by omega, fun h => by omega⟩
  have HS := hid (And.intro hB (And.intro hcp hfz))
  clear hB hcells hfz hcp HC HP
  go_wp2
  go_loopw [9] (fun v wr => ∃ k : Nat, k ≤ m ∧ v = .int .i64 k ∧ Below w.heap.size w wr ∧ Cp w wr g k m F ∧ (∀ j, wr.frozen? ⟨g, j, none⟩ = false) ∧ g < wr.heap.size) (fun v _ => m - (intOf v).toNat)
  case atStart => exact ⟨0, Nat.zero_le _, rfl, HS.out.1, HS.out.2.1, HS.out.2.2, hg2⟩
  case round =>
    clear HS
    obtain ⟨k, hk, rfl, hB, hC, hfz, hgr⟩ := hrel
    by_cases hlt : k < m
    · have hC' := hC
      obtain ⟨CA', CC', hj⟩ := hC'
      obtain ⟨⟨h0, h1, h2, h3⟩, _⟩ := hj k hlt
      obtain ⟨cb, co, ec, hl, hcc⟩ := h3 (HN.out k hlt).1
      rw [ec, Nat.zero_add] at h2
      have hcon := clone19_any cb co (CC' k) (F k).cn (F k).op (F k).ar wr (HN.out k hlt).1 (HN.out k hlt).2 hl hcc
      have HC := hid hcon
      have HK := hid (And.intro hB hC)
      have hwr : w.heap.size ≤ wr.heap.size := hB.size
      clear hcon hB hC hj h0 h1 h3 hcc
      have hstep := fun w3 h cap => HK.out.2.step (w2 := w3) (h := h) (cap := cap) hlt
      have HT := hid hstep
      clear hstep
      generalize (F k).cn = cn at *
      go_wp2_with fail
      refine HC.out.mono ?_
      rintro e w3 ⟨h, cap', rfl, hB3, hh1, hh2, hc3, hcap3⟩
      have g2 : w3.cell? ⟨g, k * 3 + 2, none⟩ = some (.slice (some ⟨cb, co, none⟩) cn (CC' k)) := (hB3.cell (p := ⟨g, _, none⟩) hgr).trans h2
      have f2 : w3.frozen? ⟨g, k * 3 + 2, none⟩ = false := (hB3.frozen (p := ⟨g, _, none⟩) hgr).trans (hfz _)
      have hg3 : g < w3.heap.size := by have := hB3.size; omega
      have HZ : Hid (Below w.heap.size w (w3.setCell ⟨g, k * 3 + 2, none⟩ (.slice (some ⟨h, 0, none⟩) cn cap')) ∧ Cp w (w3.setCell ⟨g, k * 3 + 2, none⟩ (.slice (some ⟨h, 0, none⟩) cn cap')) g (k + 1) m F ∧ (∀ j, (w3.setCell ⟨g, k * 3 + 2, none⟩ (.slice (some ⟨h, 0, none⟩) cn cap')).frozen? ⟨g, j, none⟩ = false) ∧ g < (w3.setCell ⟨g, k * 3 + 2, none⟩ (.slice (some ⟨h, 0, none⟩) cn cap')).heap.size) := by
        refine ⟨(HK.out.1.trans (hB3.mono hwr)).setCell hg1 _, HT.out w3 h cap' hB3 hgr hh1 hh2 hwr hc3 hcap3, fun j => ?_, by simpa [World.setCell] using hg3⟩
        rw [World.frozen?_setCell]
        exact (hB3.frozen (p := ⟨g, _, none⟩) hgr).trans (hfz _)
      clear hB3 hc3 HC h2 hfz hcap3
      go_wp2
      go_roundw
      case rel => exact ⟨k + 1, by omega, by go_num, HZ.out⟩
      case measure => simp [intOf]; omega
    · obtain rfl : k = m := by omega
      have HZ := hid (And.intro hB hC)
      clear hB hC hfz
      go_wp2
      go_ret
      exact ⟨g, cap, rfl, HZ.out.1, hg1, hgr, HZ.out.2⟩
end Go.Proofs.YtkafkipjedpohaaGreatDoor

/-
  upshift.Load.
-/
namespace Go.Proofs.YtkafkipjedpohaaGreatDoor
open Go.RowKit

theorem progP_fine {m : Nat} {F : Nat → PF} (h : (progP m F).1 = 0) : 1 ≤ m ∧ m ≤ 8 ∧ progP m F = (0, 0, 0) ∧ ∀ k, k < m → 1 ≤ (F k).cn ∧ (F k).cn ≤ 64 := by
  by_cases hm : m < 1 ∨ 8 < m
  · rw [progP_size hm] at h; simp at h
  · rcases leastP_spec (faultP m F) m with ⟨h1, h2, h3⟩ | ⟨h1, h2⟩
    · have hne : (funP m (leastP (faultP m F) m) (F (leastP (faultP m F) m))).1 ≠ 0 := by simpa [faultP] using h2
      rw [progP_bad hm h1 hne h3] at h
      exact absurd h hne
    · refine ⟨by omega, by omega, progP_ok hm h2, fun k hk => ?_⟩
      have hf : (funP m k (F k)).1 = 0 := by
        have := h2 k hk
        simpa [faultP] using this
      cases hs : sizesP (F k)
      · rw [funP_size (Or.inl hs)] at hf; simp at hf
      · unfold sizesP at hs
        simp only [Bool.and_eq_true, decide_eq_true_eq] at hs
        exact hs.2

/-- A code: a pointer to a block that holds a copy of the program. -/
def CodeIs (w w' : World) (v : Value) (m : Nat) (F : Nat → PF) : Prop :=
  ∃ b g cap, v = .pointer (some ⟨b, 0, none⟩) ∧ w.heap.size ≤ b ∧ b < w'.heap.size ∧ w'.cell? ⟨b, 0, none⟩ = some (.slice (some ⟨g, 0, none⟩) m cap) ∧ w.heap.size ≤ g ∧ g < w'.heap.size ∧ b ≠ g ∧ Cp w w' g m m F

set_option maxHeartbeats 1000000 in
theorem load_fine (pb po pc m : Nat) (F : Nat → PF) (CA : Nat → Option Addr) (CC : Nat → Nat) (w : World) (hP : ProgAt w pb po m F CA CC) (ht : TabAt w) (h0 : (progP m F).1 = 0) :
    Calls Tryz.prog 17 #[.slice (some ⟨pb, po, none⟩) m pc] w fun e w' =>
      ∃ v, e = .returned (.tuple #[v, .int .i64 0, .int .i64 0, .int .i64 0]) ∧ Below w.heap.size w w' ∧ CodeIs w w' v m F := by
  obtain ⟨hm, hm8, hR, hcn⟩ := progP_fine h0
  have hcon := program_any pb po pc m F CA CC w hP (by omega) ht
  rw [hR] at hcon
  have HC := hid hcon
  have HP := hid hP
  have HN := hid hcn
  clear hcon hP hcn h0 hR ht
  go_enter Tryz.func17, Tryz.ntmps17
  go_wp2_with fail
  refine HC.out.mono ?_
  rintro e w2 ⟨rfl, hB⟩
  have hcop := copied_any pb po pc m F CA CC w2 (HP.out.below hB (Nat.le_refl _)) hm hm8 HN.out
  have HC2 := hid hcop
  have HB := hid hB
  clear hB HC hcop
  go_wp2_with fail
  refine HC2.out.mono ?_
  rintro e w3 ⟨g, cap, rfl, hB3, hg1, hg2, hcp⟩
  have HX := hid (And.intro hB3 hcp)
  clear hB3 hcp HC2
  go_wp2
  refine bodyPost_ret (v := .tuple #[.pointer (some ⟨w3.heap.size, 0, none⟩), .int .i64 0, .int .i64 0, .int .i64 0]) (by simp [results, Tryz.results17, go_sem]) rfl ⟨_, rfl, ?_, ?_⟩
  · exact (HB.out.trans (HX.out.1.mono HB.out.size)).alloc (by have := HB.out.size; have := HX.out.1.size; omega) _
  · have e1 := HB.out.size
    have e2 := HX.out.1.size
    refine ⟨w3.heap.size, g, cap, rfl, by omega, by simp, cell_new _ _ _ _ _ rfl, by omega, by simp; omega, by omega, ?_⟩
    obtain ⟨CA', CC', hj⟩ := HX.out.2
    refine ⟨CA', CC', fun j hjm => ?_⟩
    obtain ⟨hf, cb, co, ec, hne, hold⟩ := hj j hjm
    exact ⟨hf.below ((Below.refl w3.heap.size w3).alloc (Nat.le_refl _) _) (Nat.le_refl _) hg2, cb, co, ec, hne, fun hl => by have := hold hl; omega⟩
end Go.Proofs.YtkafkipjedpohaaGreatDoor

/-
  The walk of upshiftref.Load.
-/
namespace Go.Proofs.YtkafkipjedpohaaGreatDoor
open Go.RowKit

end Go.Proofs.YtkafkipjedpohaaGreatDoor

/-
  upshiftlaw.lent.
-/
namespace Go.Proofs.YtkafkipjedpohaaGreatDoor
open Go.RowKit

/-- The cells of a lent function's instructions: its own, and two empty ones. -/
def icell (f : PF) : Nat → Value := fun j => if j / 2 < f.cn then (if j % 2 = 0 then .int .i64 (f.op (j / 2)) else .int .i64 (f.ar (j / 2))) else .int .i64 0
/-- The cells of a lent program: its functions, and two marks. -/
def lcell (F : Nat → PF) (b m : Nat) : Nat → Value := fun j =>
  if j / 3 < m then (if j % 3 = 0 then .int .i64 (F (j / 3)).args else if j % 3 = 1 then .int .i64 (F (j / 3)).locals else .slice (some ⟨b + 1 + j / 3, 0, none⟩) (F (j / 3)).cn ((F (j / 3)).cn + 2))
  else (if j % 3 = 0 then .int .i64 (-77) else if j % 3 = 1 then .int .i64 0 else .slice none 0 0)
/-- .. of which k have been laid. -/
def lcellTo (F : Nat → PF) (b m k : Nat) : Nat → Value := fun j => if j / 3 < k then lcell F b m j else if j % 3 = 2 then .slice none 0 0 else .int .i64 0

/-- A program that is lent, k of its functions so far. -/
structure LentTo (w : World) (b m k : Nat) (F : Nat → PF) : Prop where
  row : w.rowIs b 31 ((m + 2) * 3) (lcellTo F b m k)
  code : ∀ i, i < m → i < k → w.rowIs (b + 1 + i) 33 (((F i).cn + 2) * 2) (icell (F i))

def fArr (n : Nat) : Array Value := madeCells #[.int .i64 0, .int .i64 0, .slice none 0 0] (n * 3)
def iArr (n : Nat) : Array Value := madeCells #[.int .i64 0, .int .i64 0] (n * 2)

/-- copy of n elements of several cells into a row of the call's own. -/
theorem run_copy_rows {P : Program} (w : World) (dT sT ty elem : TypeId) (size : Nat) (g dLen dCap : Nat) (a : Addr) (sLen sCap : Nat) (cur : Array Value) (t : TypeId) (cs : List Value)
    (hu : P.underlying dT = some (.slice elem)) (hs : (P.info? elem).map (·.size) = some size)
    (hg : w.heap[g]? = some (.cells cur t (0, 0))) (hle : sLen ≤ dLen) (hn : cs.length = sLen * size)
    (hsrc : ∀ j v, cs[j]? = some v → w.cell? (a.add j) = some v) (hfit : cs.length ≤ cur.size) (h1 : ∀ v ∈ cs, v.oneCell' = true) :
    (Builtin.copy_ #[dT, sT] ty #[.slice (some ⟨g, 0, none⟩) dLen dCap, .slice (some a) sLen sCap]).run P w =
      .ok (goInt sLen) (w.setRow g (cs ++ cur.toList.drop cs.length).toArray) := by
  have hl := run_loadCells_list (P := P) w a cs hsrc
  have hst := run_storeCells_at P g 0 t cs 0 cur w hg (by simpa using hfit) h1
  have hmin : Nat.min sLen dLen = sLen := Nat.min_eq_left hle
  cases hq : P.info? elem with
  | none => simp [hq] at hs
  | some i =>
    have hi : i.size = size := by simpa [hq] using hs
    simp [Builtin.copy_, run_underlying hu, Builtin.lenOf, Builtin.firstCells, sizeOf, typeInfo, hq, hi, hmin, ← hn, hl, hst]

theorem run_copy_zero {P : Program} (w : World) (dT sT ty elem : TypeId) (d a : Option Addr) (dLen dCap sCap : Nat) (hu : P.underlying dT = some (.slice elem)) (size : Nat) (hs : (P.info? elem).map (·.size) = some size) :
    (Builtin.copy_ #[dT, sT] ty #[.slice d dLen dCap, .slice a 0 sCap]).run P w = .ok (goInt 0) w := by
  have hmin : Nat.min 0 dLen = 0 := Nat.zero_min _
  cases hq : P.info? elem with
  | none => simp [hq] at hs
  | some i =>
    have hl : ∀ (x : Addr), (loadCells x 0).run P w = .ok #[] w := fun x => by simpa using run_loadCells_list (P := P) w x [] (by simp)
    cases d <;> cases a <;> simp [Builtin.copy_, run_underlying hu, Builtin.lenOf, Builtin.firstCells, sizeOf, typeInfo, hq, hmin, storeCells, hl]

end Go.Proofs.YtkafkipjedpohaaGreatDoor
