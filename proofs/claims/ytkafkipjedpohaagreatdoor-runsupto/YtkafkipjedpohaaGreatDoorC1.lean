import Derived.Test.YtkafkipjedpohaaGreatDoorA5
import Derived.Test.YtkafkipjedpohaaGreatDoorB1
import Derived.Deep.AppendSrc

/-
  slices.Clone, twice; upshift.copied; upshift.Load.
-/
namespace Go.Proofs.YtkafkipjedpohaaGreatDoor
open Go.RowKit

/-- append of n elements to an empty slice: a new block that begins with their cells. -/
theorem append_clone {P : Program} (t e : TypeId) (z : Value) (size bytes : Nat) (ht : P.underlying t = some (.slice e)) (hinfo : (P.info? e).map (fun i => (i.zero, i.size, i.bytes)) = some (some z, size, bytes))
    (g : Option Addr) (a : Addr) (n c : Nat) (news : List Value) (hl : news.length = n * size) (h1 : ∀ u ∈ news, u.oneCell' = true) (hn : 1 ≤ n) (hb : n * bytes ≤ 281474976710656) (h63 : n ≤ 9223372036854775807)
    (w : World) (hnews : ∀ j u, news[j]? = some u → w.cell? (a.add j) = some u) :
    ∃ (cap : Nat) (w' : World), (Builtin.append_ #[t, t] t #[.slice g 0 0, .slice (some a) n c]).run P w = .ok (.slice (some ⟨w.heap.size, 0, none⟩) n cap) w' ∧ Below w.heap.size w w' ∧ w'.heap.size = w.heap.size + 1 ∧
      (∀ j u, news[j]? = some u → w'.cell? ⟨w.heap.size, j, none⟩ = some u) ∧ (∀ j, w'.frozen? ⟨w.heap.size, j, none⟩ = false) := by
  obtain ⟨i, hi, hzz⟩ := Option.map_eq_some_iff.1 hinfo
  simp only [Prod.mk.injEq] at hzz
  obtain ⟨hz, hs, hby⟩ := hzz
  subst hs
  have hsrc : Src P i.size t (.slice (some a) n c) n news w := Src.ofSlice w ht a n c news hl hnews h1
  have hold : (Builtin.firstCells i.size 0 (.slice g 0 0)).run P w.drew = .ok ([] : List Value).toArray w.drew := by
    cases g with
    | none => exact run_firstCells_none w.drew i.size 0 0 0
    | some g => exact run_firstCells_some w.drew i.size 0 g 0 0 [] (by simp) (by simp)
  have hr := run_append_grow_src w t t t e i z ht hi hz g 0 0 [] hold (.slice (some a) n c) n news hsrc (by omega) (by omega) (by
    unfold Builtin.nextslicecap; rw [if_pos (by omega), hby]; simpa using hb)
  simp only [Nat.zero_add, List.nil_append] at hr
  refine ⟨_, _, hr, ?_, ?_, ?_, ?_⟩
  · exact (Below.refl _ _).drew.alloc (Nat.le_refl _) _
  · simp
  · intro j u hu
    have hj : j < news.length := by
      rw [List.getElem?_eq_some_iff] at hu
      exact hu.1
    rw [cell_new w.drew _ _ w.heap.size _ rfl, Array.getElem?_append_left (by simpa using hj)]
    simpa using hu
  · intro j
    unfold World.frozen?
    have : (w.drew.alloc (.cells (news.toArray ++ Builtin.zeroCells z.cells (grownCap w n 0 e - n)) e)).heap[w.heap.size]? = some (.cells (news.toArray ++ Builtin.zeroCells z.cells (grownCap w n 0 e - n)) e) := Go.Deep.blk_alloc_new _ _
    rw [this]
    simp

/-- A builtin append whose run is known. -/
theorem wpList_append_run {P : Program} (w : World) {ops : Array Oper} {rest : List Oper} {o : Oper} {a : Act} {Q : Exit → Act → World → Prop}
    (hg : o.guard = none) (x y : Operand) (t : TypeId) (hop : o.op = Op.call { callee := Callee.builtin Builtin.append, args := #[x, y], argTypes := #[t, t] })
    (vx vy v : Value) (w' : World) (hx : a.eval x = vx) (hy : a.eval y = vy) (hrun : (Builtin.append_ #[t, t] o.type #[vx, vy]).run P w = .ok v w')
    (hK : wpList P ops Q rest (a.put o.dst v) w') : wpList P ops Q (o :: rest) a w := by
  refine wpList_plain hg fun K hK' => ?_
  unfold Oper.wp
  simp [execOp, hop, resolve, invoke, builtin, hx, hy, hrun, Result.andThen]
  exact hK' _ _ hK

theorem Tryz.info31 : (Tryz.prog.info? 31).map (fun i => (i.zero, i.size, i.bytes)) = some (some (.agg #[.int .i64 0, .int .i64 0, .slice none 0 0]), 3, 40) := by kernel_rfl
theorem Tryz.info33 : (Tryz.prog.info? 33).map (fun i => (i.zero, i.size, i.bytes)) = some (some (.agg #[.int .i64 0, .int .i64 0]), 2, 16) := by kernel_rfl

set_option maxHeartbeats 400000 in
theorem clone18_any (pb po pc m : Nat) (news : List Value) (w : World) (hm : 1 ≤ m) (hm8 : m ≤ 8) (hl : news.length = m * 3) (h1 : ∀ u ∈ news, u.oneCell' = true) (hpb : pb < w.heap.size) (hnews : ∀ j u, news[j]? = some u → w.cell? ⟨pb, po + j, none⟩ = some u) :
    Calls Tryz.prog 50 #[.slice (some ⟨pb, po, none⟩) m pc] w fun e w' => ∃ g cap, e = .returned (.slice (some ⟨g, 0, none⟩) m cap) ∧ Below w.heap.size w w' ∧ w.heap.size ≤ g ∧ g < w'.heap.size ∧
      (∀ j u, news[j]? = some u → w'.cell? ⟨g, j, none⟩ = some u) ∧ (∀ j, w'.frozen? ⟨g, j, none⟩ = false) := by
  have hnil := fun wx => Lib.run_eql_slice_nil (P := Tryz.prog) wx 23 31 (some ⟨pb, po, none⟩) m pc 0 0 Tryz.underlying23
  obtain ⟨cap, w2, hrun, hB, hz, hcells, hfz⟩ := append_clone (P := Tryz.prog) 23 31 _ 3 40 Tryz.underlying23 Tryz.info31 (some ⟨w.heap.size, 0, none⟩) ⟨pb, po, none⟩ m pc news hl h1 hm (by omega) (by omega) (w.alloc (.cells #[] 31))
    (fun j u hu => by rw [Addr.add_lit]; exact ((Below.cell ((Below.refl w.heap.size w).alloc (Nat.le_refl _) (.cells #[] 31)) (p := ⟨pb, po + j, none⟩) hpb)).trans (hnews j u hu))
  rw [World.size_alloc] at hrun hB hz hcells hfz
  have HX := hid (And.intro hB (And.intro hz (And.intro hcells hfz)))
  have HR := hid hrun
  clear hB hz hcells hfz hnews h1 hl hrun
  go_enter Tryz.func50, Tryz.ntmps50
  go_wp2_with (at_builtin; refine wpList_append_run _ rfl _ _ 23 rfl _ _ _ _ rfl rfl HR.out ?_)
  go_ret
  obtain ⟨hB, hz, hcells, hfz⟩ := HX.out
  exact ⟨_, _, rfl, ((Below.refl _ _).alloc (Nat.le_refl _) _).trans (hB.mono (by omega)), by omega, by omega, hcells, hfz⟩
end Go.Proofs.YtkafkipjedpohaaGreatDoor

/-
  upshift.copied; upshift.Load.
-/
namespace Go.Proofs.YtkafkipjedpohaaGreatDoor
open Go.RowKit

/-- The cells of n instructions. -/
def insCells (n : Nat) (op ar : Nat → Int) : List Value := (List.range (n * 2)).map fun j => if j % 2 = 0 then .int .i64 (op (j / 2)) else .int .i64 (ar (j / 2))
theorem insCells_len (n : Nat) (op ar : Nat → Int) : (insCells n op ar).length = n * 2 := by simp [insCells]
theorem insCells_get (n : Nat) (op ar : Nat → Int) (j : Nat) (u : Value) (h : (insCells n op ar)[j]? = some u) : j < n * 2 ∧ u = if j % 2 = 0 then .int .i64 (op (j / 2)) else .int .i64 (ar (j / 2)) := by
  have hj : j < n * 2 := by
    have := (List.getElem?_eq_some_iff.1 h).1
    rwa [insCells_len] at this
  refine ⟨hj, ?_⟩
  simp [insCells, hj] at h
  exact h.symm
theorem insCells_at (n : Nat) (op ar : Nat → Int) (j : Nat) (hj : j < n * 2) : (insCells n op ar)[j]? = some (if j % 2 = 0 then .int .i64 (op (j / 2)) else .int .i64 (ar (j / 2))) := by
  simp [insCells, hj]
theorem insCells_one (n : Nat) (op ar : Nat → Int) : ∀ u ∈ insCells n op ar, u.oneCell' = true := by
  intro u hu
  simp only [insCells, List.mem_map] at hu
  obtain ⟨j, _, rfl⟩ := hu
  split <;> rfl

theorem insCells_code {w : World} {g n : Nat} {op ar : Nat → Int} (h : ∀ j u, (insCells n op ar)[j]? = some u → w.cell? ⟨g, j, none⟩ = some u) : CodeAt w g 0 n op ar := by
  intro i hi
  have h0 := h (i * 2) _ (insCells_at n op ar (i * 2) (by omega))
  have h1 := h (i * 2 + 1) _ (insCells_at n op ar (i * 2 + 1) (by omega))
  rw [if_pos (by omega), show i * 2 / 2 = i by omega] at h0
  rw [if_neg (by omega), show (i * 2 + 1) / 2 = i by omega] at h1
  simp only [Nat.zero_add]
  exact ⟨h0, h1⟩

theorem code_insCells {w : World} {b off n : Nat} {op ar : Nat → Int} (h : CodeAt w b off n op ar) : ∀ j u, (insCells n op ar)[j]? = some u → w.cell? ⟨b, off + j, none⟩ = some u := by
  intro j u hu
  obtain ⟨hj, rfl⟩ := insCells_get n op ar j u hu
  obtain ⟨h0, h1⟩ := h (j / 2) (by omega)
  by_cases e : j % 2 = 0
  · rw [if_pos e, show off + j = off + j / 2 * 2 by omega]; exact h0
  · rw [if_neg e, show off + j = off + j / 2 * 2 + 1 by omega]; exact h1

/-- The cells of m functions. -/
def funCell (F : Nat → PF) (CA : Nat → Option Addr) (CC : Nat → Nat) (j : Nat) : Value :=
  if j % 3 = 0 then .int .i64 (F (j / 3)).args else if j % 3 = 1 then .int .i64 (F (j / 3)).locals else .slice (CA (j / 3)) (F (j / 3)).cn (CC (j / 3))
def funCells (m : Nat) (F : Nat → PF) (CA : Nat → Option Addr) (CC : Nat → Nat) : List Value := (List.range (m * 3)).map (funCell F CA CC)
theorem funCells_len (m : Nat) (F : Nat → PF) (CA : Nat → Option Addr) (CC : Nat → Nat) : (funCells m F CA CC).length = m * 3 := by simp [funCells]
theorem funCells_at (m : Nat) (F : Nat → PF) (CA : Nat → Option Addr) (CC : Nat → Nat) (j : Nat) (hj : j < m * 3) : (funCells m F CA CC)[j]? = some (funCell F CA CC j) := by
  simp [funCells, hj]
theorem funCells_one (m : Nat) (F : Nat → PF) (CA : Nat → Option Addr) (CC : Nat → Nat) : ∀ u ∈ funCells m F CA CC, u.oneCell' = true := by
  intro u hu
  simp only [funCells, List.mem_map] at hu
  obtain ⟨j, _, rfl⟩ := hu
  unfold funCell
  split
  · rfl
  · split <;> rfl
theorem prog_funCells {w : World} {pb po m : Nat} {F : Nat → PF} {CA : Nat → Option Addr} {CC : Nat → Nat} (h : ProgAt w pb po m F CA CC) : ∀ j u, (funCells m F CA CC)[j]? = some u → w.cell? ⟨pb, po + j, none⟩ = some u := by
  intro j u hu
  have hj : j < m * 3 := by
    have := (List.getElem?_eq_some_iff.1 hu).1
    rwa [funCells_len] at this
  rw [funCells_at m F CA CC j hj] at hu
  obtain rfl := Option.some.inj hu
  obtain ⟨h0, h1, h2, _⟩ := h.fn (j / 3) (by omega)
  unfold funCell
  by_cases e0 : j % 3 = 0
  · rw [if_pos e0, show po + j = po + j / 3 * 3 by omega]; exact h0
  · by_cases e1 : j % 3 = 1
    · rw [if_neg e0, if_pos e1, show po + j = po + j / 3 * 3 + 1 by omega]; exact h1
    · rw [if_neg e0, if_neg e1, show po + j = po + j / 3 * 3 + 2 by omega]; exact h2
theorem funCells_fn {w : World} {g m : Nat} {F : Nat → PF} {CA : Nat → Option Addr} {CC : Nat → Nat} (h : ∀ j u, (funCells m F CA CC)[j]? = some u → w.cell? ⟨g, j, none⟩ = some u) (k : Nat) (hk : k < m) :
    w.cell? ⟨g, 0 + k * 3, none⟩ = some (.int .i64 (F k).args) ∧ w.cell? ⟨g, 0 + k * 3 + 1, none⟩ = some (.int .i64 (F k).locals) ∧ w.cell? ⟨g, 0 + k * 3 + 2, none⟩ = some (.slice (CA k) (F k).cn (CC k)) := by
  have h0 := h (k * 3) _ (funCells_at m F CA CC (k * 3) (by omega))
  have h1 := h (k * 3 + 1) _ (funCells_at m F CA CC (k * 3 + 1) (by omega))
  have h2 := h (k * 3 + 2) _ (funCells_at m F CA CC (k * 3 + 2) (by omega))
  unfold funCell at h0 h1 h2
  rw [if_pos (by omega), show k * 3 / 3 = k by omega] at h0
  rw [if_neg (by omega), if_pos (by omega), show (k * 3 + 1) / 3 = k by omega] at h1
  rw [if_neg (by omega), if_neg (by omega), show (k * 3 + 2) / 3 = k by omega] at h2
  simp only [Nat.zero_add]
  exact ⟨h0, h1, h2⟩

set_option maxHeartbeats 400000 in
theorem clone19_any (cb co cc n : Nat) (op ar : Nat → Int) (w : World) (hn : 1 ≤ n) (hn64 : n ≤ 64) (hcb : cb < w.heap.size) (hc : CodeAt w cb co n op ar) :
    Calls Tryz.prog 51 #[.slice (some ⟨cb, co, none⟩) n cc] w fun e w' => ∃ g cap, e = .returned (.slice (some ⟨g, 0, none⟩) n cap) ∧ Below w.heap.size w w' ∧ w.heap.size ≤ g ∧ g < w'.heap.size ∧ CodeAt w' g 0 n op ar := by
  have hnil := fun wx => Lib.run_eql_slice_nil (P := Tryz.prog) wx 29 33 (some ⟨cb, co, none⟩) n cc 0 0 Tryz.underlying29
  obtain ⟨cap, w2, hrun, hB, hz, hcells, hfz⟩ := append_clone (P := Tryz.prog) 29 33 _ 2 16 Tryz.underlying29 Tryz.info33 (some ⟨w.heap.size, 0, none⟩) ⟨cb, co, none⟩ n cc (insCells n op ar) (insCells_len _ _ _) (insCells_one _ _ _) hn (by omega) (by omega) (w.alloc (.cells #[] 33))
    (fun j u hu => by rw [Addr.add_lit]; exact ((Below.cell ((Below.refl w.heap.size w).alloc (Nat.le_refl _) (.cells #[] 33)) (p := ⟨cb, co + j, none⟩) hcb)).trans (code_insCells hc j u hu))
  rw [World.size_alloc] at hrun hB hz hcells hfz
  have HX := hid (And.intro hB (And.intro hz (insCells_code hcells)))
  have HR := hid hrun
  clear hB hz hcells hfz hrun hc
  go_enter Tryz.func51, Tryz.ntmps51
  go_wp2_with (at_builtin; refine wpList_append_run _ rfl _ _ 29 rfl _ _ _ _ rfl rfl HR.out ?_)
  go_ret
  obtain ⟨hB, hz, hcells⟩ := HX.out
  exact ⟨_, _, rfl, ((Below.refl _ _).alloc (Nat.le_refl _) _).trans (hB.mono (by omega)), by omega, by omega, hcells⟩

/-- k functions of a copy in block g have code of their own. -/
def Cp (w wr : World) (g k m : Nat) (F : Nat → PF) : Prop :=
  ∃ (CA : Nat → Option Addr) (CC : Nat → Nat), ∀ j, j < m → FunAt wr g 0 j (F j) (CA j) (CC j) ∧ ∃ cb co, CA j = some ⟨cb, co, none⟩ ∧ cb ≠ g ∧ (j < k → w.heap.size ≤ cb)

theorem Cp.step {w wr w2 : World} {g k m h cap : Nat} {F : Nat → PF} (hc : Cp w wr g k m F) (hk : k < m) (hB : Below wr.heap.size wr w2) (hg : g < wr.heap.size) (hh : wr.heap.size ≤ h) (hh2 : h < w2.heap.size) (hw : w.heap.size ≤ wr.heap.size) (hcode : CodeAt w2 h 0 (F k).cn (F k).op (F k).ar) :
    Cp w (w2.setCell ⟨g, k * 3 + 2, none⟩ (.slice (some ⟨h, 0, none⟩) (F k).cn cap)) g (k + 1) m F := by
  obtain ⟨CA, CC, hj⟩ := hc
  have hset : ∀ (b o : Nat), ¬ (b = g ∧ o = k * 3 + 2) → (w2.setCell ⟨g, k * 3 + 2, none⟩ (.slice (some ⟨h, 0, none⟩) (F k).cn cap)).cell? ⟨b, o, none⟩ = w2.cell? ⟨b, o, none⟩ := by
    intro b o hne
    refine World.cell?_setCell_other _ _ _ _ ?_
    intro e
    injection e with e1 e2
    exact hne ⟨e1.symm, e2.symm⟩
  have hsz : (w2.setCell ⟨g, k * 3 + 2, none⟩ (.slice (some ⟨h, 0, none⟩) (F k).cn cap)).heap.size = w2.heap.size := by simp [World.setCell]
  have hs2 := hB.size
  refine ⟨upd CA k (some ⟨h, 0, none⟩), upd CC k cap, fun j hjm => ?_⟩
  by_cases e : j = k
  · subst e
    rw [upd_same, upd_same]
    obtain ⟨⟨h0, h1, h2, _⟩, _⟩ := hj j hjm
    refine ⟨⟨?_, ?_, ?_, fun _ => ⟨h, 0, rfl, by rw [hsz]; exact hh2, fun i hi => ?_⟩⟩, h, 0, rfl, by omega, fun _ => by omega⟩
    · rw [hset _ _ (by omega)]; exact (hB.cell (p := ⟨g, _, none⟩) hg).trans h0
    · rw [hset _ _ (by omega)]; exact (hB.cell (p := ⟨g, _, none⟩) hg).trans h1
    · have hx := (hB.cell (p := ⟨g, 0 + j * 3 + 2, none⟩) hg).trans h2
      rw [Nat.zero_add] at hx ⊢
      exact World.cell?_setCell_same _ _ _ hx
    · rw [hset _ _ (by omega), hset _ _ (by omega)]; exact hcode i hi
  · rw [upd_other _ _ _ _ e, upd_other _ _ _ _ e]
    obtain ⟨⟨h0, h1, h2, h3⟩, cb, co, ec, hne, hold⟩ := hj j hjm
    have H3 := hid h3
    clear h3 hj
    refine ⟨⟨?_, ?_, ?_, fun hn => ?_⟩, cb, co, ec, hne, fun hlt => hold (by omega)⟩
    · rw [hset _ _ (by omega)]; exact (hB.cell (p := ⟨g, _, none⟩) hg).trans h0
    · rw [hset _ _ (by omega)]; exact (hB.cell (p := ⟨g, _, none⟩) hg).trans h1
    · rw [hset _ _ (by omega)]; exact (hB.cell (p := ⟨g, _, none⟩) hg).trans h2
    · obtain ⟨cb', co', ec', hl, hcc⟩ := H3.out hn
      rw [ec] at ec'
      injection ec' with ec'
      injection ec' with e1 e2
      subst e1
      subst e2
      refine ⟨cb, co, ec, by rw [hsz]; omega, fun i hi => ?_⟩
      rw [hset _ _ (by omega), hset _ _ (by omega)]
      exact (hcc.below hB hl) i hi

set_option maxHeartbeats 1000000 in
theorem copied_any (pb po pc m : Nat) (F : Nat → PF) (CA : Nat → Option Addr) (CC : Nat → Nat) (w : World) (hP : ProgAt w pb po m F CA CC) (hm : 1 ≤ m) (hm8 : m ≤ 8) (hcn : ∀ k, k < m → 1 ≤ (F k).cn ∧ (F k).cn ≤ 64) :
    Calls Tryz.prog 35 #[.slice (some ⟨pb, po, none⟩) m pc] w fun e w' => ∃ g cap, e = .returned (.slice (some ⟨g, 0, none⟩) m cap) ∧ Below w.heap.size w w' ∧ w.heap.size ≤ g ∧ g < w'.heap.size ∧ Cp w w' g m m F := by
  have hcl := clone18_any pb po pc m (funCells m F CA CC) w hm hm8 (funCells_len _ _ _ _) (funCells_one _ _ _ _) hP.lt (prog_funCells hP)
  have HC := hid hcl
  have HP := hid hP
  have HN := hid hcn
  clear hcl hP hcn
  go_enter Tryz.func35, Tryz.ntmps35
  go_wp2_with fail
  refine HC.out.mono ?_
  rintro e w2 ⟨g, cap, rfl, hB, hg1, hg2, hcells, hfz⟩
  have hcp : Cp w w2 g 0 m F := by
    refine ⟨CA, CC, fun j hj => ?_⟩
    obtain ⟨a0, a1, a2⟩ := funCells_fn hcells j hj
    have hf := (HP.out.below hB (Nat.le_refl _)).fn j hj
    obtain ⟨cb, co, ec, hl, hcc⟩ := (HP.out.fn j hj).code (HN.out j hj).1
    exact ⟨⟨a0, a1, a2, hf.code⟩, cb, co, ec, by omega, fun h => by omega⟩
  have HS := hid (And.intro hB (And.intro hcp hfz))
  clear hB hcells hfz hcp HC HP
  go_wp2
  go_loopw [9] (fun v wr => ∃ k : Nat, k ≤ m ∧ v = .int .i64 k ∧ Below w.heap.size w wr ∧ Cp w wr g k m F ∧ (∀ j, wr.frozen? ⟨g, j, none⟩ = false) ∧ g < wr.heap.size) (fun v _ => m - (intOf v).toNat)
  case atStart => exact ⟨0, Nat.zero_le _, rfl, HS.out.1, HS.out.2.1, HS.out.2.2, hg2⟩
  case round =>
    clear HS
    obtain ⟨k, hk, rfl, hB, hC, hfz, hgr⟩ := hrel
    by_cases hlt : k < m
    · have hC' := hC
      obtain ⟨CA', CC', hj⟩ := hC'
      obtain ⟨⟨h0, h1, h2, h3⟩, _⟩ := hj k hlt
      obtain ⟨cb, co, ec, hl, hcc⟩ := h3 (HN.out k hlt).1
      rw [ec, Nat.zero_add] at h2
      have hcon := clone19_any cb co (CC' k) (F k).cn (F k).op (F k).ar wr (HN.out k hlt).1 (HN.out k hlt).2 hl hcc
      have HC := hid hcon
      have HK := hid (And.intro hB hC)
      have hwr : w.heap.size ≤ wr.heap.size := hB.size
      clear hcon hB hC hj h0 h1 h3 hcc
      have hstep := fun w3 h cap => HK.out.2.step (w2 := w3) (h := h) (cap := cap) hlt
      have HT := hid hstep
      clear hstep
      generalize (F k).cn = cn at *
      go_wp2_with fail
      refine HC.out.mono ?_
      rintro e w3 ⟨h, cap', rfl, hB3, hh1, hh2, hc3⟩
      have g2 : w3.cell? ⟨g, k * 3 + 2, none⟩ = some (.slice (some ⟨cb, co, none⟩) cn (CC' k)) := (hB3.cell (p := ⟨g, _, none⟩) hgr).trans h2
      have f2 : w3.frozen? ⟨g, k * 3 + 2, none⟩ = false := (hB3.frozen (p := ⟨g, _, none⟩) hgr).trans (hfz _)
      have hg3 : g < w3.heap.size := by have := hB3.size; omega
      have HZ : Hid (Below w.heap.size w (w3.setCell ⟨g, k * 3 + 2, none⟩ (.slice (some ⟨h, 0, none⟩) cn cap')) ∧ Cp w (w3.setCell ⟨g, k * 3 + 2, none⟩ (.slice (some ⟨h, 0, none⟩) cn cap')) g (k + 1) m F ∧ (∀ j, (w3.setCell ⟨g, k * 3 + 2, none⟩ (.slice (some ⟨h, 0, none⟩) cn cap')).frozen? ⟨g, j, none⟩ = false) ∧ g < (w3.setCell ⟨g, k * 3 + 2, none⟩ (.slice (some ⟨h, 0, none⟩) cn cap')).heap.size) := by
        refine ⟨(HK.out.1.trans (hB3.mono hwr)).setCell hg1 _, HT.out w3 h cap' hB3 hgr hh1 hh2 hwr hc3, fun j => ?_, by simpa [World.setCell] using hg3⟩
        rw [World.frozen?_setCell]
        exact (hB3.frozen (p := ⟨g, _, none⟩) hgr).trans (hfz _)
      clear hB3 hc3 HC h2 hfz
      go_wp2
      go_roundw
      case rel => exact ⟨k + 1, by omega, by go_num, HZ.out⟩
      case measure => simp [intOf]; omega
    · obtain rfl : k = m := by omega
      have HZ := hid (And.intro hB hC)
      clear hB hC hfz
      go_wp2
      go_ret
      exact ⟨g, cap, rfl, HZ.out.1, hg1, hgr, HZ.out.2⟩
end Go.Proofs.YtkafkipjedpohaaGreatDoor

/-
  upshift.Load.
-/
namespace Go.Proofs.YtkafkipjedpohaaGreatDoor
open Go.RowKit

theorem progP_fine {m : Nat} {F : Nat → PF} (h : (progP m F).1 = 0) : 1 ≤ m ∧ m ≤ 8 ∧ progP m F = (0, 0, 0) ∧ ∀ k, k < m → 1 ≤ (F k).cn ∧ (F k).cn ≤ 64 := by
  by_cases hm : m < 1 ∨ 8 < m
  · rw [progP_size hm] at h; simp at h
  · rcases leastP_spec (faultP m F) m with ⟨h1, h2, h3⟩ | ⟨h1, h2⟩
    · have hne : (funP m (leastP (faultP m F) m) (F (leastP (faultP m F) m))).1 ≠ 0 := by simpa [faultP] using h2
      rw [progP_bad hm h1 hne h3] at h
      exact absurd h hne
    · refine ⟨by omega, by omega, progP_ok hm h2, fun k hk => ?_⟩
      have hf : (funP m k (F k)).1 = 0 := by
        have := h2 k hk
        simpa [faultP] using this
      cases hs : sizesP (F k)
      · rw [funP_size (Or.inl hs)] at hf; simp at hf
      · unfold sizesP at hs
        simp only [Bool.and_eq_true, decide_eq_true_eq] at hs
        exact hs.2

/-- A code: a pointer to a block that holds a copy of the program. -/
def CodeIs (w w' : World) (v : Value) (m : Nat) (F : Nat → PF) : Prop :=
  ∃ b g cap, v = .pointer (some ⟨b, 0, none⟩) ∧ w.heap.size ≤ b ∧ b < w'.heap.size ∧ w'.cell? ⟨b, 0, none⟩ = some (.slice (some ⟨g, 0, none⟩) m cap) ∧ w.heap.size ≤ g ∧ g < w'.heap.size ∧ b ≠ g ∧ Cp w w' g m m F

set_option maxHeartbeats 1000000 in
theorem load_bad (p : Option Addr) (pc m : Nat) (F : Nat → PF) (w : World) (hne : (progP m F).1 ≠ 0)
    (hcon : Calls Tryz.prog 34 #[.slice p m pc] w fun e w' => e = .returned (.tuple #[.int .i64 (progP m F).1, .int .i64 (progP m F).2.1, .int .i64 (progP m F).2.2]) ∧ Below w.heap.size w w') :
    Calls Tryz.prog 17 #[.slice p m pc] w fun e w' =>
      e = .returned (.tuple #[.pointer none, .int .i64 (progP m F).1, .int .i64 (progP m F).2.1, .int .i64 (progP m F).2.2]) ∧ Below w.heap.size w w' := by
  have HC := hid hcon
  clear hcon
  have hb : ((progP m F).1 != 0) = true := by simpa using hne
  clear hne
  generalize progP m F = R at *
  go_enter Tryz.func17, Tryz.ntmps17
  go_wp2_with fail
  refine HC.out.mono ?_
  rintro e w2 ⟨rfl, hB⟩
  have HB := hid hB
  clear hB HC
  go_wp2
  exact bodyPost_ret (v := .tuple #[.pointer none, .int .i64 R.1, .int .i64 R.2.1, .int .i64 R.2.2]) (by simp [results, Tryz.results17, go_sem]) rfl ⟨rfl, HB.out⟩

set_option maxHeartbeats 1000000 in
theorem load_fine (pb po pc m : Nat) (F : Nat → PF) (CA : Nat → Option Addr) (CC : Nat → Nat) (w : World) (hP : ProgAt w pb po m F CA CC) (ht : TabAt w) (h0 : (progP m F).1 = 0) :
    Calls Tryz.prog 17 #[.slice (some ⟨pb, po, none⟩) m pc] w fun e w' =>
      ∃ v, e = .returned (.tuple #[v, .int .i64 0, .int .i64 0, .int .i64 0]) ∧ Below w.heap.size w w' ∧ CodeIs w w' v m F := by
  obtain ⟨hm, hm8, hR, hcn⟩ := progP_fine h0
  have hcon := program_any pb po pc m F CA CC w hP (by omega) ht
  rw [hR] at hcon
  have HC := hid hcon
  have HP := hid hP
  have HN := hid hcn
  clear hcon hP hcn h0 hR ht
  go_enter Tryz.func17, Tryz.ntmps17
  go_wp2_with fail
  refine HC.out.mono ?_
  rintro e w2 ⟨rfl, hB⟩
  have hcop := copied_any pb po pc m F CA CC w2 (HP.out.below hB (Nat.le_refl _)) hm hm8 HN.out
  have HC2 := hid hcop
  have HB := hid hB
  clear hB HC hcop
  go_wp2_with fail
  refine HC2.out.mono ?_
  rintro e w3 ⟨g, cap, rfl, hB3, hg1, hg2, hcp⟩
  have HX := hid (And.intro hB3 hcp)
  clear hB3 hcp HC2
  go_wp2
  refine bodyPost_ret (v := .tuple #[.pointer (some ⟨w3.heap.size, 0, none⟩), .int .i64 0, .int .i64 0, .int .i64 0]) (by simp [results, Tryz.results17, go_sem]) rfl ⟨_, rfl, ?_, ?_⟩
  · exact (HB.out.trans (HX.out.1.mono HB.out.size)).alloc (by have := HB.out.size; have := HX.out.1.size; omega) _
  · have e1 := HB.out.size
    have e2 := HX.out.1.size
    refine ⟨w3.heap.size, g, cap, rfl, by omega, by simp, cell_new _ _ _ _ _ rfl, by omega, by simp; omega, by omega, ?_⟩
    obtain ⟨CA', CC', hj⟩ := HX.out.2
    refine ⟨CA', CC', fun j hjm => ?_⟩
    obtain ⟨hf, cb, co, ec, hne, hold⟩ := hj j hjm
    exact ⟨hf.below ((Below.refl w3.heap.size w3).alloc (Nat.le_refl _) _) (Nat.le_refl _) hg2, cb, co, ec, hne, fun hl => by have := hold hl; omega⟩
end Go.Proofs.YtkafkipjedpohaaGreatDoor

/-
  The walk of upshiftref.Load.
-/
namespace Go.Proofs.YtkafkipjedpohaaGreatDoor
open Go.RowKit

set_option maxHeartbeats 1000000 in
theorem refLoad_size (p : Option Addr) (pc m : Nat) (F : Nat → PF) (w : World) (h : m < 1 ∨ 8 < m) :
    Calls Tryz.prog 75 #[.slice p m pc] w fun e w' =>
      e = .returned (.tuple #[.int .i64 (progP m F).1, .int .i64 (progP m F).2.1, .int .i64 (progP m F).2.2]) ∧ Below w.heap.size w w' := by
  rw [progP_size h]
  by_cases h0 : m = 0
  · have hb : ((m : Int) == 0) = true := by simpa using h0
    clear h h0
    go_enter Tryz.func75, Tryz.ntmps75
    go_wp2
    go_ret3
    exact ⟨rfl, Below.refl _ _⟩
  · have hb : ((m : Int) == 0) = false := by simp; omega
    have h8 : 8 < m := by omega
    clear h h0
    go_enter Tryz.func75, Tryz.ntmps75
    go_wp2
    go_ret3
    exact ⟨rfl, Below.refl _ _⟩

set_option maxRecDepth 100000 in
set_option maxHeartbeats 2000000 in
theorem refLoad_any (pb po pc m : Nat) (F : Nat → PF) (CA : Nat → Option Addr) (CC : Nat → Nat) (w : World) (hP : ProgAt w pb po m F CA CC) (h : ¬ (m < 1 ∨ 8 < m)) :
    Calls Tryz.prog 75 #[.slice (some ⟨pb, po, none⟩) m pc] w fun e w' =>
      e = .returned (.tuple #[.int .i64 (progP m F).1, .int .i64 (progP m F).2.1, .int .i64 (progP m F).2.2]) ∧ Below w.heap.size w w' := by
  have hb : ((m : Int) == 0) = false := by simp; omega
  have h8 : m ≤ 8 := by omega
  have HX : Hid (ProgAt w pb po m F CA CC ∧ ¬ (m < 1 ∨ 8 < m)) := ⟨hP, h⟩
  have hpw : pb < w.heap.size := hP.lt
  clear h hP
  generalize hR : progP m F = R
  have HR := hid hR
  clear hR
  go_enter Tryz.func75, Tryz.ntmps75
  go_wp2
  go_loopw [5] (fun v wr => ∃ k : Nat, k ≤ m ∧ v = .int .i64 k ∧ (∀ i, i < k → faultP m F i = false) ∧ Below w.heap.size w wr) (fun v _ => m - (intOf v).toNat)
  case atStart => exact ⟨0, Nat.zero_le _, rfl, fun i hi => by omega, Below.refl _ _⟩
  case round =>
    obtain ⟨k, hk, rfl, hno, hB⟩ := hrel
    by_cases hlt : k < m
    · obtain ⟨c0, c1, c2, hcode⟩ := ((HX.out.1).below hB (Nat.le_refl _)).fn k hlt
      have hsz := hB.size
      have HN : Hid ((∀ i, i < k → faultP m F i = false) ∧ Below w.heap.size w wr ∧ (1 ≤ (F k).cn → ∃ cb co, CA k = some ⟨cb, co, none⟩ ∧ cb < wr.heap.size ∧ CodeAt wr cb co (F k).cn (F k).op (F k).ar)) := ⟨hno, hB, hcode⟩
      clear hno hB hcode
      by_cases hbad : sizesP (F k) = false ∨ (k = 0 ∧ (F k).args ≠ 0)
      · have HY : Hid (R = (1, (k : Int), 0)) := by
          unfold Hid
          rw [← HR.out, progP_bad HX.out.2 hlt (by rw [funP_size hbad]; simp) HN.out.1, funP_size hbad]
        have hcases : (F k).locals < 0 ∨ (¬ (F k).locals < 0 ∧ 8 < (F k).locals) ∨ (¬ (F k).locals < 0 ∧ ¬ 8 < (F k).locals ∧ (F k).args < 0) ∨ (¬ (F k).locals < 0 ∧ ¬ 8 < (F k).locals ∧ ¬ (F k).args < 0 ∧ (F k).locals < (F k).args) ∨ (¬ (F k).locals < 0 ∧ ¬ 8 < (F k).locals ∧ ¬ (F k).args < 0 ∧ ¬ (F k).locals < (F k).args ∧ (F k).cn = 0) ∨ (¬ (F k).locals < 0 ∧ ¬ 8 < (F k).locals ∧ ¬ (F k).args < 0 ∧ ¬ (F k).locals < (F k).args ∧ ¬ (F k).cn = 0 ∧ 64 < (F k).cn) ∨ (¬ (F k).locals < 0 ∧ ¬ 8 < (F k).locals ∧ ¬ (F k).args < 0 ∧ ¬ (F k).locals < (F k).args ∧ ¬ (F k).cn = 0 ∧ ¬ 64 < (F k).cn ∧ k = 0 ∧ (F k).args ≠ 0) := by
          rcases hbad with hs | hs
          · unfold sizesP at hs
            simp only [Bool.and_eq_false_iff, decide_eq_false_iff_not] at hs
            omega
          · omega
        clear hbad
        generalize (F k).args = ag at *
        generalize (F k).locals = lc at *
        generalize (F k).cn = cn at *
        generalize CA k = ca at *
        rcases hcases with a1 | ⟨a1, a2⟩ | ⟨a1, a2, a3⟩ | ⟨a1, a2, a3, a4⟩ | ⟨a1, a2, a3, a4, a5⟩ | ⟨a1, a2, a3, a4, a5, a6⟩ | ⟨a1, a2, a3, a4, a5, a6, a7, a8⟩
        · go_wp2
          go_ret3
          rw [HY.out]
          exact ⟨rfl, HN.out.2.1.alloc (by omega) _⟩
        · have b1 : decide (lc < 0) = false := by simpa using a1
          go_wp2
          go_ret3
          rw [HY.out]
          exact ⟨rfl, HN.out.2.1.alloc (by omega) _⟩
        · have b1 : decide (lc < 0) = false := by simpa using a1
          have b2 : decide (8 < lc) = false := by simpa using a2
          go_wp2
          go_ret3
          rw [HY.out]
          exact ⟨rfl, HN.out.2.1.alloc (by omega) _⟩
        · have b1 : decide (lc < 0) = false := by simpa using a1
          have b2 : decide (8 < lc) = false := by simpa using a2
          have b3 : decide (ag < 0) = false := by simpa using a3
          go_wp2
          go_ret3
          rw [HY.out]
          exact ⟨rfl, HN.out.2.1.alloc (by omega) _⟩
        · have b1 : decide (lc < 0) = false := by simpa using a1
          have b2 : decide (8 < lc) = false := by simpa using a2
          have b3 : decide (ag < 0) = false := by simpa using a3
          have b4 : decide (lc < ag) = false := by simpa using a4
          have b5 : ((cn : Int) == 0) = true := by simpa using a5
          clear a5
          go_wp2
          go_ret3
          rw [HY.out]
          exact ⟨rfl, HN.out.2.1.alloc (by omega) _⟩
        · have b1 : decide (lc < 0) = false := by simpa using a1
          have b2 : decide (8 < lc) = false := by simpa using a2
          have b3 : decide (ag < 0) = false := by simpa using a3
          have b4 : decide (lc < ag) = false := by simpa using a4
          have b5 : ((cn : Int) == 0) = false := by simpa using a5
          clear a5
          go_wp2
          go_ret3
          rw [HY.out]
          exact ⟨rfl, HN.out.2.1.alloc (by omega) _⟩
        · have b1 : decide (lc < 0) = false := by simpa using a1
          have b2 : decide (8 < lc) = false := by simpa using a2
          have b3 : decide (ag < 0) = false := by simpa using a3
          have b4 : decide (lc < ag) = false := by simpa using a4
          have b5 : ((cn : Int) == 0) = false := by simpa using a5
          have b6 : decide ((64 : Int) < (cn : Int)) = false := by simp; omega
          have b7 : ((k : Int) == 0) = true := by simpa using a7
          have b8 : (ag != 0) = true := by simpa using a8
          clear a5 a7 a8
          go_wp2
          go_ret3
          rw [HY.out]
          exact ⟨rfl, HN.out.2.1.alloc (by omega) _⟩
      · have hs : sizesP (F k) = true := by
          cases h : sizesP (F k)
          · exact absurd (Or.inl h) hbad
          · rfl
        unfold sizesP at hs
        simp only [Bool.and_eq_true, decide_eq_true_eq] at hs
        obtain ⟨⟨⟨hl0, hl8⟩, ha0, hal⟩, hn1, hn⟩ := hs
        obtain ⟨cb, co, hca, hcb, hc⟩ := HN.out.2.2 hn1
        rw [hca] at c2
        have hg : ((k : Int) == 0) = false ∨ (((k : Int) == 0) = true ∧ ((F k).args != 0) = false) := by
          by_cases e : k = 0
          · right
            have : (F k).args = 0 := by
              by_cases e2 : (F k).args = 0
              · exact e2
              · exact absurd (Or.inr ⟨e, e2⟩) hbad
            simp [e]; rw [e] at this; exact this
          · left; simp; omega
        have HZ : Hid (¬ (sizesP (F k) = false ∨ (k = 0 ∧ (F k).args ≠ 0)) ∧ CodeAt wr cb co (F k).cn (F k).op (F k).ar) := ⟨hbad, hc⟩
        clear hbad hc hca
        have HBx : Hid (Below w.heap.size w wr) := HN.out.2.1
        have HNo : Hid (∀ i, i < k → faultP m F i = false) := HN.out.1
        clear HN
        generalize hag : (F k).args = ag at *
        generalize hlc : (F k).locals = lc at *
        generalize hcn : (F k).cn = cn at *
        have HE : Hid ((F k).args = ag ∧ (F k).locals = lc ∧ (F k).cn = cn) := ⟨hag, hlc, hcn⟩
        clear hag hlc hcn
        have b1 : decide (lc < 0) = false := by simpa using hl0
        have b2 : decide (8 < lc) = false := by simpa using hl8
        have b3 : decide (ag < 0) = false := by simpa using ha0
        have b4 : decide (lc < ag) = false := by simpa using hal
        have b5 : ((cn : Int) == 0) = false := by simp; omega
        have b6 : decide ((64 : Int) < (cn : Int)) = false := by simp; omega
        rcases hg with hg | ⟨hg, hg'⟩
        all_goals
          have hBW : Below w.heap.size w (wr.alloc (.cells #[.int .i64 ag, .int .i64 lc, .slice (some ⟨cb, co, none⟩) cn (CC k)] 31)) := HBx.out.alloc hsz _
          have hCW : CodeAt (wr.alloc (.cells #[.int .i64 ag, .int .i64 lc, .slice (some ⟨cb, co, none⟩) cn (CC k)] 31)) cb co cn (F k).op (F k).ar := HZ.out.2.below ((Below.refl wr.heap.size wr).alloc (Nat.le_refl _) _) hcb
          have d0 : (wr.alloc (.cells #[.int .i64 ag, .int .i64 lc, .slice (some ⟨cb, co, none⟩) cn (CC k)] 31)).cell? ⟨wr.heap.size, 0, none⟩ = some (.int .i64 ag) := cell_new _ _ _ _ _ rfl
          have d1 : (wr.alloc (.cells #[.int .i64 ag, .int .i64 lc, .slice (some ⟨cb, co, none⟩) cn (CC k)] 31)).cell? ⟨wr.heap.size, 1, none⟩ = some (.int .i64 lc) := cell_new _ _ _ _ _ rfl
          have d2 : (wr.alloc (.cells #[.int .i64 ag, .int .i64 lc, .slice (some ⟨cb, co, none⟩) cn (CC k)] 31)).cell? ⟨wr.heap.size, 2, none⟩ = some (.slice (some ⟨cb, co, none⟩) cn (CC k)) := cell_new _ _ _ _ _ rfl
          have hzW : wr.heap.size < (wr.alloc (.cells #[.int .i64 ag, .int .i64 lc, .slice (some ⟨cb, co, none⟩) cn (CC k)] 31)).heap.size := by simp
          have HW : Hid (Below w.heap.size w (wr.alloc (.cells #[.int .i64 ag, .int .i64 lc, .slice (some ⟨cb, co, none⟩) cn (CC k)] 31)) ∧ CodeAt (wr.alloc (.cells #[.int .i64 ag, .int .i64 lc, .slice (some ⟨cb, co, none⟩) cn (CC k)] 31)) cb co cn (F k).op (F k).ar ∧ (wr.alloc (.cells #[.int .i64 ag, .int .i64 lc, .slice (some ⟨cb, co, none⟩) cn (CC k)] 31)).cell? ⟨wr.heap.size, 0, none⟩ = some (.int .i64 ag) ∧ (wr.alloc (.cells #[.int .i64 ag, .int .i64 lc, .slice (some ⟨cb, co, none⟩) cn (CC k)] 31)).cell? ⟨wr.heap.size, 1, none⟩ = some (.int .i64 lc) ∧ (wr.alloc (.cells #[.int .i64 ag, .int .i64 lc, .slice (some ⟨cb, co, none⟩) cn (CC k)] 31)).cell? ⟨wr.heap.size, 2, none⟩ = some (.slice (some ⟨cb, co, none⟩) cn (CC k)) ∧ wr.heap.size < (wr.alloc (.cells #[.int .i64 ag, .int .i64 lc, .slice (some ⟨cb, co, none⟩) cn (CC k)] 31)).heap.size) := ⟨hBW, hCW, d0, d1, d2, hzW⟩
          clear hBW hCW d0 d1 d2 hzW
          go_wp2
          clear c0 c1 c2 b1 b2 b3 b4 b5 b6
          have HZ1 : Hid (¬ (sizesP (F k) = false ∨ (k = 0 ∧ ag ≠ 0))) := HZ.out.1
          clear HZ HBx
          generalize wr.alloc (.cells #[.int .i64 ag, .int .i64 lc, .slice (some ⟨cb, co, none⟩) cn (CC k)] 31) = W at *
          generalize wr.heap.size = bo at *
          go_loopw [8] (fun v wz => ∃ j : Nat, j ≤ cn ∧ v = .int .i64 j ∧ (∀ i, i < j → badP m (F k) i = false) ∧ Below w.heap.size w wz ∧ CodeAt wz cb co cn (F k).op (F k).ar ∧ wz.cell? ⟨bo, 0, none⟩ = some (.int .i64 ag) ∧ wz.cell? ⟨bo, 1, none⟩ = some (.int .i64 lc) ∧ wz.cell? ⟨bo, 2, none⟩ = some (.slice (some ⟨cb, co, none⟩) cn (CC k)) ∧ bo < wz.heap.size) (fun v _ => cn - (intOf v).toNat)
          case atStart => exact ⟨0, Nat.zero_le _, rfl, fun i hi => by omega, HW.out⟩
          case round =>
            clear HW
            obtain ⟨j, hj, rfl, hnb, hB, hC, e0, e1, e2, hzo⟩ := hrel
            by_cases hlj : j < cn
            · have x0 := (hC j hlj).1
              have x1 := (hC j hlj).2
              have hcz : cb < wr.heap.size := by omega
              have hbad : badP m (F k) j = !legalP ((F k).op j) ((F k).ar j) lc cn m := by unfold badP; rw [HE.out.2.1, HE.out.2.2]
              have HN : Hid ((∀ i, i < j → badP m (F k) i = false) ∧ Below w.heap.size w wr ∧ CodeAt wr cb co cn (F k).op (F k).ar ∧ badP m (F k) j = !legalP ((F k).op j) ((F k).ar j) lc cn m) := ⟨hnb, hB, hC, hbad⟩
              clear hnb hB hC hbad
              have j0 : (0 : Int) ≤ (j : Int) := by omega
              have j1 : (j : Int) < (cn : Int) := by omega
              generalize hoj : (F k).op j = oj at *
              generalize haj : (F k).ar j = aj at *
              clear hoj haj
              go_wp2
              go_region_held3 (fun w' => w'.cell? ⟨bo, 0, none⟩ = some (.int .i64 ag) ∧ w'.cell? ⟨bo, 1, none⟩ = some (.int .i64 lc) ∧ w'.cell? ⟨bo, 2, none⟩ = some (.slice (some ⟨cb, co, none⟩) cn (CC k)) ∧ w'.cell? ⟨cb, co + j * 2, none⟩ = some (.int .i64 oj) ∧ w'.cell? ⟨cb, co + j * 2 + 1, none⟩ = some (.int .i64 aj)) (go_keep)
                (first | (go_at_call 96; refine (legal_any _ _ _ _ _ _ _ _ _).mono ?_; rintro e w2 ⟨rfl, hB2⟩; have q0 := (hB2.cell (p := ⟨bo, 0, none⟩) hzo).trans e0; have q1 := (hB2.cell (p := ⟨bo, 1, none⟩) hzo).trans e1; have q2 := (hB2.cell (p := ⟨bo, 2, none⟩) hzo).trans e2; have q3 := (hB2.cell (p := ⟨cb, co + j * 2, none⟩) hcz).trans x0; have q4 := (hB2.cell (p := ⟨cb, co + j * 2 + 1, none⟩) hcz).trans x1))
              rename_i hheld
              have hB3 : Below w.heap.size w w2 := HN.out.2.1.drew.trans (hB2.mono (by show _ ≤ wr.heap.size; omega))
              have hC3 : CodeAt w2 cb co cn (F k).op (F k).ar := CodeAt.below (w := wr.drew) HN.out.2.2.1 hB2 hcz
              have hz3 : bo < w2.heap.size := by have : wr.heap.size ≤ w2.heap.size := hB2.size; omega
              have HB3 : Hid (Below w.heap.size w w2 ∧ CodeAt w2 cb co cn (F k).op (F k).ar) := ⟨hB3, hC3⟩
              clear hheld hB2 hB3 hC3 q3 q4 x0 x1 e0 e1 e2
              cases hleg : legalP oj aj lc cn m
              · have hbd := HN.out.2.2.2
                rw [hleg] at hbd
                have hfp := funP_bad (m := m) (k := k) (f := F k) (by rw [HE.out.1]; exact HZ1.out) (by rw [HE.out.2.2]; exact hlj) hbd HN.out.1
                have HY : Hid (R = (2, (k : Int), (j : Int))) := by
                  unfold Hid
                  rw [← HR.out, progP_bad HX.out.2 hlt (by rw [hfp]; simp) HNo.out, hfp]
                clear hbd hfp hleg
                go_wp2
                go_ret3
                rw [HY.out]
                exact ⟨rfl, HB3.out.1⟩
              · have hbd := HN.out.2.2.2
                rw [hleg] at hbd
                have HD : Hid (∀ i, i < j + 1 → badP m (F k) i = false) := fun i hi => by
                  by_cases e : i = j
                  · rw [e]; exact hbd
                  · exact HN.out.1 i (by omega)
                clear hbd hleg
                go_wp2
                go_roundw
                case rel => exact ⟨j + 1, by omega, by go_num, HD.out, HB3.out.1, HB3.out.2, q0, q1, q2, hz3⟩
                case measure => simp [intOf]; omega
            · obtain rfl : j = cn := by omega
              have hfp : funP m k (F k) = flowP j (F k).op (F k).ar (j + 1) s0 := by
                rw [funP_flow (by rw [HE.out.1]; exact HZ1.out) (by rw [HE.out.2.2]; exact hnb), HE.out.2.2]
              have hcon := heights_any cb co (CC k) j (F k).op (F k).ar wr hC (by omega) hn1 hn lc m (fun i hi => by
                have := bad_of_legal (hnb i hi); rw [HE.out.2.1, HE.out.2.2] at this; exact this)
              have hbadk := fun h1 => progP_bad (m := m) (F := F) HX.out.2 hlt h1 HNo.out
              rw [← hfp] at hcon
              rcases hff : funP m k (F k) with ⟨er, at'⟩
              rw [hff] at hcon hbadk
              simp only at hcon hbadk
              have HC := hid hcon
              have HM : Hid (funP m k (F k) = (er, at') ∧ (er ≠ 0 → progP m F = (er, (k : Int), at')) ∧ Below w.heap.size w wr) := ⟨hff, hbadk, hB⟩
              have hzz : w.heap.size ≤ wr.heap.size := hB.size
              clear hcon hbadk hff hfp hnb hB hC
              go_wp2_with fail
              refine HC.out.mono ?_
              rintro e w2 ⟨rfl, hB2⟩
              have HB2 : Hid (Below w.heap.size w w2) := HM.out.2.2.trans (hB2.mono hzz)
              clear hB2 HC e0 e1 e2
              by_cases her : er = 0
              · subst her
                have HY : Hid (∀ i, i < k + 1 → faultP m F i = false) := fun i hi => by
                  by_cases e : i = k
                  · subst e; unfold faultP; rw [HM.out.1]; simp
                  · exact HNo.out i (by omega)
                go_wp2
                go_roundw
                case rel => exact ⟨k + 1, by omega, by go_num, HY.out, HB2.out⟩
                case measure => simp [intOf]; omega
              · have hb : (er != 0) = true := by simpa using her
                have HY : Hid (R = (er, (k : Int), at')) := by unfold Hid; rw [← HR.out]; exact HM.out.2.1 her
                clear her
                go_wp2
                go_ret3
                rw [HY.out]
                exact ⟨rfl, HB2.out⟩
    · obtain rfl : k = m := by omega
      have HY : Hid (R = (0, 0, 0)) := by unfold Hid; rw [← HR.out]; exact progP_ok HX.out.2 hno
      have HB2 := hid hB
      clear hno hB
      go_wp2
      go_ret3
      rw [HY.out]
      exact ⟨rfl, HB2.out⟩
end Go.Proofs.YtkafkipjedpohaaGreatDoor
