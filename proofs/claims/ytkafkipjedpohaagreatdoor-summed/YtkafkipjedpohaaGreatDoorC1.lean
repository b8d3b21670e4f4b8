import Derived.Test.YtkafkipjedpohaaGreatDoorA6
import Derived.Test.YtkafkipjedpohaaGreatDoorB1
import Derived.Deep.AppendSrc

/-
  slices.Clone, twice; upshift.copied; upshift.Load.
-/
namespace Go.Proofs.YtkafkipjedpohaaGreatDoor
open Go.RowKit

/-- append of n elements to an empty slice: a new block that begins with their cells. -/
theorem append_cloneC {P : Program} (t e : TypeId) (z : Value) (size bytes : Nat) (ht : P.underlying t = some (.slice e)) (hinfo : (P.info? e).map (fun i => (i.zero, i.size, i.bytes)) = some (some z, size, bytes))
    (g : Option Addr) (a : Addr) (n c : Nat) (news : List Value) (hl : news.length = n * size) (h1 : ∀ u ∈ news, u.oneCell' = true) (hn : 1 ≤ n) (hb : n * bytes ≤ 281474976710656) (h63 : n ≤ 9223372036854775807)
    (w : World) (hnews : ∀ j u, news[j]? = some u → w.cell? (a.add j) = some u) :
    ∃ (cap : Nat) (w' : World), (Builtin.append_ #[t, t] t #[.slice g 0 0, .slice (some a) n c]).run P w = .ok (.slice (some ⟨w.heap.size, 0, none⟩) n cap) w' ∧ Below w.heap.size w w' ∧ w'.heap.size = w.heap.size + 1 ∧
      (∀ j u, news[j]? = some u → w'.cell? ⟨w.heap.size, j, none⟩ = some u) ∧ (∀ j, w'.frozen? ⟨w.heap.size, j, none⟩ = false) ∧ n ≤ cap := by
  obtain ⟨i, hi, hzz⟩ := Option.map_eq_some_iff.1 hinfo
  simp only [Prod.mk.injEq] at hzz
  obtain ⟨hz, hs, hby⟩ := hzz
  subst hs
  have hsrc : Src P i.size t (.slice (some a) n c) n news w := Src.ofSlice w ht a n c news hl hnews h1
  have hold : (Builtin.firstCells i.size 0 (.slice g 0 0)).run P w.drew = .ok ([] : List Value).toArray w.drew := by
    cases g with
    | none => exact run_firstCells_none w.drew i.size 0 0 0
    | some g => exact run_firstCells_some w.drew i.size 0 g 0 0 [] (by simp) (by simp)
  have hr := run_append_grow_src w t t t e i z ht hi hz g 0 0 [] hold (.slice (some a) n c) n news hsrc (by omega) (by omega) (by
    unfold Builtin.nextslicecap; rw [if_pos (by omega), hby]; simpa using hb)
  simp only [Nat.zero_add, List.nil_append] at hr
  refine ⟨_, _, hr, ?_, ?_, ?_, ?_, grownCap_ge w n 0 e⟩
  · exact (Below.refl _ _).drew.alloc (Nat.le_refl _) _
  · simp
  · intro j u hu
    have hj : j < news.length := by
      rw [List.getElem?_eq_some_iff] at hu
      exact hu.1
    rw [cell_new w.drew _ _ w.heap.size _ rfl, Array.getElem?_append_left (by simpa using hj)]
    simpa using hu
  · intro j
    unfold World.frozen?
    have : (w.drew.alloc (.cells (news.toArray ++ Builtin.zeroCells z.cells (grownCap w n 0 e - n)) e)).heap[w.heap.size]? = some (.cells (news.toArray ++ Builtin.zeroCells z.cells (grownCap w n 0 e - n)) e) := Go.Deep.blk_alloc_new _ _
    rw [this]
    simp

/-- append of n elements to an empty slice: a new block that begins with their cells. -/
theorem append_clone {P : Program} (t e : TypeId) (z : Value) (size bytes : Nat) (ht : P.underlying t = some (.slice e)) (hinfo : (P.info? e).map (fun i => (i.zero, i.size, i.bytes)) = some (some z, size, bytes))
    (g : Option Addr) (a : Addr) (n c : Nat) (news : List Value) (hl : news.length = n * size) (h1 : ∀ u ∈ news, u.oneCell' = true) (hn : 1 ≤ n) (hb : n * bytes ≤ 281474976710656) (h63 : n ≤ 9223372036854775807)
    (w : World) (hnews : ∀ j u, news[j]? = some u → w.cell? (a.add j) = some u) :
    ∃ (cap : Nat) (w' : World), (Builtin.append_ #[t, t] t #[.slice g 0 0, .slice (some a) n c]).run P w = .ok (.slice (some ⟨w.heap.size, 0, none⟩) n cap) w' ∧ Below w.heap.size w w' ∧ w'.heap.size = w.heap.size + 1 ∧
      (∀ j u, news[j]? = some u → w'.cell? ⟨w.heap.size, j, none⟩ = some u) ∧ (∀ j, w'.frozen? ⟨w.heap.size, j, none⟩ = false) := by
  obtain ⟨cap, w', h1', h2', h3', h4', h5', _⟩ := append_cloneC t e z size bytes ht hinfo g a n c news hl h1 hn hb h63 w hnews
  exact ⟨cap, w', h1', h2', h3', h4', h5'⟩

/-- A builtin append whose run is known. -/
theorem wpList_append_run {P : Program} (w : World) {ops : Array Oper} {rest : List Oper} {o : Oper} {a : Act} {Q : Exit → Act → World → Prop}
    (hg : o.guard = none) (x y : Operand) (t : TypeId) (hop : o.op = Op.call { callee := Callee.builtin Builtin.append, args := #[x, y], argTypes := #[t, t] })
    (vx vy v : Value) (w' : World) (hx : a.eval x = vx) (hy : a.eval y = vy) (hrun : (Builtin.append_ #[t, t] o.type #[vx, vy]).run P w = .ok v w')
    (hK : wpList P ops Q rest (a.put o.dst v) w') : wpList P ops Q (o :: rest) a w := by
  refine wpList_plain hg fun K hK' => ?_
  unfold Oper.wp
  simp [execOp, hop, resolve, invoke, builtin, hx, hy, hrun, Result.andThen]
  exact hK' _ _ hK

theorem Tryz.info31 : (Tryz.prog.info? 31).map (fun i => (i.zero, i.size, i.bytes)) = some (some (.agg #[.int .i64 0, .int .i64 0, .slice none 0 0]), 3, 40) := by kernel_rfl
theorem Tryz.info33 : (Tryz.prog.info? 33).map (fun i => (i.zero, i.size, i.bytes)) = some (some (.agg #[.int .i64 0, .int .i64 0]), 2, 16) := by kernel_rfl

set_option maxHeartbeats 400000 in
theorem clone18_any (pb po pc m : Nat) (news : List Value) (w : World) (hm : 1 ≤ m) (hm8 : m ≤ 8) (hl : news.length = m * 3) (h1 : ∀ u ∈ news, u.oneCell' = true) (hpb : pb < w.heap.size) (hnews : ∀ j u, news[j]? = some u → w.cell? ⟨pb, po + j, none⟩ = some u) :
    Calls Tryz.prog 50 #[.slice (some ⟨pb, po, none⟩) m pc] w fun e w' => ∃ g cap, e = .returned (.slice (some ⟨g, 0, none⟩) m cap) ∧ Below w.heap.size w w' ∧ w.heap.size ≤ g ∧ g < w'.heap.size ∧
      (∀ j u, news[j]? = some u → w'.cell? ⟨g, j, none⟩ = some u) ∧ (∀ j, w'.frozen? ⟨g, j, none⟩ = false) := by
  have hnil := fun wx => Lib.run_eql_slice_nil (P := Tryz.prog) wx 23 31 (some ⟨pb, po, none⟩) m pc 0 0 Tryz.underlying23
  obtain ⟨cap, w2, hrun, hB, hz, hcells, hfz⟩ := append_clone (P := Tryz.prog) 23 31 _ 3 40 Tryz.underlying23 Tryz.info31 (some ⟨w.heap.size, 0, none⟩) ⟨pb, po, none⟩ m pc news hl h1 hm (by omega) (by omega) (w.alloc (.cells #[] 31))
    (fun j u hu => by rw [Addr.add_lit]; exact ((Below.cell ((Below.refl w.heap.size w).alloc (Nat.le_refl _) (.cells #[] 31)) (p := ⟨pb, po + j, none⟩) hpb)).trans (hnews j u hu))
  rw [World.size_alloc] at hrun hB hz hcells hfz
  have HX := hid (And.intro hB (And.intro hz (And.intro hcells hfz)))
  have HR := hid hrun
  clear hB hz hcells hfz hnews h1 hl hrun
  go_enter Tryz.func50, Tryz.ntmps50
  go_wp2_with (at_builtin; refine wpList_append_run _ rfl _ _ 23 rfl _ _ _ _ rfl rfl HR.out ?_)
  go_ret
  obtain ⟨hB, hz, hcells, hfz⟩ := HX.out
  exact ⟨_, _, rfl, ((Below.refl _ _).alloc (Nat.le_refl _) _).trans (hB.mono (by omega)), by omega, by omega, hcells, hfz⟩
end Go.Proofs.YtkafkipjedpohaaGreatDoor

/-
  upshift.copied; upshift.Load.
-/
namespace Go.Proofs.YtkafkipjedpohaaGreatDoor
open Go.RowKit

/-- The cells of n instructions. -/
def insCells (n : Nat) (op ar : Nat → Int) : List Value := (List.range (n * 2)).map fun j => if j % 2 = 0 then .int .i64 (op (j / 2)) else .int .i64 (ar (j / 2))
theorem insCells_len (n : Nat) (op ar : Nat → Int) : (insCells n op ar).length = n * 2 := by simp [insCells]
theorem insCells_get (n : Nat) (op ar : Nat → Int) (j : Nat) (u : Value) (h : (insCells n op ar)[j]? = some u) : j < n * 2 ∧ u = if j % 2 = 0 then .int .i64 (op (j / 2)) else .int .i64 (ar (j / 2)) := by
  have hj : j < n * 2 := by
    have := (List.getElem?_eq_some_iff.1 h).1
    rwa [insCells_len] at this
  refine ⟨hj, ?_⟩
  simp [insCells, hj] at h
  exact h.symm
theorem insCells_at (n : Nat) (op ar : Nat → Int) (j : Nat) (hj : j < n * 2) : (insCells n op ar)[j]? = some (if j % 2 = 0 then .int .i64 (op (j / 2)) else .int .i64 (ar (j / 2))) := by
  simp [insCells, hj]
theorem insCells_one (n : Nat) (op ar : Nat → Int) : ∀ u ∈ insCells n op ar, u.oneCell' = true := by
  intro u hu
  simp only [insCells, List.mem_map] at hu
  obtain ⟨j, _, rfl⟩ := hu
  split <;> rfl

theorem insCells_code {w : World} {g n : Nat} {op ar : Nat → Int} (h : ∀ j u, (insCells n op ar)[j]? = some u → w.cell? ⟨g, j, none⟩ = some u) : CodeAt w g 0 n op ar := by
  intro i hi
  have h0 := h (i * 2) _ (insCells_at n op ar (i * 2) (by omega))
  have h1 := h (i * 2 + 1) _ (insCells_at n op ar (i * 2 + 1) (by omega))
  rw [if_pos (by omega), show i * 2 / 2 = i by omega] at h0
  rw [if_neg (by omega), show (i * 2 + 1) / 2 = i by omega] at h1
  simp only [Nat.zero_add]
  exact ⟨h0, h1⟩

theorem code_insCells {w : World} {b off n : Nat} {op ar : Nat → Int} (h : CodeAt w b off n op ar) : ∀ j u, (insCells n op ar)[j]? = some u → w.cell? ⟨b, off + j, none⟩ = some u := by
  intro j u hu
  obtain ⟨hj, rfl⟩ := insCells_get n op ar j u hu
  obtain ⟨h0, h1⟩ := h (j / 2) (by omega)
  by_cases e : j % 2 = 0
  · rw [if_pos e, show off + j = off + j / 2 * 2 by omega]; exact h0
  · rw [if_neg e, show off + j = off + j / 2 * 2 + 1 by omega]; exact h1

/-- The cells of m functions. -/
def funCell (F : Nat → PF) (CA : Nat → Option Addr) (CC : Nat → Nat) (j : Nat) : Value :=
  if j % 3 = 0 then .int .i64 (F (j / 3)).args else if j % 3 = 1 then .int .i64 (F (j / 3)).locals else .slice (CA (j / 3)) (F (j / 3)).cn (CC (j / 3))
def funCells (m : Nat) (F : Nat → PF) (CA : Nat → Option Addr) (CC : Nat → Nat) : List Value := (List.range (m * 3)).map (funCell F CA CC)
theorem funCells_len (m : Nat) (F : Nat → PF) (CA : Nat → Option Addr) (CC : Nat → Nat) : (funCells m F CA CC).length = m * 3 := by simp [funCells]
theorem funCells_at (m : Nat) (F : Nat → PF) (CA : Nat → Option Addr) (CC : Nat → Nat) (j : Nat) (hj : j < m * 3) : (funCells m F CA CC)[j]? = some (funCell F CA CC j) := by
  simp [funCells, hj]
theorem funCells_one (m : Nat) (F : Nat → PF) (CA : Nat → Option Addr) (CC : Nat → Nat) : ∀ u ∈ funCells m F CA CC, u.oneCell' = true := by
  intro u hu
  simp only [funCells, List.mem_map] at hu
  obtain ⟨j, _, rfl⟩ := hu
  unfold funCell
  split
  · rfl
  · split <;> rfl
theorem prog_funCells {w : World} {pb po m : Nat} {F : Nat → PF} {CA : Nat → Option Addr} {CC : Nat → Nat} (h : ProgAt w pb po m F CA CC) : ∀ j u, (funCells m F CA CC)[j]? = some u → w.cell? ⟨pb, po + j, none⟩ = some u := by
  intro j u hu
  have hj : j < m * 3 := by
    have := (List.getElem?_eq_some_iff.1 hu).1
    rwa [funCells_len] at this
  rw [funCells_at m F CA CC j hj] at hu
  obtain rfl := Option.some.inj hu
  obtain ⟨h0, h1, h2, _⟩ := h.fn (j / 3) (by omega)
  unfold funCell
  by_cases e0 : j % 3 = 0
  · rw [if_pos e0, show po + j = po + j / 3 * 3 by omega]; exact h0
  · by_cases e1 : j % 3 = 1
    · rw [if_neg e0, if_pos e1, show po + j = po + j / 3 * 3 + 1 by omega]; exact h1
    · rw [if_neg e0, if_neg e1, show po + j = po + j / 3 * 3 + 2 by omega]; exact h2
theorem funCells_fn {w : World} {g m : Nat} {F : Nat → PF} {CA : Nat → Option Addr} {CC : Nat → Nat} (h : ∀ j u, (funCells m F CA CC)[j]? = some u → w.cell? ⟨g, j, none⟩ = some u) (k : Nat) (hk : k < m) :
    w.cell? ⟨g, 0 + k * 3, none⟩ = some (.int .i64 (F k).args) ∧ w.cell? ⟨g, 0 + k * 3 + 1, none⟩ = some (.int .i64 (F k).locals) ∧ w.cell? ⟨g, 0 + k * 3 + 2, none⟩ = some (.slice (CA k) (F k).cn (CC k)) := by
  have h0 := h (k * 3) _ (funCells_at m F CA CC (k * 3) (by omega))
  have h1 := h (k * 3 + 1) _ (funCells_at m F CA CC (k * 3 + 1) (by omega))
  have h2 := h (k * 3 + 2) _ (funCells_at m F CA CC (k * 3 + 2) (by omega))
  unfold funCell at h0 h1 h2
  rw [if_pos (by omega), show k * 3 / 3 = k by omega] at h0
  rw [if_neg (by omega), if_pos (by omega), show (k * 3 + 1) / 3 = k by omega] at h1
  rw [if_neg (by omega), if_neg (by omega), show (k * 3 + 2) / 3 = k by omega] at h2
  simp only [Nat.zero_add]
  exact ⟨h0, h1, h2⟩

set_option maxHeartbeats 400000 in
theorem clone19_any (cb co cc n : Nat) (op ar : Nat → Int) (w : World) (hn : 1 ≤ n) (hn64 : n ≤ 64) (hcb : cb < w.heap.size) (hc : CodeAt w cb co n op ar) :
    Calls Tryz.prog 51 #[.slice (some ⟨cb, co, none⟩) n cc] w fun e w' => ∃ g cap, e = .returned (.slice (some ⟨g, 0, none⟩) n cap) ∧ Below w.heap.size w w' ∧ w.heap.size ≤ g ∧ g < w'.heap.size ∧ CodeAt w' g 0 n op ar ∧ n ≤ cap := by
  have hnil := fun wx => Lib.run_eql_slice_nil (P := Tryz.prog) wx 29 33 (some ⟨cb, co, none⟩) n cc 0 0 Tryz.underlying29
  obtain ⟨cap, w2, hrun, hB, hz, hcells, hfz, hcap⟩ := append_cloneC (P := Tryz.prog) 29 33 _ 2 16 Tryz.underlying29 Tryz.info33 (some ⟨w.heap.size, 0, none⟩) ⟨cb, co, none⟩ n cc (insCells n op ar) (insCells_len _ _ _) (insCells_one _ _ _) hn (by omega) (by omega) (w.alloc (.cells #[] 33))
    (fun j u hu => by rw [Addr.add_lit]; exact ((Below.cell ((Below.refl w.heap.size w).alloc (Nat.le_refl _) (.cells #[] 33)) (p := ⟨cb, co + j, none⟩) hcb)).trans (code_insCells hc j u hu))
  rw [World.size_alloc] at hrun hB hz hcells hfz
  have HX := hid (And.intro hB (And.intro hz (And.intro (insCells_code hcells) hcap)))
  have HR := hid hrun
  clear hB hz hcells hfz hrun hc hcap
  go_enter Tryz.func51, Tryz.ntmps51
  go_wp2_with (at_builtin; refine wpList_append_run _ rfl _ _ 29 rfl _ _ _ _ rfl rfl HR.out ?_)
  go_ret
  obtain ⟨hB, hz, hcells, hcap⟩ := HX.out
  exact ⟨_, _, rfl, ((Below.refl _ _).alloc (Nat.le_refl _) _).trans (hB.mono (by omega)), by omega, by omega, hcells, hcap⟩

/-- k functions of a copy in block g have code of their own. -/
def Cp (w wr : World) (g k m : Nat) (F : Nat → PF) : Prop :=
  ∃ (CA : Nat → Option Addr) (CC : Nat → Nat), ∀ j, j < m → FunAt wr g 0 j (F j) (CA j) (CC j) ∧ ∃ cb co, CA j = some ⟨cb, co, none⟩ ∧ cb ≠ g ∧ (j < k → w.heap.size ≤ cb ∧ (F j).cn ≤ CC j)

theorem Cp.step {w wr w2 : World} {g k m h cap : Nat} {F : Nat → PF} (hc : Cp w wr g k m F) (hk : k < m) (hB : Below wr.heap.size wr w2) (hg : g < wr.heap.size) (hh : wr.heap.size ≤ h) (hh2 : h < w2.heap.size) (hw : w.heap.size ≤ wr.heap.size) (hcode : CodeAt w2 h 0 (F k).cn (F k).op (F k).ar) (hcap : (F k).cn ≤ cap) :
    Cp w (w2.setCell ⟨g, k * 3 + 2, none⟩ (.slice (some ⟨h, 0, none⟩) (F k).cn cap)) g (k + 1) m F := by
  obtain ⟨CA, CC, hj⟩ := hc
  have hset : ∀ (b o : Nat), ¬ (b = g ∧ o = k * 3 + 2) → (w2.setCell ⟨g, k * 3 + 2, none⟩ (.slice (some ⟨h, 0, none⟩) (F k).cn cap)).cell? ⟨b, o, none⟩ = w2.cell? ⟨b, o, none⟩ := by
    intro b o hne
    refine World.cell?_setCell_other _ _ _ _ ?_
    intro e
    injection e with e1 e2
    exact hne ⟨e1.symm, e2.symm⟩
  have hsz : (w2.setCell ⟨g, k * 3 + 2, none⟩ (.slice (some ⟨h, 0, none⟩) (F k).cn cap)).heap.size = w2.heap.size := by simp [World.setCell]
  have hs2 := hB.size
  refine ⟨upd CA k (some ⟨h, 0, none⟩), upd CC k cap, fun j hjm => ?_⟩
  by_cases e : j = k
  · subst e
    rw [upd_same, upd_same]
    obtain ⟨⟨h0, h1, h2, _⟩, _⟩ := hj j hjm
    refine ⟨⟨?_, ?_, ?_, fun _ => ⟨h, 0, rfl, by rw [hsz]; exact hh2, fun i hi => ?_⟩⟩, h, 0, rfl, by omega, fun _ => ⟨by omega, hcap⟩⟩
    · rw [hset _ _ (by omega)]; exact (hB.cell (p := ⟨g, _, none⟩) hg).trans h0
    · rw [hset _ _ (by omega)]; exact (hB.cell (p := ⟨g, _, none⟩) hg).trans h1
    · have hx := (hB.cell (p := ⟨g, 0 + j * 3 + 2, none⟩) hg).trans h2
      rw [Nat.zero_add] at hx ⊢
      exact World.cell?_setCell_same _ _ _ hx
    · rw [hset _ _ (by omega), hset _ _ (by omega)]; exact hcode i hi
  · rw [upd_other _ _ _ _ e, upd_other _ _ _ _ e]
    obtain ⟨⟨h0, h1, h2, h3⟩, cb, co, ec, hne, hold⟩ := hj j hjm
    have H3 := hid h3
    clear h3 hj
    refine ⟨⟨?_, ?_, ?_, fun hn => ?_⟩, cb, co, ec, hne, fun hlt => hold (by omega)⟩
    · rw [hset _ _ (by omega)]; exact (hB.cell (p := ⟨g, _, none⟩) hg).trans h0
    · rw [hset _ _ (by omega)]; exact (hB.cell (p := ⟨g, _, none⟩) hg).trans h1
    · rw [hset _ _ (by omega)]; exact (hB.cell (p := ⟨g, _, none⟩) hg).trans h2
    · obtain ⟨cb', co', ec', hl, hcc⟩ := H3.out hn
      rw [ec] at ec'
      injection ec' with ec'
      injection ec' with e1 e2
      subst e1
      subst e2
      refine ⟨cb, co, ec, by rw [hsz]; omega, fun i hi => ?_⟩
      rw [hset _ _ (by omega), hset _ _ (by omega)]
      exact (hcc.below hB hl) i hi

set_option maxHeartbeats 1000000 in
theorem copied_any (pb po pc m : Nat) (F : Nat → PF) (CA : Nat → Option Addr) (CC : Nat → Nat) (w : World) (hP : ProgAt w pb po m F CA CC) (hm : 1 ≤ m) (hm8 : m ≤ 8) (hcn : ∀ k, k < m → 1 ≤ (F k).cn ∧ (F k).cn ≤ 64) :
    Calls Tryz.prog 35 #[.slice (some ⟨pb, po, none⟩) m pc] w fun e w' => ∃ g cap, e = .returned (.slice (some ⟨g, 0, none⟩) m cap) ∧ Below w.heap.size w w' ∧ w.heap.size ≤ g ∧ g < w'.heap.size ∧ Cp w w' g m m F := by
  have hcl := clone18_any pb po pc m (funCells m F CA CC) w hm hm8 (funCells_len _ _ _ _) (funCells_one _ _ _ _) hP.lt (prog_funCells hP)
  have HC := hid hcl
  have HP := hid hP
  have HN := hid hcn
  clear hcl hP hcn
  go_enter Tryz.func35, Tryz.ntmps35
  go_wp2_with fail
  refine HC.out.mono ?_
  rintro e w2 ⟨g, cap, rfl, hB, hg1, hg2, hcells, hfz⟩
  have hcp : Cp w w2 g 0 m F := by
    refine ⟨CA, CC, fun j hj => ?_⟩
    obtain ⟨a0, a1, a2⟩ := funCells_fn hcells j hj
    have hf := (HP.out.below hB (Nat.le_refl _)).fn j hj
    obtain ⟨cb, co, ec, hl, hcc⟩ := (HP.out.fn j hj).code (HN.out j hj).1
    exact ⟨⟨a0, a1, a2, hf.code⟩, cb, co, ec, by omega, fun h => by omega⟩
  have HS := hid (And.intro hB (And.intro hcp hfz))
  clear hB hcells hfz hcp HC HP
  go_wp2
  go_loopw [9] (fun v wr => ∃ k : Nat, k ≤ m ∧ v = .int .i64 k ∧ Below w.heap.size w wr ∧ Cp w wr g k m F ∧ (∀ j, wr.frozen? ⟨g, j, none⟩ = false) ∧ g < wr.heap.size) (fun v _ => m - (intOf v).toNat)
  case atStart => exact ⟨0, Nat.zero_le _, rfl, HS.out.1, HS.out.2.1, HS.out.2.2, hg2⟩
  case round =>
    clear HS
    obtain ⟨k, hk, rfl, hB, hC, hfz, hgr⟩ := hrel
    by_cases hlt : k < m
    · have hC' := hC
      obtain ⟨CA', CC', hj⟩ := hC'
      obtain ⟨⟨h0, h1, h2, h3⟩, _⟩ := hj k hlt
      obtain ⟨cb, co, ec, hl, hcc⟩ := h3 (HN.out k hlt).1
      rw [ec, Nat.zero_add] at h2
      have hcon := clone19_any cb co (CC' k) (F k).cn (F k).op (F k).ar wr (HN.out k hlt).1 (HN.out k hlt).2 hl hcc
      have HC := hid hcon
      have HK := hid (And.intro hB hC)
      have hwr : w.heap.size ≤ wr.heap.size := hB.size
      clear hcon hB hC hj h0 h1 h3 hcc
      have hstep := fun w3 h cap => HK.out.2.step (w2 := w3) (h := h) (cap := cap) hlt
      have HT := hid hstep
      clear hstep
      generalize (F k).cn = cn at *
      go_wp2_with fail
      refine HC.out.mono ?_
      rintro e w3 ⟨h, cap', rfl, hB3, hh1, hh2, hc3, hcap3⟩
      have g2 : w3.cell? ⟨g, k * 3 + 2, none⟩ = some (.slice (some ⟨cb, co, none⟩) cn (CC' k)) := (hB3.cell (p := ⟨g, _, none⟩) hgr).trans h2
      have f2 : w3.frozen? ⟨g, k * 3 + 2, none⟩ = false := (hB3.frozen (p := ⟨g, _, none⟩) hgr).trans (hfz _)
      have hg3 : g < w3.heap.size := by have := hB3.size; omega
      have HZ : Hid (Below w.heap.size w (w3.setCell ⟨g, k * 3 + 2, none⟩ (.slice (some ⟨h, 0, none⟩) cn cap')) ∧ Cp w (w3.setCell ⟨g, k * 3 + 2, none⟩ (.slice (some ⟨h, 0, none⟩) cn cap')) g (k + 1) m F ∧ (∀ j, (w3.setCell ⟨g, k * 3 + 2, none⟩ (.slice (some ⟨h, 0, none⟩) cn cap')).frozen? ⟨g, j, none⟩ = false) ∧ g < (w3.setCell ⟨g, k * 3 + 2, none⟩ (.slice (some ⟨h, 0, none⟩) cn cap')).heap.size) := by
        refine ⟨(HK.out.1.trans (hB3.mono hwr)).setCell hg1 _, HT.out w3 h cap' hB3 hgr hh1 hh2 hwr hc3 hcap3, fun j => ?_, by simpa [World.setCell] using hg3⟩
        rw [World.frozen?_setCell]
        exact (hB3.frozen (p := ⟨g, _, none⟩) hgr).trans (hfz _)
      clear hB3 hc3 HC h2 hfz hcap3
      go_wp2
      go_roundw
      case rel => exact ⟨k + 1, by omega, by go_num, HZ.out⟩
      case measure => simp [intOf]; omega
    · obtain rfl : k = m := by omega
      have HZ := hid (And.intro hB hC)
      clear hB hC hfz
      go_wp2
      go_ret
      exact ⟨g, cap, rfl, HZ.out.1, hg1, hgr, HZ.out.2⟩
end Go.Proofs.YtkafkipjedpohaaGreatDoor
