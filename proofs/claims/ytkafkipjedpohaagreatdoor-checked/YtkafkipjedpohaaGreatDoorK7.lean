import Derived.Test.YtkafkipjedpohaaGreatDoorK6

/-
  Package upshiftkeep: what Checked holds in memory.
-/
namespace Go.Proofs.YtkafkipjedpohaaGreatDoor
open Go.RowKit

/-- The nine cells of three functions in block pb. -/
def NineAt (w : World) (pb : Nat) (c : Nat → Value) : Prop := ∃ cur : Array Value, w.heap[pb]? = some (.cells cur 31 (0, 0)) ∧ ∀ i, i < 9 → cur[i]? = some (c i)
theorem NineAt.cell {w : World} {pb : Nat} {c : Nat → Value} (h : NineAt w pb c) {i : Nat} (hi : i < 9) : w.cell? ⟨pb, i, none⟩ = some (c i) := by
  obtain ⟨cur, h1, h2⟩ := h
  exact (cell_heap h1).trans (h2 i hi)
theorem NineAt.frozen {w : World} {pb : Nat} {c : Nat → Value} (h : NineAt w pb c) (i : Nat) : w.frozen? ⟨pb, i, none⟩ = false := by
  obtain ⟨cur, h1, _⟩ := h
  exact frozen_heap h1
theorem NineAt.lt {w : World} {pb : Nat} {c : Nat → Value} (h : NineAt w pb c) : pb < w.heap.size := by
  obtain ⟨cur, h1, _⟩ := h
  exact heap_lt h1
theorem NineAt.below {w w' : World} {B pb : Nat} {c : Nat → Value} (h : NineAt w pb c) (k : Below B w w') (hb : pb < B) : NineAt w' pb c := by
  obtain ⟨cur, h1, h2⟩ := h
  exact ⟨cur, (k.block pb hb).trans h1, h2⟩
theorem NineAt.set {w : World} {pb : Nat} {c : Nat → Value} (h : NineAt w pb c) (i : Nat) (v : Value) : NineAt (w.setCell ⟨pb, i, none⟩ v) pb (upd c i v) := by
  obtain ⟨cur, h1, h2⟩ := h
  refine ⟨_, heap_set h1 v, fun j hj => ?_⟩
  by_cases e : j = i
  · subst e
    have : j < cur.size := (Array.getElem?_eq_some_iff.1 (h2 j hj)).1
    rw [Array.getElem?_setIfInBounds_self_of_lt this, upd_same]
  · rw [Array.getElem?_setIfInBounds_ne (fun h => e h.symm), upd_other _ _ _ _ e]
    exact h2 j hj

/-- The cells of three functions with code of their own. -/
def nine (LN CB CC : Nat → Nat) : Nat → Value := fun i => if i % 3 = 0 then .int .i64 ((i / 3 : Nat) : Int) else if i % 3 = 1 then .int .i64 6 else .slice (some ⟨CB (i / 3), 0, none⟩) (LN (i / 3)) (CC (i / 3))

theorem nine_set (LN CB CC : Nat → Nat) (f l b c : Nat) (i : Nat) : upd (nine LN CB CC) (f * 3 + 2) (.slice (some ⟨b, 0, none⟩) l c) i = nine (upd LN f l) (upd CB f b) (upd CC f c) i := by
  by_cases e : i = f * 3 + 2
  · subst e
    rw [upd_same]
    unfold nine
    rw [if_neg (by omega), if_neg (by omega), show (f * 3 + 2) / 3 = f by omega, upd_same, upd_same, upd_same]
  · rw [upd_other _ _ _ _ e]
    unfold nine
    by_cases h0 : i % 3 = 0
    · rw [if_pos h0, if_pos h0]
    · by_cases h1 : i % 3 = 1
      · rw [if_neg h0, if_pos h1, if_neg h0, if_pos h1]
      · have h3 : i / 3 ≠ f := by omega
        rw [if_neg h0, if_neg h1, if_neg h0, if_neg h1, upd_other _ _ _ _ h3, upd_other _ _ _ _ h3, upd_other _ _ _ _ h3]
theorem NineAt.code {w : World} {pb : Nat} {LN CB CC : Nat → Nat} (h : NineAt w pb (nine LN CB CC)) (f l b c : Nat) : NineAt (w.setCell ⟨pb, f * 3 + 2, none⟩ (.slice (some ⟨b, 0, none⟩) l c)) pb (nine (upd LN f l) (upd CB f b) (upd CC f c)) := by
  obtain ⟨cur, h1, h2⟩ := h.set (f * 3 + 2) (.slice (some ⟨b, 0, none⟩) l c)
  exact ⟨cur, h1, fun i hi => by rw [h2 i hi, nine_set]⟩

theorem list_code {w : World} {b : Nat} {x : List (Int × Int)} (h : ListAt w b x) : CodeAt w b 0 x.length (opL x) (arL x) := by
  have hc : ∀ (x : List (Int × Int)) (i : Nat), i < x.length → (icells x)[i * 2]? = some (.int .i64 (opL x i)) ∧ (icells x)[i * 2 + 1]? = some (.int .i64 (arL x i)) := by
    intro x
    induction x with
    | nil => intro i hi; simp at hi
    | cons y x ih =>
      intro i hi
      rw [icells_cons]
      cases i with
      | zero => simp [opL, arL]
      | succ i =>
        obtain ⟨e1, e2⟩ := ih i (by simpa using hi)
        rw [show (i + 1) * 2 = i * 2 + 1 + 1 by omega]
        simp only [List.getElem?_cons_succ]
        refine ⟨e1.trans ?_, e2.trans ?_⟩
        · simp [opL]
        · simp [arL]
  intro i hi
  obtain ⟨e1, e2⟩ := hc x i hi
  rw [Nat.zero_add]
  exact ⟨h _ _ e1, h _ _ e2⟩

/-- A program of three functions in memory. -/
theorem nine_prog {w : World} {pb : Nat} {LN CB CC : Nat → Nat} {G : Nat → PF} (h : NineAt w pb (nine LN CB CC)) (hg : ∀ k, k < 3 → (G k).args = k ∧ (G k).locals = 6 ∧ (G k).cn = LN k ∧ CB k < w.heap.size ∧ CodeAt w (CB k) 0 (LN k) (G k).op (G k).ar) :
    ProgAt w pb 0 3 G (fun k => some ⟨CB k, 0, none⟩) CC := by
  refine ⟨h.lt, fun k hk => ?_⟩
  obtain ⟨g1, g2, g3, g4, g5⟩ := hg k hk
  have c0 := h.cell (i := k * 3) (by omega)
  have c1 := h.cell (i := k * 3 + 1) (by omega)
  have c2 := h.cell (i := k * 3 + 2) (by omega)
  unfold nine at c0 c1 c2
  rw [if_pos (by omega), show k * 3 / 3 = k by omega] at c0
  rw [if_neg (by omega), if_pos (by omega)] at c1
  rw [if_neg (by omega), if_neg (by omega), show (k * 3 + 2) / 3 = k by omega] at c2
  refine ⟨?_, ?_, ?_, fun _ => ⟨CB k, 0, rfl, g4, ?_⟩⟩
  · rw [Nat.zero_add, g1]; exact c0
  · rw [Nat.zero_add, g2]; exact c1
  · rw [Nat.zero_add, g3]; exact c2
  · rw [g3]; exact g5

/-- What prog has made, so said. -/
theorem MadeF.cells9 {w w1 : World} {ls : List Ln} {v : Value} (h : MadeF w w1 ls v 3) : ∃ pb pc CB CC, v = .slice (some ⟨pb, 0, none⟩) 3 pc ∧ w.heap.size ≤ pb ∧ NineAt w1 pb (nine (fun k => (codeP k ls).length) CB CC) ∧ ∀ k, k < 3 → CB k < w1.heap.size ∧ CB k ≠ pb ∧ w.heap.size ≤ CB k ∧ ListAt w1 (CB k) (codeP k ls) ∧ (codeP k ls).length ≤ CC k := by
  obtain ⟨hB, CB, CC, hown, hf⟩ := h
  obtain ⟨hl, ho⟩ := hown
  rcases ho with ⟨_, h0⟩ | ⟨g, cap, cur, hv, hb, hh, hc, hm, hs, ht⟩
  · omega
  · refine ⟨g, cap, CB, CC, hv, hb, ⟨cur, hh, fun i hi => ?_⟩, fun k hk => ?_⟩
    · have h1 : (fcells ls CB CC 3)[i]? = some (nine (fun k => (codeP k ls).length) CB CC i) := by
        have hi9 : i = 0 ∨ i = 1 ∨ i = 2 ∨ i = 3 ∨ i = 4 ∨ i = 5 ∨ i = 6 ∨ i = 7 ∨ i = 8 := by omega
        rcases hi9 with rfl | rfl | rfl | rfl | rfl | rfl | rfl | rfl | rfl <;> rfl
      rw [← ht, List.getElem?_take_of_lt (by omega)] at h1
      simpa using h1
    · obtain ⟨f1, f2, f3, f4, f5⟩ := hf k hk
      refine ⟨f2, fun e => f3 ?_, f1, f4, f5⟩
      rw [hv, e]
      rfl

/-- Load refuses a program of which one function is spoiled. -/
theorem load_spoiled (w : World) (pb pc : Nat) (ls : List Ln) (f : Nat) (hf : f < 3) (CB CC : Nat → Nat) (X : List (Int × Int)) (g c : Nat) (e a : Int) (he : e ≠ 0) (hfun : funP 3 f (pfL f X) = (e, a))
    (h9 : NineAt w pb (nine (upd (fun k => (codeP k ls).length) f X.length) (upd CB f g) (upd CC f c))) (hg : g < w.heap.size) (hX : ListAt w g X) (hot : ∀ k, k < 3 → CB k < w.heap.size ∧ ListAt w (CB k) (codeP k ls)) (ht : TabAt w) :
    Calls Tryz.prog 17 #[.slice (some ⟨pb, 0, none⟩) 3 pc] w fun r w' => r = .returned (.tuple #[.pointer none, .int .i64 e, .int .i64 (f : Int), .int .i64 a]) ∧ Below w.heap.size w w' := by
  have hP : ProgAt w pb 0 3 (upd (FL ls) f (pfL f X)) (fun k => some ⟨upd CB f g k, 0, none⟩) (upd CC f c) := by
    refine nine_prog h9 fun k hk => ?_
    by_cases e2 : k = f
    · subst e2
      rw [upd_same, upd_same, upd_same]
      exact ⟨rfl, rfl, rfl, hg, list_code hX⟩
    · rw [upd_other _ _ _ _ e2, upd_other _ _ _ _ e2, upd_other _ _ _ _ e2]
      exact ⟨rfl, rfl, rfl, (hot k hk).1, list_code (hot k hk).2⟩
  have hp := prog_at ls f hf (pfL f X) e a he hfun
  have hl := load_bad (some ⟨pb, 0, none⟩) pc 3 (upd (FL ls) f (pfL f X)) w (by rw [hp]; exact he) (program_any pb 0 pc 3 _ _ _ w hP (by omega) ht)
  rw [hp] at hl
  exact hl

theorem load_spoiledC (w : World) (pb pc : Nat) (ls : List Ln) (f : Nat) (hf : f < 3) (CB CC : Nat → Nat) (X : List (Int × Int)) (g c : Nat) (e a : Int) (he : e ≠ 0) (hfun : funP 3 f (pfL f X) = (e, a))
    (h9 : NineAt w pb (nine (upd (fun k => (codeP k ls).length) f X.length) (upd CB f g) (upd CC f c))) (hg : g < w.heap.size) (hX : CodeAt w g 0 X.length (opL X) (arL X)) (hot : ∀ k, k < 3 → CB k < w.heap.size ∧ ListAt w (CB k) (codeP k ls)) (ht : TabAt w) :
    Calls Tryz.prog 17 #[.slice (some ⟨pb, 0, none⟩) 3 pc] w fun r w' => r = .returned (.tuple #[.pointer none, .int .i64 e, .int .i64 (f : Int), .int .i64 a]) ∧ Below w.heap.size w w' := by
  have hP : ProgAt w pb 0 3 (upd (FL ls) f (pfL f X)) (fun k => some ⟨upd CB f g k, 0, none⟩) (upd CC f c) := by
    refine nine_prog h9 fun k hk => ?_
    by_cases e2 : k = f
    · subst e2
      rw [upd_same, upd_same, upd_same]
      exact ⟨rfl, rfl, rfl, hg, hX⟩
    · rw [upd_other _ _ _ _ e2, upd_other _ _ _ _ e2, upd_other _ _ _ _ e2]
      exact ⟨rfl, rfl, rfl, (hot k hk).1, list_code (hot k hk).2⟩
  have hp := prog_at ls f hf (pfL f X) e a he hfun
  have hl := load_bad (some ⟨pb, 0, none⟩) pc 3 (upd (FL ls) f (pfL f X)) w (by rw [hp]; exact he) (program_any pb 0 pc 3 _ _ _ w hP (by omega) ht)
  rw [hp] at hl
  exact hl

/-- The lists of a function, cut and changed. -/
theorem list_take {w : World} {b : Nat} {x y : List (Int × Int)} (h : ListAt w b (x ++ y)) : ListAt w b x := fun j u hu => h j u (by
  rw [icells_append, List.getElem?_append_left (List.getElem?_eq_some_iff.1 hu).1]
  exact hu)
theorem list_set {w : World} {b : Nat} {x y : List (Int × Int)} {o a : Int} {p : Int × Int} (h : ListAt w b (x ++ p :: y)) {cur : Array Value} {t : TypeId} (hh : w.heap[b]? = some (.cells cur t (0, 0))) : ListAt ((w.setCell ⟨b, x.length * 2, none⟩ (.int .i64 o)).setCell ⟨b, x.length * 2 + 1, none⟩ (.int .i64 a)) b (x ++ (o, a) :: y) := by
  intro j u hu
  have hlen : (icells (x ++ (o, a) :: y)).length = (icells (x ++ p :: y)).length := by simp [icells_len]
  have hcell : ∀ j u, (icells (x ++ p :: y))[j]? = some u → cur[j]? = some u := fun j u hu => (cell_heap hh).symm.trans (h j u hu)
  rw [cell_heap (heap_set (heap_set hh _) _)]
  have hpos : ∀ (q : Int × Int), icells (x ++ q :: y) = icells x ++ (.int .i64 q.1 :: .int .i64 q.2 :: icells y) := fun q => by rw [icells_append, icells_cons]
  have hxl := icells_len x
  by_cases e1 : j = x.length * 2 + 1
  · subst e1
    have hlt : x.length * 2 + 1 < cur.size := by
      have := hcell (x.length * 2 + 1) (.int .i64 p.2) (by rw [hpos, List.getElem?_append_right (by omega), hxl, show x.length * 2 + 1 - x.length * 2 = 1 by omega]; rfl)
      exact (Array.getElem?_eq_some_iff.1 this).1
    rw [Array.getElem?_setIfInBounds_self_of_lt (by simpa using hlt)]
    rw [hpos, List.getElem?_append_right (by omega), hxl, show x.length * 2 + 1 - x.length * 2 = 1 by omega] at hu
    exact hu
  · rw [Array.getElem?_setIfInBounds_ne (fun h => e1 h.symm)]
    by_cases e0 : j = x.length * 2
    · subst e0
      have hlt : x.length * 2 < cur.size := by
        have := hcell (x.length * 2) (.int .i64 p.1) (by rw [hpos, List.getElem?_append_right (by omega), hxl, show x.length * 2 - x.length * 2 = 0 by omega]; rfl)
        exact (Array.getElem?_eq_some_iff.1 this).1
      rw [Array.getElem?_setIfInBounds_self_of_lt hlt]
      rw [hpos, List.getElem?_append_right (by omega), hxl, show x.length * 2 - x.length * 2 = 0 by omega] at hu
      exact hu
    · rw [Array.getElem?_setIfInBounds_ne (fun h => e0 h.symm)]
      apply hcell
      rw [hpos] at hu ⊢
      by_cases hlt : j < (icells x).length
      · rw [List.getElem?_append_left hlt] at hu ⊢; exact hu
      · rw [List.getElem?_append_right (by omega)] at hu ⊢
        obtain ⟨d, hd⟩ : ∃ d, j - (icells x).length = d + 2 := ⟨j - (icells x).length - 2, by omega⟩
        rw [hd] at hu ⊢
        simpa using hu
theorem list_far {w : World} {b c o : Nat} {x : List (Int × Int)} {v : Value} (h : ListAt w b x) (hne : b ≠ c) : ListAt (w.setCell ⟨c, o, none⟩ v) b x := fun j u hu => setCell_far (h j u hu) hne
theorem tab_far {w : World} {c o : Nat} {v : Value} (h : TabAt w) (hne : 0 ≠ c) : TabAt (w.setCell ⟨c, o, none⟩ v) := fun i hi => ⟨setCell_far (h i hi).1 hne, setCell_far (h i hi).2 hne⟩
theorem OwnL.list {w : World} {B : Nat} {g n cap : Nat} {x : List (Int × Int)} (h : OwnL w B (.slice (some ⟨g, 0, none⟩) n cap) x) : B ≤ g ∧ g < w.heap.size ∧ ListAt w g x ∧ ∃ cur : Array Value, w.heap[g]? = some (.cells cur 33 (0, 0)) := by
  rcases h.2 with ⟨h1, _⟩ | ⟨g', cap', cur, hv, hb, hg, hc, hm, hs, ht⟩
  · cases h1
  · injection hv with e1 e2 e3
    injection e1 with e1
    injection e1 with e1
    subst e1
    refine ⟨hb, heap_lt hg, fun j u hu => ?_, cur, hg⟩
    have hj : j < x.length * 2 := by
      have := (List.getElem?_eq_some_iff.1 hu).1
      rwa [icells_len] at this
    rw [cell_heap hg]
    rw [← ht, List.getElem?_take_of_lt hj] at hu
    simpa using hu
end Go.Proofs.YtkafkipjedpohaaGreatDoor
