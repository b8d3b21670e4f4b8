import Derived.Test.YtkafkipjedpohaaGreatDoorC3
import Derived.Test.YtkafkipjedpohaaGreatDoorB3

/-
  upshiftlaw.lent.
-/
namespace Go.Proofs.YtkafkipjedpohaaGreatDoor
open Go.RowKit

/-- The cells of a lent function's instructions: its own, and two empty ones. -/
def icell (f : PF) : Nat → Value := fun j => if j / 2 < f.cn then (if j % 2 = 0 then .int .i64 (f.op (j / 2)) else .int .i64 (f.ar (j / 2))) else .int .i64 0
/-- The cells of a lent program: its functions, and two marks. -/
def lcell (F : Nat → PF) (b m : Nat) : Nat → Value := fun j =>
  if j / 3 < m then (if j % 3 = 0 then .int .i64 (F (j / 3)).args else if j % 3 = 1 then .int .i64 (F (j / 3)).locals else .slice (some ⟨b + 1 + j / 3, 0, none⟩) (F (j / 3)).cn ((F (j / 3)).cn + 2))
  else (if j % 3 = 0 then .int .i64 (-77) else if j % 3 = 1 then .int .i64 0 else .slice none 0 0)
/-- .. of which k have been laid. -/
def lcellTo (F : Nat → PF) (b m k : Nat) : Nat → Value := fun j => if j / 3 < k then lcell F b m j else if j % 3 = 2 then .slice none 0 0 else .int .i64 0

/-- A program that is lent, k of its functions so far. -/
structure LentTo (w : World) (b m k : Nat) (F : Nat → PF) : Prop where
  row : w.rowIs b 31 ((m + 2) * 3) (lcellTo F b m k)
  code : ∀ i, i < m → i < k → w.rowIs (b + 1 + i) 33 (((F i).cn + 2) * 2) (icell (F i))

def fArr (n : Nat) : Array Value := madeCells #[.int .i64 0, .int .i64 0, .slice none 0 0] (n * 3)
def iArr (n : Nat) : Array Value := madeCells #[.int .i64 0, .int .i64 0] (n * 2)

theorem lent_start (w : World) (m : Nat) (F : Nat → PF) : LentTo (w.alloc (.cells (fArr (m + 2)) 31)) w.heap.size m 0 F := by
  refine ⟨⟨_, Go.Deep.blk_alloc_new _ _, by simp [fArr, size_madeCells], fun i hi => ?_⟩, fun i _ hi => by omega⟩
  have : i % 3 = 0 ∨ i % 3 = 1 ∨ i % 3 = 2 := by omega
  rcases this with e | e | e <;> simp [fArr, madeCells, hi, lcellTo, e]

theorem iArr_row (w : World) (n : Nat) : (w.alloc (.cells (iArr n) 33)).rowIs w.heap.size 33 (n * 2) (fun _ => .int .i64 0) := by
  refine ⟨_, Go.Deep.blk_alloc_new _ _, by simp [iArr, size_madeCells], fun i hi => ?_⟩
  have : i % 2 = 0 ∨ i % 2 = 1 := by omega
  rcases this with e | e <;> simp [iArr, madeCells, hi, e]

/-- copy of n elements of several cells into a row of the call's own. -/
theorem run_copy_rows {P : Program} (w : World) (dT sT ty elem : TypeId) (size : Nat) (g dLen dCap : Nat) (a : Addr) (sLen sCap : Nat) (cur : Array Value) (t : TypeId) (cs : List Value)
    (hu : P.underlying dT = some (.slice elem)) (hs : (P.info? elem).map (·.size) = some size)
    (hg : w.heap[g]? = some (.cells cur t (0, 0))) (hle : sLen ≤ dLen) (hn : cs.length = sLen * size)
    (hsrc : ∀ j v, cs[j]? = some v → w.cell? (a.add j) = some v) (hfit : cs.length ≤ cur.size) (h1 : ∀ v ∈ cs, v.oneCell' = true) :
    (Builtin.copy_ #[dT, sT] ty #[.slice (some ⟨g, 0, none⟩) dLen dCap, .slice (some a) sLen sCap]).run P w =
      .ok (goInt sLen) (w.setRow g (cs ++ cur.toList.drop cs.length).toArray) := by
  have hl := run_loadCells_list (P := P) w a cs hsrc
  have hst := run_storeCells_at P g 0 t cs 0 cur w hg (by simpa using hfit) h1
  have hmin : Nat.min sLen dLen = sLen := Nat.min_eq_left hle
  cases hq : P.info? elem with
  | none => simp [hq] at hs
  | some i =>
    have hi : i.size = size := by simpa [hq] using hs
    simp [Builtin.copy_, run_underlying hu, Builtin.lenOf, Builtin.firstCells, sizeOf, typeInfo, hq, hi, hmin, ← hn, hl, hst]

theorem run_copy_zero {P : Program} (w : World) (dT sT ty elem : TypeId) (d a : Option Addr) (dLen dCap sCap : Nat) (hu : P.underlying dT = some (.slice elem)) (size : Nat) (hs : (P.info? elem).map (·.size) = some size) :
    (Builtin.copy_ #[dT, sT] ty #[.slice d dLen dCap, .slice a 0 sCap]).run P w = .ok (goInt 0) w := by
  have hmin : Nat.min 0 dLen = 0 := Nat.zero_min _
  cases hq : P.info? elem with
  | none => simp [hq] at hs
  | some i =>
    have hl : ∀ (x : Addr), (loadCells x 0).run P w = .ok #[] w := fun x => by simpa using run_loadCells_list (P := P) w x [] (by simp)
    cases d <;> cases a <;> simp [Builtin.copy_, run_underlying hu, Builtin.lenOf, Builtin.firstCells, sizeOf, typeInfo, hq, hmin, storeCells, hl]

theorem Tryz.size33 : (Tryz.prog.info? 33).map (·.size) = some 2 := by kernel_rfl

theorem iArr_get (n i : Nat) (hi : i < n * 2) : (iArr n)[i]? = some (.int .i64 0) := by
  have : i % 2 = 0 ∨ i % 2 = 1 := by omega
  rcases this with e | e <;> simp [iArr, madeCells, hi, e]

theorem setRow_other (w : World) (g : Nat) (c : Array Value) (k : Nat) (h : k ≠ g) : (w.setRow g c).heap[k]? = w.heap[k]? := by
  unfold World.setRow
  simp only [Array.getElem?_modify]
  rw [if_neg (by omega)]

/-- copy of a function's instructions into a new row with two elements more. -/
theorem copy_ins (w : World) (f : PF) (ca : Option Addr) (cc : Nat) (hc : 1 ≤ f.cn → ∃ cb co, ca = some ⟨cb, co, none⟩ ∧ cb < w.heap.size ∧ CodeAt w cb co f.cn f.op f.ar) :
    ∃ w', (Builtin.copy_ #[29, 29] 3 #[.slice (some ⟨w.heap.size, 0, none⟩) (f.cn + 2) (f.cn + 2), .slice ca f.cn cc]).run Tryz.prog (w.alloc (.cells (iArr (f.cn + 2)) 33)) = .ok (goInt f.cn) w' ∧
      w'.rowIs w.heap.size 33 ((f.cn + 2) * 2) (icell f) ∧ Below w.heap.size w w' ∧ w'.heap.size = w.heap.size + 1 := by
  by_cases h0 : f.cn = 0
  · refine ⟨w.alloc (.cells (iArr (f.cn + 2)) 33), ?_, ?_, (Below.refl _ _).alloc (Nat.le_refl _) _, by simp⟩
    · rw [h0]; exact run_copy_zero _ 29 29 3 33 _ _ _ _ _ Tryz.underlying29 2 Tryz.size33
    · refine (iArr_row w (f.cn + 2)).congr fun i hi => ?_
      unfold icell; rw [if_neg (by omega)]
  · obtain ⟨cb, co, rfl, hcb, hcode⟩ := hc (by omega)
    have hB1 : Below w.heap.size w (w.alloc (.cells (iArr (f.cn + 2)) 33)) := (Below.refl _ _).alloc (Nat.le_refl _) _
    have hrun := run_copy_rows (P := Tryz.prog) (w.alloc (.cells (iArr (f.cn + 2)) 33)) 29 29 3 33 2 w.heap.size (f.cn + 2) (f.cn + 2) ⟨cb, co, none⟩ f.cn cc (iArr (f.cn + 2)) 33 (insCells f.cn f.op f.ar) Tryz.underlying29 Tryz.size33 (Go.Deep.blk_alloc_new _ _) (by omega) (insCells_len _ _ _)
      (fun j u hu => by rw [Addr.add_lit]; exact (hB1.cell (p := ⟨cb, co + j, none⟩) hcb).trans (code_insCells hcode j u hu)) (by rw [insCells_len]; simp [iArr, size_madeCells]; omega) (insCells_one _ _ _)
    refine ⟨_, hrun, ⟨_, setRow_heap _ _ _ _ 33 (0, 0) (Go.Deep.blk_alloc_new _ _), ?_, fun i hi => ?_⟩, ?_, ?_⟩
    · simp [insCells_len, iArr, size_madeCells]; omega
    · unfold icell
      by_cases hlt : i < f.cn * 2
      · rw [if_pos (by omega), List.getElem?_toArray, List.getElem?_append_left (by rw [insCells_len]; exact hlt)]
        exact insCells_at _ _ _ _ hlt
      · rw [if_neg (by omega), List.getElem?_toArray, List.getElem?_append_right (by rw [insCells_len]; omega), List.getElem?_drop, insCells_len]
        rw [show f.cn * 2 + (i - f.cn * 2) = i by omega]
        have := iArr_get (f.cn + 2) i hi
        rw [← this]
        simp
    · refine ⟨rfl, rfl, rfl, by simp [World.setRow], fun k hk => ?_⟩
      rw [setRow_other _ _ _ _ (by omega)]
      exact hB1.block k hk
    · simp [World.setRow]

theorem rowIs_set3 {w : World} {b t n : Nat} {f g : Nat → Value} (h : w.rowIs b t n f) (k : Nat) (hg : ∀ j, j < n → g j = if j / 3 = k then g j else f j) :
    (((w.setCell ⟨b, k * 3, none⟩ (g (k * 3))).setCell ⟨b, k * 3 + 1, none⟩ (g (k * 3 + 1))).setCell ⟨b, k * 3 + 2, none⟩ (g (k * 3 + 2))).rowIs b t n g := by
  refine (((h.set (k * 3) _).set (k * 3 + 1) _).set (k * 3 + 2) _).congr fun j hj => ?_
  by_cases e2 : j = k * 3 + 2
  · rw [if_pos e2, e2]
  · rw [if_neg e2]
    by_cases e1 : j = k * 3 + 1
    · rw [if_pos e1, e1]
    · rw [if_neg e1]
      by_cases e0 : j = k * 3
      · rw [if_pos e0, e0]
      · rw [if_neg e0, hg j hj, if_neg (by omega)]

theorem set3_block (w : World) (b k : Nat) (u v x : Value) (i : Nat) (h : i ≠ b) : (((w.setCell ⟨b, k * 3, none⟩ u).setCell ⟨b, k * 3 + 1, none⟩ v).setCell ⟨b, k * 3 + 2, none⟩ x).heap[i]? = w.heap[i]? := by
  rw [Below.heap_setCell _ _ _ _ h, Below.heap_setCell _ _ _ _ h, Below.heap_setCell _ _ _ _ h]

theorem LentTo.fn {w : World} {b m k : Nat} {F : Nat → PF} (h : LentTo w b m k F) (hk : k < m) (hnew : w.rowIs (b + 1 + k) 33 (((F k).cn + 2) * 2) (icell (F k))) :
    LentTo (((w.setCell ⟨b, k * 3, none⟩ (.int .i64 (F k).args)).setCell ⟨b, k * 3 + 1, none⟩ (.int .i64 (F k).locals)).setCell ⟨b, k * 3 + 2, none⟩ (.slice (some ⟨b + 1 + k, 0, none⟩) (F k).cn ((F k).cn + 2))) b m (k + 1) F := by
  refine ⟨?_, fun i hi hik => ?_⟩
  · have h3 := rowIs_set3 (g := lcellTo F b m (k + 1)) h.row k (fun j _ => by
      by_cases e : j / 3 = k
      · rw [if_pos e]
      · rw [if_neg e]; unfold lcellTo
        by_cases e1 : j / 3 < k
        · rw [if_pos e1, if_pos (by omega)]
        · rw [if_neg e1, if_neg (by omega)])
    have e0 : lcellTo F b m (k + 1) (k * 3) = .int .i64 (F k).args := by
      unfold lcellTo lcell; rw [if_pos (by omega), if_pos (by omega), if_pos (by omega), show k * 3 / 3 = k by omega]
    have e1 : lcellTo F b m (k + 1) (k * 3 + 1) = .int .i64 (F k).locals := by
      unfold lcellTo lcell; rw [if_pos (by omega), if_pos (by omega), if_neg (by omega), if_pos (by omega), show (k * 3 + 1) / 3 = k by omega]
    have e2 : lcellTo F b m (k + 1) (k * 3 + 2) = .slice (some ⟨b + 1 + k, 0, none⟩) (F k).cn ((F k).cn + 2) := by
      unfold lcellTo lcell; rw [if_pos (by omega), if_pos (by omega), if_neg (by omega), if_neg (by omega), show (k * 3 + 2) / 3 = k by omega]
    rw [e0, e1, e2] at h3
    exact h3
  · by_cases e : i = k
    · subst e; exact hnew.of_block (set3_block _ _ _ _ _ _ _ (by omega))
    · exact (h.code i hi (by omega)).of_block (set3_block _ _ _ _ _ _ _ (by omega))

theorem LentTo.mark {w : World} {b m k : Nat} {F : Nat → PF} (h : LentTo w b m k F) (hk : m ≤ k) :
    LentTo (((w.setCell ⟨b, k * 3, none⟩ (.int .i64 (-77))).setCell ⟨b, k * 3 + 1, none⟩ (.int .i64 0)).setCell ⟨b, k * 3 + 2, none⟩ (.slice none 0 0)) b m (k + 1) F := by
  refine ⟨?_, fun i hi hik => (h.code i hi (by omega)).of_block (set3_block _ _ _ _ _ _ _ (by omega))⟩
  have h3 := rowIs_set3 (g := lcellTo F b m (k + 1)) h.row k (fun j _ => by
      by_cases e : j / 3 = k
      · rw [if_pos e]
      · rw [if_neg e]; unfold lcellTo
        by_cases e1 : j / 3 < k
        · rw [if_pos e1, if_pos (by omega)]
        · rw [if_neg e1, if_neg (by omega)])
  have e0 : lcellTo F b m (k + 1) (k * 3) = .int .i64 (-77) := by
    unfold lcellTo lcell; rw [if_pos (by omega), if_neg (by omega), if_pos (by omega)]
  have e1 : lcellTo F b m (k + 1) (k * 3 + 1) = .int .i64 0 := by
    unfold lcellTo lcell; rw [if_pos (by omega), if_neg (by omega), if_neg (by omega), if_pos (by omega)]
  have e2 : lcellTo F b m (k + 1) (k * 3 + 2) = .slice none 0 0 := by
    unfold lcellTo lcell; rw [if_pos (by omega), if_neg (by omega), if_neg (by omega), if_neg (by omega)]
  rw [e0, e1, e2] at h3
  exact h3
end Go.Proofs.YtkafkipjedpohaaGreatDoor
