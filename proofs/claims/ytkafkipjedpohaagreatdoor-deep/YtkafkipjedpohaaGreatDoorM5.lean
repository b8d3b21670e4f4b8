import Derived.Test.YtkafkipjedpohaaGreatDoorM2
import Derived.Deep.RegionHeld3
import Derived.Deep.QuietTactic

/-
  The project's machine: boxes.
-/
namespace Go.Proofs.YtkafkipjedpohaaGreatDoor
open Go.RowKit

theorem LayM.box {w : World} {B mb : Nat} {A : AdM} {s : Mc} {en : Int} (h : LayM w B mb A s en) (o : Obj) : LayM (w.alloc o) B mb { A with tag := upd A.tag w.heap.size 5 } s en :=
  h.keep (Ch.of_tags ((Below.refl _ _).alloc (Nat.le_refl _) o) (fun b hb => upd_other _ _ _ _ (by omega)))

theorem Aft.from {p : Nat → Prop} {W X w' : World} {B mb : Nat} {A : AdM} {s' : Mc} {en : Int} (h : Aft p X w' B mb A s' en) (hX : Below W.heap.size W X) : Aft p W w' B mb A s' en := by
  obtain ⟨A', h1, h2, h4⟩ := h
  exact ⟨A', h1, h2, (Ch.of_below hX).trans h4⟩
/-- What turns, but no box. -/
def N5 (d : Nat) : Prop := d ≠ 5 ∧ d ≠ 6
theorem tk5 (k : Nat) : ¬ Tk k 5 := by unfold Tk; omega
theorem tk_n5 {k d : Nat} (h : Tk k d) : N5 d := by unfold Tk at h; unfold N5; omega

/-- Behind a call, and one box more. -/
theorem Aft.boxed {p : Nat → Prop} {w w1 : World} {B mb : Nat} {A : AdM} {s' : Mc} {en : Int} (h : Aft p w w1 B mb A s' en) (o : Obj) :
    ∃ A' : AdM, LayM (w1.alloc o) B mb A' s' en ∧ A'.g = A.g ∧ A'.tag w1.heap.size = 5 ∧ Ch B p A.tag A'.tag w (w1.alloc o) := by
  obtain ⟨A1, h1, h2, h4⟩ := h
  exact ⟨_, h1.box o, h2, upd_same _ _ _, h4.trans (Ch.of_tags ((Below.refl _ _).alloc (Nat.le_refl _) o) (fun b hb => upd_other _ _ _ _ (by omega)))⟩

/-- Push, at a world behind W. -/
theorem pushX {W : World} {B mb : Nat} {A : AdM} {s : Mc} {en : Int} {f : Fr} {rest : List Fr} (hL : LayM W B mb A s en) (hs : s.fr = f :: rest) (hB : B ≤ W.heap.size) (hn : f.stk.length ≤ 64) {fbk : Nat} (hfb : A.FB rest.length = fbk) (v : V) (X : World) (hX : Below W.heap.size W X) :
    Calls Tryz.prog 132 #[.pointer (some ⟨fbk, 3, none⟩), .agg #[.int .i64 v.k, .int .i64 v.n]] X fun e w' => e = .returned (.tuple #[]) ∧ Aft (Tk rest.length) W w' B mb A { s with fr := { f with stk := v :: f.stk } :: rest } en := by
  subst hfb
  refine (pushM X B mb A s en f rest v (hL.below hX) hs (by have := hX.size; omega) hn).mono ?_
  rintro e w' ⟨rfl, h⟩
  exact ⟨rfl, h.from hX⟩

theorem popX {W : World} {B mb : Nat} {A : AdM} {s : Mc} {en : Int} {f : Fr} {rest : List Fr} {v : V} {st : List V} (hL : LayM W B mb A s en) (hs : s.fr = f :: rest) (hst : f.stk = v :: st) (hn : st.length ≤ 64) {fbk : Nat} (hfb : A.FB rest.length = fbk) (X : World) (hX : Below W.heap.size W X) :
    Calls Tryz.prog 129 #[.pointer (some ⟨fbk, 3, none⟩)] X fun e w' => e = .returned (.agg #[.int .i64 v.k, .int .i64 v.n]) ∧ Aft (Tk rest.length) W w' B mb A { s with fr := { f with stk := st } :: rest } en := by
  subst hfb
  refine (popM X B mb A s en f rest v st (hL.below hX) hs hst hn).mono ?_
  rintro e w' ⟨rfl, h⟩
  exact ⟨rfl, h.from hX⟩

theorem alloc_cell {w : World} {o : Obj} {a : Addr} {v : Value} (h : w.cell? a = some v) (ha : a.block < w.heap.size) : (w.alloc o).cell? a = some v :=
  (((Below.refl w.heap.size w).alloc (Nat.le_refl _) o).cell ha).trans h

end Go.Proofs.YtkafkipjedpohaaGreatDoor

/-
  A region that draws its order, walked once: what yields the same in every world that meets S is taken first, what comes up alone is done; an operation may panic.
-/
namespace Go.Proofs.YtkafkipjedpohaaGreatDoor
open Go

section
variable {P : Program} {ops : Array Oper} {Q : Exit → Act → World → Prop} {S : World → Prop}

/-- The walk: (false, i): number i is taken first; (true, i): number i is the only one that may come up. -/
def lexW (P : Program) (ops : Array Oper) (Q : Exit → Act → World → Prop) (S : World → Prop) : List (Bool × Nat) → Act → World → Prop
  | [], a, w => Q .normal a w
  | (true, i) :: r, a, w => wpOp P ops Q i (fun a' w' => S w' ∧ lexW P ops Q S r a' w') a w
  | (false, i) :: r, a, w => ∃ oi v, ops[i]? = some oi ∧ YieldsIf P ops S oi v a ∧ lexW P ops Q S r (a.put oi.dst v) w

def lexB (ops : Array Oper) : List (Bool × Nat) → Array Bool → Bool
  | [], listed => (Region.ready .any ops listed).isEmpty
  | (true, i) :: r, listed => decide (Region.ready .any ops listed = [i]) && lexB ops r (listed.setIfInBounds i true)
  | (false, i) :: r, listed => Region.free .any ops listed i && (Region.ready .any ops listed).contains i && lexB ops r (listed.setIfInBounds i true)

theorem lex_any (hs : Region.noSelect ops = true) (hQ : ∀ c a d v w, Q (.panic c) (Act.put a d v) w → Q (.panic c) a w) : ∀ (l : List (Bool × Nat)) (listed : Array Bool) (a : Act) (w : World),
    lexB ops l listed = true → S w → lexW P ops Q S l a w → wpAnyH P .any ops Q S l.length listed a w
  | [], listed, a, w, hB, _, h => ⟨by simpa [lexB] using hB, h⟩
  | (true, i) :: r, listed, a, w, hB, _, h => by
    simp only [lexB, Bool.and_eq_true, decide_eq_true_eq] at hB
    refine ⟨fun h0 => (by rw [hB.1] at h0; cases h0), fun j hj => ?_⟩
    rw [hB.1] at hj
    obtain rfl : j = i := by simpa using hj
    exact wpOp_mono (fun a' w' h' => ⟨h'.1, lex_any hs hQ r _ a' w' hB.2 h'.1 h'.2⟩) h
  | (false, i) :: r, listed, a, w, hB, hS, h => by
    simp only [lexB, Bool.and_eq_true] at hB
    obtain ⟨oi, v, hi, hy, h'⟩ := h
    exact wpAnyH_take hi hs hB.1.1 hB.1.2 (fun c a w => hQ c a _ _ w) hy hS (lex_any hs hQ r _ _ w hB.2 hS h')

/-- The walk as a goal, each operation beside its number. -/
structure LexG (P : Program) (ops : Array Oper) (Q : Exit → Act → World → Prop) (S : World → Prop) (l : List (Bool × Nat × Oper)) (a : Act) (w : World) : Prop where
  out : (∀ t, t ∈ l → ops[t.2.1]? = some t.2.2) → lexW P ops Q S (l.map fun t => (t.1, t.2.1)) a w

def lexL (l : List Oper) : List (Bool × Nat) → List (Bool × Nat × Oper)
  | [] => []
  | (b, i) :: r => match l[i]? with
    | some o => (b, i, o) :: lexL l r
    | none => lexL l r

theorem lexL_at (l : List Oper) : ∀ (k : List (Bool × Nat)) (t), t ∈ lexL l k → l.toArray[t.2.1]? = some t.2.2
  | [], t, h => by simp [lexL] at h
  | (b, i) :: r, t, h => by
    unfold lexL at h
    cases hi : l[i]? with
    | none => rw [hi] at h; exact lexL_at l r t h
    | some o =>
      rw [hi] at h
      rcases List.mem_cons.1 h with rfl | h
      · simpa using hi
      · exact lexL_at l r t h
theorem lexL_map (l : List Oper) : ∀ (k : List (Bool × Nat)), (k.all fun t => decide (t.2 < l.length)) = true → (lexL l k).map (fun t => (t.1, t.2.1)) = k
  | [], _ => rfl
  | (b, i) :: r, h => by
    simp only [List.all_cons, Bool.and_eq_true, decide_eq_true_eq] at h
    unfold lexL
    rw [List.getElem?_eq_getElem h.1]
    simp only [List.map_cons, lexL_map l r h.2]

theorem region_lex {id : Nat} {a : Act} {w : World} {l : List Oper} (S : World → Prop) (k : List (Bool × Nat)) (hm : P.follows .mixedOrders = true) (hB : (Region.noSelect l.toArray && decide (k.length = l.toArray.size) && (k.all fun t => decide (t.2 < l.length)) && lexB l.toArray k (Array.replicate l.toArray.size false)) = true)
    (hQ : ∀ c a d v w, Q (.panic c) (Act.put a d v) w → Q (.panic c) a w) (hS : S w.drew) (h : LexG P l.toArray Q S (lexL l k) a w.drew) : (Code.region id l.toArray true).wp P Q a w := by
  simp only [Bool.and_eq_true, decide_eq_true_eq] at hB
  have h1 := h.out (lexL_at l k)
  rw [lexL_map l k hB.1.2] at h1
  refine wp_region_held (S := S) hm ?_
  have := lex_any hB.1.1.1 hQ k _ a w.drew hB.2 hS h1
  rw [hB.1.1.2] at this
  exact this

theorem lexW_free {i : Nat} {o : Oper} {v : Value} {r : List (Bool × Nat × Oper)} {a : Act} {w : World} (hw : Region.wanted o (yielded ops a.tmps) = true) (hy : ∀ w', S w' → (execOp a.eval o).run P w' = .ok (.value v) w')
    (h : LexG P ops Q S r (a.put o.dst v) w) : LexG P ops Q S ((false, i, o) :: r) a w := ⟨fun hall => ⟨o, v, hall _ List.mem_cons_self, Or.inl ⟨hw, hy⟩, h.out (fun t ht => hall t (List.mem_cons_of_mem _ ht))⟩⟩
theorem lexW_sole {i : Nat} {o : Oper} {r : List (Bool × Nat × Oper)} {a : Act} {w : World}
    (h : ∀ K' : Act → World → Prop, Shut (∀ a w, S w → LexG P ops Q S r a w → K' a w) → if Region.wanted o (yielded ops a.tmps) = true then Oper.wp P o a w K' Q else K' (a.put o.dst undef) w) : LexG P ops Q S ((true, i, o) :: r) a w :=
  ⟨fun hall => wpOp_step (hall _ List.mem_cons_self) (fun K' hK => h K' (fun a w hS hW => hK a w ⟨hS, hW.out (fun t ht => hall t (List.mem_cons_of_mem _ ht))⟩))⟩
theorem lexW_done {a : Act} {w : World} (h : Q .normal a w) : LexG P ops Q S [] a w := ⟨fun _ => h⟩

theorem put_defers (a : Act) (d : Option Tmp) (v : Value) : (a.put d v).defers = a.defers := by cases d <;> rfl
/-- What a body's post says of a panic does not hang on the frame. -/
theorem panic_frame (K : Act → World → Prop) (fn : Func) (R : Ending → World → Prop) (c : _) (a : Act) (d : Option Tmp) (v : Value) (w : World) (h : Exit.then K (bodyPost P fn R) (.panic c) (Act.put a d v) w) : Exit.then K (bodyPost P fn R) (.panic c) a w := by
  have h : (Act.put a d v).defers = [] ∧ R (.panicked c) w := h
  rw [put_defers] at h
  exact h
theorem panic_block (n : Nat) (fn : Func) (R : Ending → World → Prop) (c : _) (a : Act) (d : Option Tmp) (v : Value) (w : World) (h : Exit.inBlock n (bodyPost P fn R) (.panic c) (Act.put a d v) w) : Exit.inBlock n (bodyPost P fn R) (.panic c) a w := by
  have h : (Act.put a d v).defers = [] ∧ R (.panicked c) w := h
  rw [put_defers] at h
  exact h
end
end Go.Proofs.YtkafkipjedpohaaGreatDoor

/-
  The project's machine: reckoned, equal.
-/
namespace Go.Proofs.YtkafkipjedpohaaGreatDoor
open Go.RowKit

theorem twoP_res {op : Int} (hop : op = 4 ∨ op = 5 ∨ op = 6 ∨ op = 7 ∨ op = 8) {a b : V} (ha : a.k = 1) (hb : b.k = 1) (hz : ¬ (op = 7 ∧ b.n = 0)) : (twoP op a b).2 = 0 ∧ (twoP op a b).1 = vnum (resP op a.n b.n) := by
  unfold twoP resP
  have h9 : op ≠ 9 := by omega
  have h1 : ¬ (a.k ≠ 1 ∨ b.k ≠ 1) := by omega
  rw [if_neg h9, if_neg h1]
  rcases hop with rfl | rfl | rfl | rfl | rfl
  · exact ⟨rfl, rfl⟩
  · exact ⟨rfl, rfl⟩
  · exact ⟨rfl, rfl⟩
  · have : b.n ≠ 0 := fun h => hz ⟨rfl, h⟩
    simp [this]
  · by_cases h : a.n < b.n <;> simp [h]
theorem twoP_type {op : Int} (hop : op = 4 ∨ op = 5 ∨ op = 6 ∨ op = 7 ∨ op = 8) {a b : V} (h : a.k ≠ 1 ∨ b.k ≠ 1) : (twoP op a b).2 = 3 := by
  unfold twoP
  rw [if_neg (by omega), if_pos h]
theorem twoP_div {a b : V} (ha : a.k = 1) (hb : b.k = 1) (hz : b.n = 0) : (twoP 7 a b).2 = 4 := by
  unfold twoP
  rw [if_neg (by omega), if_neg (by omega)]
  simp [hz]

theorem callRule (op : Int) (hop : op = 4 ∨ op = 5 ∨ op = 6 ∨ op = 7 ∨ op = 8) (args : Array Value) (X : World) : (callFunc (ruleP op) args).run Tryz.prog X = .ok (.enter (ruleP op) args) X := by
  rcases hop with rfl | rfl | rfl | rfl | rfl
  · show (callFunc 148 args).run Tryz.prog X = .ok (.enter 148 args) X
    go_simp
  · show (callFunc 149 args).run Tryz.prog X = .ok (.enter 149 args) X
    go_simp
  · show (callFunc 150 args).run Tryz.prog X = .ok (.enter 150 args) X
    go_simp
  · show (callFunc 151 args).run Tryz.prog X = .ok (.enter 151 args) X
    go_simp
  · show (callFunc 152 args).run Tryz.prog X = .ok (.enter 152 args) X
    go_simp

theorem integerB (k n : Int) (w : World) : Calls Tryz.prog 147 #[.agg #[.int .i64 k, .int .i64 n]] w fun e w' => ((k = 1 ∧ e = .returned (.int .i64 n)) ∨ (k ≠ 1 ∧ e = trapE 3)) ∧ Below w.heap.size w w' := by
  refine (integerA k n w).mono ?_
  rintro e w' ⟨h, rfl⟩
  exact ⟨h, (Below.refl _ _).alloc (Nat.le_refl _) _⟩
theorem numberB (n : Int) (w : World) : Calls Tryz.prog 133 #[.int .i64 n] w fun e w' => e = .returned (.agg #[.int .i64 1, .int .i64 n]) ∧ Below w.heap.size w w' := by
  refine (numberM n w).mono ?_
  rintro e w' ⟨h, rfl⟩
  exact ⟨h, (Below.refl _ _).alloc (Nat.le_refl _) _⟩

/-- Three boxes more: of a, of b, and one of two cells. -/
theorem three_boxes (w : World) (a0 a1 b0 b1 c0 c1 : Value) (t : TypeId) :
    let W := ((w.alloc (.cells #[a0, a1] t)).alloc (.cells #[b0, b1] t)).alloc (.cells #[c0, c1] t)
    Below w.heap.size w W ∧ W.heap.size = w.heap.size + 3 ∧ W.heap[w.heap.size]? = some (.cells #[a0, a1] t (0, 0)) ∧ W.heap[w.heap.size + 1]? = some (.cells #[b0, b1] t (0, 0)) ∧ W.heap[w.heap.size + 2]? = some (.cells #[c0, c1] t (0, 0)) := by
  refine ⟨(((Below.refl _ _).alloc (by simp) _).alloc (by simp) _).alloc (by simp; omega) _, by simp, ?_, ?_, ?_⟩
  · rw [Below.heap_alloc _ _ _ (by simp; omega), Below.heap_alloc _ _ _ (by simp)]
    exact Go.Deep.blk_alloc_new _ _
  · rw [Below.heap_alloc _ _ _ (by simp)]
    have := Go.Deep.blk_alloc_new (w.alloc (.cells #[a0, a1] t)) (.cells #[b0, b1] t)
    simpa using this
  · have := Go.Deep.blk_alloc_new ((w.alloc (.cells #[a0, a1] t)).alloc (.cells #[b0, b1] t)) (.cells #[c0, c1] t)
    simpa using this

/-- S: below b all is as in W; block b has two cells that may be written. -/
def Sb (W : World) (b : Nat) (t : TypeId) (w' : World) : Prop := Below b W w' ∧ ∃ x y, w'.heap[b]? = some (.cells #[x, y] t (0, 0))
theorem Sb.on {W w1 w2 : World} {b : Nat} {t : TypeId} (h : Sb W b t w1) (k : Below w1.heap.size w1 w2) : Sb W b t w2 := by
  obtain ⟨h1, x, y, h2⟩ := h
  exact ⟨h1.trans (k.mono (by have := heap_lt h2; omega)), x, y, (k.block b (heap_lt h2)).trans h2⟩
theorem Sb.drew {W w1 : World} {b : Nat} {t : TypeId} (h : Sb W b t w1) : Sb W b t w1.drew := h.on (Below.refl _ _).drew
theorem Sb.set {W w1 : World} {b : Nat} {t : TypeId} (h : Sb W b t w1) (x y : Value) : Sb W b t ((w1.setCell ⟨b, 0, none⟩ x).setCell ⟨b, 1, none⟩ y) := by
  obtain ⟨h1, x', y', h2⟩ := h
  refine ⟨(h1.setCell (Nat.le_refl _) _).setCell (Nat.le_refl _) _, x, y, ?_⟩
  rw [heap_set (heap_set h2 _) _]
  rfl
theorem Sb.cells {W w1 : World} {b : Nat} {t : TypeId} (h : Sb W b t w1) : ∃ x y, w1.cell? ⟨b, 0, none⟩ = some x ∧ w1.cell? ⟨b, 1, none⟩ = some y ∧ w1.frozen? ⟨b, 0, none⟩ = false ∧ w1.frozen? ⟨b, 1, none⟩ = false := by
  obtain ⟨_, x, y, h2⟩ := h
  exact ⟨x, y, (cell_heap h2).trans rfl, (cell_heap h2).trans rfl, frozen_heap h2, frozen_heap h2⟩

theorem Sb.read {W w1 : World} {b : Nat} {t : TypeId} (h : Sb W b t w1) (x y : Value) : ((w1.setCell ⟨b, 0, none⟩ x).setCell ⟨b, 1, none⟩ y).cell? ⟨b, 0, none⟩ = some x ∧ ((w1.setCell ⟨b, 0, none⟩ x).setCell ⟨b, 1, none⟩ y).cell? ⟨b, 1, none⟩ = some y := by
  obtain ⟨_, x', y', h2⟩ := h
  have h3 := heap_set (o := 1) (heap_set (o := 0) h2 x) y
  exact ⟨(cell_heap h3).trans rfl, (cell_heap h3).trans rfl⟩

set_option maxRecDepth 100000 in
set_option maxHeartbeats 1000000 in
theorem reckonedA (op : Int) (hop : op = 4 ∨ op = 5 ∨ op = 6 ∨ op = 7 ∨ op = 8) (a b : V) (w : World) :
    Calls Tryz.prog 136 #[.func (.func (ruleP op)) #[] #[], .agg #[.int .i64 a.k, .int .i64 a.n], .agg #[.int .i64 b.k, .int .i64 b.n]] w fun e w' =>
      (((twoP op a b).2 = 0 ∧ e = .returned (.agg #[.int .i64 (twoP op a b).1.k, .int .i64 (twoP op a b).1.n])) ∨ ((twoP op a b).2 ≠ 0 ∧ e = trapE (twoP op a b).2)) ∧ Below w.heap.size w w' := by
  have HR := hid (fun X => resultA op a.n b.n hop X)
  have hcf := callRule op hop
  generalize hrf : ruleP op = rf at HR hcf ⊢
  have HO := hid hop
  have HB := hid (three_boxes w (.int .i64 a.k) (.int .i64 a.n) (.int .i64 b.k) (.int .i64 b.n) (.int .i64 0) (.int .i64 0) 43)
  clear hop hrf
  go_enter Tryz.func136, Tryz.ntmps136
  go_wp2_with fail
  have HB2 := HB.out
  clear HB
  generalize ((w.alloc (.cells #[.int .i64 a.k, .int .i64 a.n] 43)).alloc (.cells #[.int .i64 b.k, .int .i64 b.n] 43)).alloc (.cells #[.int .i64 0, .int .i64 0] 43) = W at *
  have H := hid HB2
  clear HB2
  have HC := hid (fun (w' : World) (h : Sb W (w.heap.size + 2) 43 w') => (show w'.cell? ⟨w.heap.size, 0, none⟩ = some (.int .i64 a.k) ∧ w'.cell? ⟨w.heap.size, 1, none⟩ = some (.int .i64 a.n) ∧ w'.cell? ⟨w.heap.size + 1, 0, none⟩ = some (.int .i64 b.k) ∧ w'.cell? ⟨w.heap.size + 1, 1, none⟩ = some (.int .i64 b.n) from by
    obtain ⟨_, _, g1, g2, _⟩ := H.out
    have k1 := (h.1.block w.heap.size (by omega)).trans g1
    have k2 := (h.1.block (w.heap.size + 1) (by omega)).trans g2
    exact ⟨(cell_heap k1).trans rfl, (cell_heap k1).trans rfl, (cell_heap k2).trans rfl, (cell_heap k2).trans rfl⟩))
  have HE := hid (fun (w' : World) (h : Sb W (w.heap.size + 2) 43 w') => (show Below w.heap.size w w' from H.out.1.trans (h.1.mono (by omega))))
  have hS0 : Sb W (w.heap.size + 2) 43 W.drew := (show Sb W (w.heap.size + 2) 43 W from ⟨Below.refl _ _, _, _, H.out.2.2.2.2⟩).drew
  have S0 := hid hS0
  refine region_lex (Sb W (w.heap.size + 2) 43) [(false, 0), (false, 1), (false, 3), (true, 2), (true, 4), (true, 5), (true, 6), (true, 7)] (by kernel_rfl) (by kernel_rfl) (panic_frame _ _ _) hS0 ?_
  clear hS0
  simp only [lexL, List.getElem?_cons_zero, List.getElem?_cons_succ]
  iterate 3 (refine lexW_free (by rfl) (by intro w' hS'; obtain ⟨h1, h2, h3, h4⟩ := HC.out w' hS'; go_simp; exact rfl) ?_; simp only [Act.put, List.setIfInBounds_toArray, List.set_cons_zero, List.set_cons_succ])
  generalize W.drew = w0 at S0 ⊢
  refine lexW_sole (fun K hK => ?_)
  go_simp
  refine (integerB _ _ _).mono ?_
  rintro e w1 ⟨⟨hk1, rfl⟩ | ⟨hk1, rfl⟩, b1⟩
  · have S1 := hid (S0.out.on b1)
    have K1 := hid hk1
    refine hK.out _ _ S1.out ?_
    clear hK K hk1 b1
    refine lexW_sole (fun K hK => ?_)
    go_simp
    refine (integerB _ _ _).mono ?_
    rintro e w2 ⟨⟨hk2, rfl⟩ | ⟨hk2, rfl⟩, b2⟩
    · have S2 := hid (S1.out.on b2)
      have K2 := hid hk2
      refine hK.out _ _ S2.out ?_
      clear hK K hk2 b2
      refine lexW_sole (fun K hK => ?_)
      go_simp
      refine (HR.out _).mono ?_
      rintro e w3 ⟨⟨hk3, rfl⟩ | ⟨hk3, rfl⟩, rfl⟩
      · have K3 := hid hk3
        refine hK.out _ _ S2.out ?_
        clear hK K hk3
        refine lexW_sole (fun K hK => ?_)
        go_simp
        refine (numberB _ _).mono ?_
        rintro e w4 ⟨rfl, b4⟩
        have S4 := hid (S2.out.on b4)
        refine hK.out _ _ S4.out ?_
        clear hK K b4
        obtain ⟨x, y, y0, y1, z0, z1⟩ := S4.out.cells
        refine lexW_sole (fun K hK => ?_)
        go_simp
        refine hK.out _ _ (S4.out.set _ _) ?_
        clear hK K
        refine lexW_done ?_
        have hr := twoP_res HO.out K1.out K2.out K3.out
        have HZ := hid (And.intro hr (HE.out _ (S4.out.set (.int .i64 1) (.int .i64 (resP op a.n b.n)))))
        clear hr
        go_wp2
        obtain ⟨r0, r1⟩ := S4.out.read (.int .i64 1) (.int .i64 (resP op a.n b.n))
        refine bodyPost_ret (v := .agg #[.int .i64 1, .int .i64 (resP op a.n b.n)]) (by simp [results, Tryz.results136, go_sem, r0, r1]) rfl ⟨Or.inl ⟨HZ.out.1.1, ?_⟩, HZ.out.2⟩
        rw [HZ.out.1.2]
        rfl
      · have hr : (twoP op a b).2 = 4 := by obtain ⟨rfl, h0⟩ := hk3; exact twoP_div K1.out K2.out h0
        refine ⟨rfl, Or.inr ⟨by omega, by rw [hr]; rfl⟩, HE.out _ S2.out⟩
    · have hr := twoP_type HO.out (a := a) (b := b) (Or.inr hk2)
      exact ⟨rfl, Or.inr ⟨by omega, by rw [hr]; rfl⟩, HE.out _ (S1.out.on b2)⟩
  · have hr := twoP_type HO.out (a := a) (b := b) (Or.inl hk1)
    exact ⟨rfl, Or.inr ⟨by omega, by rw [hr]; rfl⟩, HE.out _ (S0.out.on b1)⟩
end Go.Proofs.YtkafkipjedpohaaGreatDoor
