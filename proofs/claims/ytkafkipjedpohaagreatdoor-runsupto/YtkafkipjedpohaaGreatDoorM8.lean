import Derived.Test.YtkafkipjedpohaaGreatDoorM6

/-
  The project's machine: how a run stands within a call, with the boxes that the call has made; Push, Pop, popTwo.
-/
namespace Go.Proofs.YtkafkipjedpohaaGreatDoor
open Go.RowKit

/-- Boxes: where, what they hold, of which type. -/
def Bx (w : World) (tag : Nat → Nat) (l : List (Nat × Array Value × TypeId)) : Prop := ∀ t, t ∈ l → w.heap[t.1]? = some (.cells t.2.1 t.2.2 (0, 0)) ∧ tag t.1 = 5
/-- The same, without the tags. -/
def Hb (l : List (Nat × Array Value × TypeId)) (w : World) : Prop := ∀ t, t ∈ l → w.heap[t.1]? = some (.cells t.2.1 t.2.2 (0, 0))
theorem Bx.keep {w w' : World} {B : Nat} {p : Nat → Prop} {tag tag' : Nat → Nat} {l : List (Nat × Array Value × TypeId)} (h : Bx w tag l) (k : Ch B p tag tag' w w') (hp : ¬ p 5) : Bx w' tag' l := fun t ht => by
  obtain ⟨h1, h2⟩ := h t ht
  exact ⟨(k.block t.1 (heap_lt h1) (Or.inr (by rw [h2]; exact hp))).trans h1, (k.tags t.1 (heap_lt h1)).trans h2⟩
theorem Hb.drew {l : List (Nat × Array Value × TypeId)} {w : World} (h : Hb l w) : Hb l w.drew := h
theorem Hb.below {l : List (Nat × Array Value × TypeId)} {w w' : World} (h : Hb l w) (k : Below w.heap.size w w') : Hb l w' := fun t ht => (k.block t.1 (heap_lt (h t ht))).trans (h t ht)
theorem Hb.cell {l : List (Nat × Array Value × TypeId)} {w : World} (h : Hb l w) {b : Nat} {c : Array Value} {t : TypeId} (hm : (b, c, t) ∈ l) (i : Nat) : w.cell? ⟨b, i, none⟩ = c[i]? := cell_heap (h _ hm)

theorem n55 : ¬ N5 5 := fun h => h.1 rfl
theorem n56 : ¬ N5 6 := fun h => h.2 rfl

/-- How a run stands within a call that began in w0. -/
def Cur (w0 : World) (B mb : Nat) (A0 : AdM) (s : Mc) (en : Int) (l : List (Nat × Array Value × TypeId)) (w : World) : Prop :=
  B ≤ w0.heap.size ∧ ∃ A : AdM, LayM w B mb A s en ∧ A.g = A0.g ∧ Ch B N5 A0.tag A.tag w0 w ∧ Bx w A.tag l

theorem Cur.start {w : World} {B mb : Nat} {A : AdM} {s : Mc} {en : Int} (h : LayM w B mb A s en) (hB : B ≤ w.heap.size) : Cur w B mb A s en [] w := ⟨hB, A, h, rfl, Ch.refl _ _ _ _, fun t ht => by cases ht⟩
theorem Cur.hb {w0 w : World} {B mb : Nat} {A0 : AdM} {s : Mc} {en : Int} {l : List (Nat × Array Value × TypeId)} (h : Cur w0 B mb A0 s en l w) : Hb l w := by
  obtain ⟨_, A, _, _, _, b⟩ := h
  exact fun t ht => (b t ht).1
theorem Cur.below {w0 w w' : World} {B mb : Nat} {A0 : AdM} {s : Mc} {en : Int} {l : List (Nat × Array Value × TypeId)} (h : Cur w0 B mb A0 s en l w) (k : Below w.heap.size w w') : Cur w0 B mb A0 s en l w' := by
  obtain ⟨hB, A, h1, h2, h3, h4⟩ := h
  exact ⟨hB, A, h1.below k, h2, h3.trans' k, h4.keep (Ch.of_below (p := fun _ => False) (B := B) k) (fun h => h)⟩
theorem Cur.drew {w0 w : World} {B mb : Nat} {A0 : AdM} {s : Mc} {en : Int} {l : List (Nat × Array Value × TypeId)} (h : Cur w0 B mb A0 s en l w) : Cur w0 B mb A0 s en l w.drew := h.below (Below.refl _ _).drew
theorem Cur.box {w0 w : World} {B mb : Nat} {A0 : AdM} {s : Mc} {en : Int} {l : List (Nat × Array Value × TypeId)} (h : Cur w0 B mb A0 s en l w) (c : Array Value) (t : TypeId) : Cur w0 B mb A0 s en ((w.heap.size, c, t) :: l) (w.alloc (.cells c t)) := by
  obtain ⟨hB, A, h1, h2, h3, h4⟩ := h
  have hc : Ch B (fun _ => False) A.tag (upd A.tag w.heap.size 5) w (w.alloc (.cells c t)) := Ch.of_tags ((Below.refl _ _).alloc (Nat.le_refl _) _) (fun b hb => upd_other _ _ _ _ (by omega))
  refine ⟨hB, _, h1.box _, h2, h3.trans (hc.mono (fun _ h => h.elim)), fun u hu => ?_⟩
  rcases List.mem_cons.1 hu with rfl | hu
  · exact ⟨Go.Deep.blk_alloc_new _ _, upd_same _ _ _⟩
  · exact h4.keep hc (fun h => h) u hu
/-- Behind a callee that keeps the boxes. -/
theorem Cur.aft {w0 w w' : World} {B mb : Nat} {A0 A : AdM} {s' : Mc} {en' : Int} {l : List (Nat × Array Value × TypeId)} (hB : B ≤ w0.heap.size) (hg : A.g = A0.g) (hc : Ch B N5 A0.tag A.tag w0 w) (hb : Bx w A.tag l) {p : Nat → Prop} (hp : ∀ d, p d → N5 d) (h : Aft p w w' B mb A s' en') : Cur w0 B mb A0 s' en' l w' := by
  obtain ⟨A', h1, h2, h3⟩ := h
  exact ⟨hB, A', h1, h2.trans hg, hc.trans (h3.mono hp), hb.keep h3 (fun h => (hp _ h).1 rfl)⟩
theorem Cur.done {w0 w : World} {B mb : Nat} {A0 : AdM} {s : Mc} {en : Int} {l : List (Nat × Array Value × TypeId)} (h : Cur w0 B mb A0 s en l w) : Aft N5 w0 w B mb A0 s en := by
  obtain ⟨_, A, h1, h2, h3, _⟩ := h
  exact ⟨A, h1, h2, h3⟩
theorem Cur.drop {w0 w : World} {B mb : Nat} {A0 : AdM} {s : Mc} {en : Int} {l l' : List (Nat × Array Value × TypeId)} (h : Cur w0 B mb A0 s en l w) (hl : ∀ t, t ∈ l' → t ∈ l) : Cur w0 B mb A0 s en l' w := by
  obtain ⟨hB, A, h1, h2, h3, h4⟩ := h
  exact ⟨hB, A, h1, h2, h3, fun t ht => h4 t (hl t ht)⟩

theorem LayM.keep5 {w w' : World} {B mb : Nat} {A : AdM} {s : Mc} {en : Int} {tag' : Nat → Nat} (h : LayM w B mb A s en) (k : Ch B (fun d => d = 5) A.tag tag' w w') : LayM w' B mb { A with tag := tag' } s en := by
  obtain ⟨r1, r2⟩ := blk_keep h.run k (by rw [h.own.2]; omega)
  refine ⟨r1, ⟨h.own.1, r2.trans h.own.2⟩, h.fr.keep k (by omega), fun i hi => ?_, h.ar.keep k (by omega), h.out.keep k (by omega), fun i hi => (h.loc i hi).keep k (by omega), fun i hi => (h.stk i hi).keep k (by omega), fun j hj => (h.arr j hj).keep k (by omega)⟩
  obtain ⟨g1, g2, g3⟩ := h.fb i hi
  obtain ⟨g4, g5⟩ := blk_keep g1 k (by rw [g3]; omega)
  exact ⟨g4, g2, g5.trans g3⟩

/-- A box that the call has made is written. -/
theorem Cur.set {w0 w : World} {B mb : Nat} {A0 : AdM} {s : Mc} {en : Int} {l r : List (Nat × Array Value × TypeId)} {b : Nat} {c : Array Value} {t : TypeId} (h : Cur w0 B mb A0 s en (l ++ (b, c, t) :: r) w) (hw : w0.heap.size ≤ b) (hl : ∀ u, u ∈ l ++ r → u.1 ≠ b) (i : Nat) (v : Value) :
    Cur w0 B mb A0 s en (l ++ (b, c.setIfInBounds i v, t) :: r) (w.setCell ⟨b, i, none⟩ v) := by
  obtain ⟨hB, A, h1, h2, h3, h4⟩ := h
  obtain ⟨k1, k2⟩ := h4 (b, c, t) (by simp)
  have hBb : B ≤ b := Nat.le_trans hB hw
  have hc : Ch B (fun d => d = 5) A.tag A.tag w (w.setCell ⟨b, i, none⟩ v) := Ch.set w _ _ _ hBb k2
  refine ⟨hB, A, h1.keep5 hc, h2, h3.setNew hw v, fun u hu => ?_⟩
  have hu' : u = (b, c.setIfInBounds i v, t) ∨ u ∈ l ++ r := by
    rcases List.mem_append.1 hu with hu | hu
    · exact Or.inr (List.mem_append.2 (Or.inl hu))
    · rcases List.mem_cons.1 hu with hu | hu
      · exact Or.inl hu
      · exact Or.inr (List.mem_append.2 (Or.inr hu))
  rcases hu' with rfl | hu'
  · exact ⟨heap_set k1 _, k2⟩
  · have hm : u ∈ l ++ (b, c, t) :: r := by
      rcases List.mem_append.1 hu' with h | h
      · exact List.mem_append.2 (Or.inl h)
      · exact List.mem_append.2 (Or.inr (List.mem_cons_of_mem _ h))
    obtain ⟨j1, j2⟩ := h4 u hm
    exact ⟨(Below.heap_setCell _ _ _ _ (hl u hu')).trans j1, j2⟩

theorem Cur.le {w0 w : World} {B mb : Nat} {A0 : AdM} {s : Mc} {en : Int} {l : List (Nat × Array Value × TypeId)} (h : Cur w0 B mb A0 s en l w) : w0.heap.size ≤ w.heap.size ∧ B ≤ w.heap.size := by
  obtain ⟨hB, A, _, _, h3, _⟩ := h
  have := h3.size
  exact ⟨this, by omega⟩

theorem Cur.push {w0 w : World} {B mb : Nat} {A0 : AdM} {s : Mc} {en : Int} {l : List (Nat × Array Value × TypeId)} (h : Cur w0 B mb A0 s en l w) {f : Fr} {rest : List Fr} (hs : s.fr = f :: rest) (hn : f.stk.length ≤ 64) (v : V) :
    Calls Tryz.prog 132 #[.pointer (some ⟨A0.FB rest.length, 3, none⟩), .agg #[.int .i64 v.k, .int .i64 v.n]] w fun e w' => e = .returned (.tuple #[]) ∧ Cur w0 B mb A0 { s with fr := { f with stk := v :: f.stk } :: rest } en l w' := by
  have hle := h.le.2
  obtain ⟨hB, A, h1, h2, h3, h4⟩ := h
  have hfb : A.FB = A0.FB := by unfold AdM.FB; rw [h2]
  rw [← hfb]
  refine (pushM w B mb A s en f rest v h1 hs hle hn).mono ?_
  rintro e w' ⟨rfl, h⟩
  exact ⟨rfl, Cur.aft hB h2 h3 h4 (fun _ => tk_n5) h⟩
theorem Cur.pop {w0 w : World} {B mb : Nat} {A0 : AdM} {s : Mc} {en : Int} {l : List (Nat × Array Value × TypeId)} (h : Cur w0 B mb A0 s en l w) {f : Fr} {rest : List Fr} (hs : s.fr = f :: rest) {v : V} {st : List V} (hst : f.stk = v :: st) (hn : st.length ≤ 64) :
    Calls Tryz.prog 129 #[.pointer (some ⟨A0.FB rest.length, 3, none⟩)] w fun e w' => e = .returned (.agg #[.int .i64 v.k, .int .i64 v.n]) ∧ Cur w0 B mb A0 { s with fr := { f with stk := st } :: rest } en l w' := by
  obtain ⟨hB, A, h1, h2, h3, h4⟩ := h
  have hfb : A.FB = A0.FB := by unfold AdM.FB; rw [h2]
  rw [← hfb]
  refine (popM w B mb A s en f rest v st h1 hs hst hn).mono ?_
  rintro e w' ⟨rfl, h⟩
  exact ⟨rfl, Cur.aft hB h2 h3 h4 (fun _ => tk_n5) h⟩

theorem Cur.write0 {w0 w : World} {B mb : Nat} {A0 : AdM} {s : Mc} {en : Int} {r : List (Nat × Array Value × TypeId)} {b : Nat} {c0 c1 : Value} {t : TypeId} (h : Cur w0 B mb A0 s en ((b, #[c0, c1], t) :: r) w) (hw : w0.heap.size ≤ b) (hl : ∀ u, u ∈ r → u.1 ≠ b) (x y : Value) :
    Cur w0 B mb A0 s en ((b, #[x, y], t) :: r) ((w.setCell ⟨b, 0, none⟩ x).setCell ⟨b, 1, none⟩ y) :=
  (Cur.set (l := []) (Cur.set (l := []) h hw hl 0 x) hw hl 1 y)
theorem Cur.write1 {w0 w : World} {B mb : Nat} {A0 : AdM} {s : Mc} {en : Int} {q : Nat × Array Value × TypeId} {r : List (Nat × Array Value × TypeId)} {b : Nat} {c0 c1 : Value} {t : TypeId} (h : Cur w0 B mb A0 s en (q :: (b, #[c0, c1], t) :: r) w) (hw : w0.heap.size ≤ b) (hl : ∀ u, u ∈ [q] ++ r → u.1 ≠ b) (x y : Value) :
    Cur w0 B mb A0 s en (q :: (b, #[x, y], t) :: r) ((w.setCell ⟨b, 0, none⟩ x).setCell ⟨b, 1, none⟩ y) :=
  (Cur.set (l := [q]) (Cur.set (l := [q]) h hw hl 0 x) hw hl 1 y)
theorem Hb.frozen {l : List (Nat × Array Value × TypeId)} {w : World} (h : Hb l w) {b : Nat} {c : Array Value} {t : TypeId} (hm : (b, c, t) ∈ l) (i : Nat) : w.frozen? ⟨b, i, none⟩ = false := frozen_heap (h _ hm)
/-- The two cells of a box, as they are read and written. -/
theorem Hb.two {l : List (Nat × Array Value × TypeId)} {w : World} (h : Hb l w) {b : Nat} {c0 c1 : Value} {t : TypeId} (hm : (b, #[c0, c1], t) ∈ l) : w.cell? ⟨b, 0, none⟩ = some c0 ∧ w.cell? ⟨b, 1, none⟩ = some c1 ∧ w.frozen? ⟨b, 0, none⟩ = false ∧ w.frozen? ⟨b, 1, none⟩ = false :=
  ⟨(h.cell hm 0).trans rfl, (h.cell hm 1).trans rfl, h.frozen hm 0, h.frozen hm 1⟩

theorem cur_two {w0 w : World} {B mb : Nat} {A0 : AdM} {s : Mc} {en : Int} {l : List (Nat × Array Value × TypeId)} (h : Cur w0 B mb A0 s en l w) (c d : Array Value) (t : TypeId) : Cur w0 B mb A0 s en ((w.heap.size + 1, d, t) :: (w.heap.size, c, t) :: l) ((w.alloc (.cells c t)).alloc (.cells d t)) := by
  have := (h.box c t).box d t
  simpa using this

/-- Two boxes more, as two variables are declared and set. -/
theorem Cur.two {w0 w : World} {B mb : Nat} {A0 : AdM} {s : Mc} {en : Int} {l : List (Nat × Array Value × TypeId)} (h : Cur w0 B mb A0 s en l w) (hl : ∀ u, u ∈ l → u.1 < w.heap.size) (z0 z1 a0 a1 b0 b1 : Value) (t : TypeId) :
    Cur w0 B mb A0 s en ((w.heap.size + 1, #[b0, b1], t) :: (w.heap.size, #[a0, a1], t) :: l) ((((((w.alloc (.cells #[z0, z1] t)).alloc (.cells #[z0, z1] t)).setCell ⟨w.heap.size, 0, none⟩ a0).setCell ⟨w.heap.size, 1, none⟩ a1).setCell ⟨w.heap.size + 1, 0, none⟩ b0).setCell ⟨w.heap.size + 1, 1, none⟩ b1) := by
  have hle := h.le.1
  have h1 := cur_two h #[z0, z1] #[z0, z1] t
  have h2 := h1.write1 hle (fun u hu => by
    rcases List.mem_cons.1 hu with rfl | hu
    · show w.heap.size + 1 ≠ _
      omega
    · have := hl u hu
      omega) a0 a1
  exact h2.write0 (by omega) (fun u hu => by
    rcases List.mem_cons.1 hu with rfl | hu
    · show w.heap.size ≠ _
      omega
    · have := hl u hu
      omega) b0 b1
/-- One box more, as a variable is declared and set. -/
theorem Cur.one {w0 w : World} {B mb : Nat} {A0 : AdM} {s : Mc} {en : Int} {l : List (Nat × Array Value × TypeId)} (h : Cur w0 B mb A0 s en l w) (hl : ∀ u, u ∈ l → u.1 < w.heap.size) (z0 z1 a0 a1 : Value) (t : TypeId) :
    Cur w0 B mb A0 s en ((w.heap.size, #[a0, a1], t) :: l) (((w.alloc (.cells #[z0, z1] t)).setCell ⟨w.heap.size, 0, none⟩ a0).setCell ⟨w.heap.size, 1, none⟩ a1) :=
  (h.box #[z0, z1] t).write0 h.le.1 (fun u hu => by have := hl u hu; omega) a0 a1
theorem Cur.lt {w0 w : World} {B mb : Nat} {A0 : AdM} {s : Mc} {en : Int} {l : List (Nat × Array Value × TypeId)} (h : Cur w0 B mb A0 s en l w) : ∀ u, u ∈ l → u.1 < w.heap.size := fun u hu => heap_lt (h.hb u hu)

set_option maxRecDepth 100000 in
set_option maxHeartbeats 1000000 in
theorem Cur.popTwo {w0 w : World} {B mb : Nat} {A0 : AdM} {s : Mc} {en : Int} {l : List (Nat × Array Value × TypeId)} (h : Cur w0 B mb A0 s en l w) (hl : ∀ u, u ∈ l → u.1 < w.heap.size) {f : Fr} {rest : List Fr} (hs : s.fr = f :: rest) {b a : V} {st : List V} (hst : f.stk = b :: a :: st) (hn : st.length ≤ 60) :
    Calls Tryz.prog 135 #[.pointer (some ⟨A0.FB rest.length, 0, none⟩)] w fun e w' => e = .returned (.tuple #[.agg #[.int .i64 a.k, .int .i64 a.n], .agg #[.int .i64 b.k, .int .i64 b.n]]) ∧
      Cur w0 B mb A0 { s with fr := { f with stk := st } :: rest } en l w' := by
  have hw0 := h.le.1
  have H1 := hid (cur_two h #[.int .i64 0, .int .i64 0] #[.int .i64 0, .int .i64 0] 43)
  have HL := hid hl
  generalize hfb : A0.FB rest.length = fb
  have HF := hid hfb
  clear h hl hfb
  go_enter Tryz.func135, Tryz.ntmps135
  go_wp2_with fail
  generalize (w.alloc (.cells #[.int .i64 0, .int .i64 0] 43)).alloc (.cells #[.int .i64 0, .int .i64 0] 43) = W at *
  have hp := H1.out.pop hs hst (by simp; omega)
  rw [HF.out] at hp
  refine hp.mono ?_
  rintro e w1 ⟨rfl, c1⟩
  have hl1 : ∀ u, u ∈ (w.heap.size, #[Value.int .i64 0, Value.int .i64 0], 43) :: l → u.1 ≠ w.heap.size + 1 := fun u hu => by
    rcases List.mem_cons.1 hu with rfl | hu
    · show w.heap.size ≠ _
      omega
    · have := HL.out u hu
      omega
  have c2 := c1.write0 (by omega) hl1 (.int .i64 b.k) (.int .i64 b.n)
  obtain ⟨x0, x1, z0, z1⟩ := c1.hb.two List.mem_cons_self
  have H2 := hid c2
  clear c1 c2 hp hl1 H1 hst
  go_wp2_with fail
  clear x0 x1 z0 z1
  generalize (w1.setCell ⟨w.heap.size + 1, 0, none⟩ (.int .i64 b.k)).setCell ⟨w.heap.size + 1, 1, none⟩ (.int .i64 b.n) = w2 at *
  have hp := H2.out.pop (v := a) (st := st) rfl rfl (by omega)
  rw [HF.out] at hp
  refine hp.mono ?_
  rintro e w3 ⟨rfl, c3⟩
  have hl2 : ∀ u, u ∈ [(w.heap.size + 1, #[Value.int .i64 b.k, Value.int .i64 b.n], 43)] ++ l → u.1 ≠ w.heap.size := fun u hu => by
    rcases List.mem_cons.1 hu with rfl | hu
    · show w.heap.size + 1 ≠ _
      omega
    · have := HL.out u hu
      omega
  have hl3 : ∀ u, u ∈ (w.heap.size, #[Value.int .i64 a.k, Value.int .i64 a.n], 43) :: l → u.1 ≠ w.heap.size + 1 := fun u hu => by
    rcases List.mem_cons.1 hu with rfl | hu
    · show w.heap.size ≠ _
      omega
    · have := HL.out u hu
      omega
  have c4 := c3.write1 (by omega) hl2 (.int .i64 a.k) (.int .i64 a.n)
  obtain ⟨x0, x1, z0, z1⟩ := c3.hb.two (List.mem_cons_of_mem _ List.mem_cons_self)
  have H4 := hid c4
  have HLL := hid (And.intro hl2 hl3)
  clear c3 c4 hp H2 hl2 hl3
  go_wp2_with fail
  clear x0 x1 z0 z1
  generalize (w3.setCell ⟨w.heap.size, 0, none⟩ (.int .i64 a.k)).setCell ⟨w.heap.size, 1, none⟩ (.int .i64 a.n) = w4 at *
  have H5 := hid H4.out.drew
  refine region_lex (Hb ((w.heap.size + 1, #[Value.int .i64 b.k, Value.int .i64 b.n], 43) :: (w.heap.size, #[Value.int .i64 a.k, Value.int .i64 a.n], 43) :: l)) [(false, 0), (false, 1), (true, 2), (true, 3)] (by kernel_rfl) (by kernel_rfl) (panic_frame _ _ _) H5.out.hb ?_
  simp only [lexL, List.getElem?_cons_zero, List.getElem?_cons_succ]
  iterate 2 (refine lexW_free (by rfl) (by intro w' hS'; obtain ⟨y0, y1, _, _⟩ := hS'.two List.mem_cons_self; obtain ⟨u0, u1, _, _⟩ := hS'.two (List.mem_cons_of_mem _ List.mem_cons_self); clear hS'; go_simp; exact rfl) ?_; simp only [Act.put, List.setIfInBounds_toArray, List.set_cons_zero, List.set_cons_succ])
  generalize w4.drew = w5 at H5 ⊢
  obtain ⟨y0, y1, g0, g1⟩ := H5.out.hb.two (List.mem_cons_of_mem _ List.mem_cons_self)
  have H6 := hid (H5.out.write1 (by omega) HLL.out.1 (.int .i64 a.k) (.int .i64 a.n))
  refine lexW_sole (fun K hK => ?_)
  go_simp
  refine hK.out _ _ H6.out.hb ?_
  clear hK K y0 y1 g0 g1
  generalize (w5.setCell ⟨w.heap.size, 0, none⟩ (.int .i64 a.k)).setCell ⟨w.heap.size, 1, none⟩ (.int .i64 a.n) = w6 at *
  obtain ⟨y0, y1, g0, g1⟩ := H6.out.hb.two List.mem_cons_self
  have H7 := hid (H6.out.write0 (by omega) HLL.out.2 (.int .i64 b.k) (.int .i64 b.n))
  refine lexW_sole (fun K hK => ?_)
  go_simp
  refine hK.out _ _ H7.out.hb ?_
  clear hK K y0 y1 g0 g1
  generalize (w6.setCell ⟨w.heap.size + 1, 0, none⟩ (.int .i64 b.k)).setCell ⟨w.heap.size + 1, 1, none⟩ (.int .i64 b.n) = w7 at *
  refine lexW_done ?_
  clear HL H4 H5 H6 HLL
  go_wp2
  obtain ⟨y0, y1, g0, g1⟩ := H7.out.hb.two List.mem_cons_self
  obtain ⟨u0, u1, v0, v1⟩ := H7.out.hb.two (List.mem_cons_of_mem _ List.mem_cons_self)
  exact bodyPost_ret (v := .tuple #[.agg #[.int .i64 a.k, .int .i64 a.n], .agg #[.int .i64 b.k, .int .i64 b.n]]) (by simp [results, Tryz.results135, go_sem, y0, y1, u0, u1]) rfl ⟨rfl, H7.out.drop (fun t ht => List.mem_cons_of_mem _ (List.mem_cons_of_mem _ ht))⟩
end Go.Proofs.YtkafkipjedpohaaGreatDoor

/-
  The project's machine: straight: Const, Nil, Fun, Load, Pop, Equal, Len, Dup.
-/
namespace Go.Proofs.YtkafkipjedpohaaGreatDoor
open Go.RowKit

/-- What straight leaves: of the frame at hand, the arrays, what was printed; or a trap. -/
def StrE (w : World) (B mb : Nat) (A : AdM) (s : Mc) (en : Int) (rest : List Fr) (x : Fr × List (List V) × List V × Int) (e : Ending) (w' : World) : Prop :=
  ((x.2.2.2 = 0 ∧ e = .returned (.tuple #[])) ∨ (x.2.2.2 ≠ 0 ∧ e = trapE x.2.2.2)) ∧ Aft N5 w w' B mb A { s with fr := x.1 :: rest, arr := x.2.1, out := x.2.2.1 } en
theorem StrE.ok {w : World} {B mb : Nat} {A : AdM} {s : Mc} {en : Int} {rest : List Fr} {f' : Fr} {arr : List (List V)} {out : List V} {w' : World} (h : Aft N5 w w' B mb A { s with fr := f' :: rest, arr := arr, out := out } en) : StrE w B mb A s en rest (f', arr, out, 0) (.returned (.tuple #[])) w' :=
  ⟨Or.inl ⟨rfl, rfl⟩, h⟩
theorem StrE.trap {w : World} {B mb : Nat} {A : AdM} {s : Mc} {en : Int} {rest : List Fr} {f' : Fr} {arr : List (List V)} {out : List V} {t : Int} {w' : World} (ht : t ≠ 0) (h : Aft N5 w w' B mb A { s with fr := f' :: rest, arr := arr, out := out } en) : StrE w B mb A s en rest (f', arr, out, t) (trapE t) w' :=
  ⟨Or.inr ⟨ht, rfl⟩, h⟩

theorem functionB (n : Int) (w : World) : Calls Tryz.prog 134 #[.int .i64 n] w fun e w' => e = .returned (.agg #[.int .i64 3, .int .i64 n]) ∧ Below w.heap.size w w' := by
  refine (functionM n w).mono ?_
  rintro e w' ⟨h, rfl⟩
  exact ⟨h, (Below.refl _ _).alloc (Nat.le_refl _) _⟩

set_option maxRecDepth 100000 in
set_option maxHeartbeats 1000000 in
theorem str_const (w : World) (B mb : Nat) (A : AdM) (s : Mc) (en : Int) (f : Fr) (rest : List Fr) (n : Int) (hL : LayM w B mb A s en) (hs : s.fr = f :: rest) (hB : B ≤ w.heap.size) (hn : f.stk.length ≤ 60) :
    Calls Tryz.prog 121 #[.pointer (some ⟨mb, 0, none⟩), .pointer (some ⟨A.FB rest.length, 0, none⟩), .agg #[.int .i64 0, .int .i64 n]] w (StrE w B mb A s en rest (execP 0 n f s.arr s.out)) := by
  have H0 := hid ((Cur.start hL hB).box #[.int .i64 0, .int .i64 n] 33)
  generalize hfb : A.FB rest.length = fb
  have HF := hid hfb
  clear hL hfb
  go_enter Tryz.func121, Tryz.ntmps121
  go_wp2_with fail
  generalize w.alloc (.cells #[.int .i64 0, .int .i64 n] 33) = W at *
  have H1 := hid H0.out.drew
  clear H0
  refine region_lex (Hb [(w.heap.size, #[Value.int .i64 0, Value.int .i64 n], 33)]) [(false, 0), (false, 1), (false, 2), (false, 3), (false, 4), (true, 5), (true, 6)] (by kernel_rfl) (by kernel_rfl) (panic_block _ _ _) H1.out.hb ?_
  simp only [lexL, List.getElem?_cons_zero, List.getElem?_cons_succ]
  iterate 5 (refine lexW_free (by rfl) (by intro w' hS'; obtain ⟨y0, y1, _, _⟩ := hS'.two List.mem_cons_self; clear hS'; go_simp; exact rfl) ?_; simp only [Act.put, List.setIfInBounds_toArray, List.set_cons_zero, List.set_cons_succ])
  generalize W.drew = w1 at H1 ⊢
  refine lexW_sole (fun K hK => ?_)
  go_simp
  refine (numberB _ _).mono ?_
  rintro e w2 ⟨rfl, k2⟩
  have H2 := hid (H1.out.below k2)
  refine hK.out _ _ H2.out.hb ?_
  clear hK K H1 k2
  refine lexW_sole (fun K hK => ?_)
  go_simp
  have hp := H2.out.push hs (by omega) (vnum n)
  rw [HF.out] at hp
  refine hp.mono ?_
  rintro e w3 ⟨rfl, c3⟩
  refine hK.out _ _ c3.hb ?_
  have HQ := hid (StrE.ok c3.done)
  clear hK K c3 hp
  refine lexW_done ?_
  go_wp2
  go_end0
  exact HQ.out
set_option maxRecDepth 100000 in
set_option maxHeartbeats 1000000 in
theorem str_fun (w : World) (B mb : Nat) (A : AdM) (s : Mc) (en : Int) (f : Fr) (rest : List Fr) (n : Int) (hL : LayM w B mb A s en) (hs : s.fr = f :: rest) (hB : B ≤ w.heap.size) (hn : f.stk.length ≤ 60) :
    Calls Tryz.prog 121 #[.pointer (some ⟨mb, 0, none⟩), .pointer (some ⟨A.FB rest.length, 0, none⟩), .agg #[.int .i64 12, .int .i64 n]] w (StrE w B mb A s en rest (execP 12 n f s.arr s.out)) := by
  have H0 := hid ((Cur.start hL hB).box #[.int .i64 12, .int .i64 n] 33)
  generalize hfb : A.FB rest.length = fb
  have HF := hid hfb
  clear hL hfb
  go_enter Tryz.func121, Tryz.ntmps121
  go_wp2_with fail
  generalize w.alloc (.cells #[.int .i64 12, .int .i64 n] 33) = W at *
  have H1 := hid H0.out.drew
  clear H0
  refine region_lex (Hb [(w.heap.size, #[Value.int .i64 12, Value.int .i64 n], 33)]) [(false, 0), (false, 1), (false, 2), (false, 3), (false, 4), (true, 5), (true, 6)] (by kernel_rfl) (by kernel_rfl) (panic_block _ _ _) H1.out.hb ?_
  simp only [lexL, List.getElem?_cons_zero, List.getElem?_cons_succ]
  iterate 5 (refine lexW_free (by rfl) (by intro w' hS'; obtain ⟨y0, y1, _, _⟩ := hS'.two List.mem_cons_self; clear hS'; go_simp; exact rfl) ?_; simp only [Act.put, List.setIfInBounds_toArray, List.set_cons_zero, List.set_cons_succ])
  generalize W.drew = w1 at H1 ⊢
  refine lexW_sole (fun K hK => ?_)
  go_simp
  refine (functionB _ _).mono ?_
  rintro e w2 ⟨rfl, k2⟩
  have H2 := hid (H1.out.below k2)
  refine hK.out _ _ H2.out.hb ?_
  clear hK K H1 k2
  refine lexW_sole (fun K hK => ?_)
  go_simp
  have hp := H2.out.push hs (by omega) ⟨3, n⟩
  rw [HF.out] at hp
  refine hp.mono ?_
  rintro e w3 ⟨rfl, c3⟩
  refine hK.out _ _ c3.hb ?_
  have HQ := hid (StrE.ok c3.done)
  clear hK K c3 hp
  refine lexW_done ?_
  go_wp2
  go_end0
  exact HQ.out
set_option maxRecDepth 100000 in
set_option maxHeartbeats 1000000 in
theorem str_nil (w : World) (B mb : Nat) (A : AdM) (s : Mc) (en : Int) (f : Fr) (rest : List Fr) (n : Int)  (hL : LayM w B mb A s en) (hs : s.fr = f :: rest) (hB : B ≤ w.heap.size) (hn : f.stk.length ≤ 60) :
    Calls Tryz.prog 121 #[.pointer (some ⟨mb, 0, none⟩), .pointer (some ⟨A.FB rest.length, 0, none⟩), .agg #[.int .i64 1, .int .i64 n]] w (StrE w B mb A s en rest (execP 1 n f s.arr s.out)) := by
  have H0 := hid ((Cur.start hL hB).box #[.int .i64 1, .int .i64 n] 33)
  generalize hfb : A.FB rest.length = fb
  have HF := hid hfb
  clear hL hfb
  go_enter Tryz.func121, Tryz.ntmps121
  go_wp2_with fail
  have hp := H0.out.push hs (by omega) vnil
  rw [HF.out] at hp
  refine hp.mono ?_
  rintro e w3 ⟨rfl, c3⟩
  have HQ := hid (StrE.ok c3.done)
  clear c3 hp
  go_wp2
  go_end0
  exact HQ.out

set_option maxRecDepth 100000 in
set_option maxHeartbeats 1000000 in
theorem str_pop (w : World) (B mb : Nat) (A : AdM) (s : Mc) (en : Int) (f : Fr) (rest : List Fr) (n : Int) (v : V) (st : List V) (hst : f.stk = v :: st) (hL : LayM w B mb A s en) (hs : s.fr = f :: rest) (hB : B ≤ w.heap.size) (hn : st.length ≤ 60) :
    Calls Tryz.prog 121 #[.pointer (some ⟨mb, 0, none⟩), .pointer (some ⟨A.FB rest.length, 0, none⟩), .agg #[.int .i64 20, .int .i64 n]] w (StrE w B mb A s en rest (execP 20 n f s.arr s.out)) := by
  have H0 := hid ((Cur.start hL hB).box #[.int .i64 20, .int .i64 n] 33)
  generalize hfb : A.FB rest.length = fb
  have HF := hid hfb
  have hx : execP 20 n f s.arr s.out = ({ f with stk := st }, s.arr, s.out, 0) := by unfold execP; simp [hst]
  rw [hx]
  clear hL hfb hx
  go_enter Tryz.func121, Tryz.ntmps121
  go_wp2_with fail
  have hp := H0.out.pop hs hst (by omega)
  rw [HF.out] at hp
  refine hp.mono ?_
  rintro e w3 ⟨rfl, c3⟩
  have HQ := hid (StrE.ok c3.done)
  clear c3 hp
  go_wp2
  go_end0
  exact HQ.out

set_option maxRecDepth 100000 in
set_option maxHeartbeats 1000000 in
theorem str_equal (w : World) (B mb : Nat) (A : AdM) (s : Mc) (en : Int) (f : Fr) (rest : List Fr) (n : Int) (b a : V) (st : List V) (hst : f.stk = b :: a :: st) (hL : LayM w B mb A s en) (hs : s.fr = f :: rest) (hB : B ≤ w.heap.size) (hn : st.length ≤ 60) :
    Calls Tryz.prog 121 #[.pointer (some ⟨mb, 0, none⟩), .pointer (some ⟨A.FB rest.length, 0, none⟩), .agg #[.int .i64 9, .int .i64 n]] w (StrE w B mb A s en rest (execP 9 n f s.arr s.out)) := by
  have H0 := hid ((Cur.start hL hB).box #[.int .i64 9, .int .i64 n] 33)
  generalize hfb : A.FB rest.length = fb
  have HF := hid hfb
  have hx : execP 9 n f s.arr s.out = ({ f with stk := (twoP 9 a b).1 :: st }, s.arr, s.out, 0) := by
    have h2 : (twoP 9 a b).2 = 0 := by unfold twoP; rw [if_pos rfl]
    unfold execP
    simp [hst, h2]
  rw [hx]
  clear hL hfb hx
  go_enter Tryz.func121, Tryz.ntmps121
  go_wp2_with fail
  generalize w.alloc (.cells #[.int .i64 9, .int .i64 n] 33) = W at *
  have hp := H0.out.popTwo H0.out.lt hs hst hn
  rw [HF.out] at hp
  refine hp.mono ?_
  rintro e w2 ⟨rfl, c2⟩
  have H2 := hid (cur_two c2 #[.int .i64 a.k, .int .i64 a.n] #[.int .i64 b.k, .int .i64 b.n] 43)
  clear c2 hp H0 hst
  go_wp2_with fail
  generalize (w2.alloc (.cells #[.int .i64 a.k, .int .i64 a.n] 43)).alloc (.cells #[.int .i64 b.k, .int .i64 b.n] 43) = W2 at *
  have H3 := hid H2.out.drew
  clear H2
  refine region_lex (Hb [(w2.heap.size + 1, #[Value.int .i64 b.k, Value.int .i64 b.n], 43), (w2.heap.size, #[Value.int .i64 a.k, Value.int .i64 a.n], 43), (w.heap.size, #[Value.int .i64 9, Value.int .i64 n], 33)]) [(false, 0), (false, 1), (false, 2), (false, 3), (false, 4), (true, 5), (true, 6)] (by kernel_rfl) (by kernel_rfl) (panic_block _ _ _) H3.out.hb ?_
  simp only [lexL, List.getElem?_cons_zero, List.getElem?_cons_succ]
  iterate 5 (refine lexW_free (by rfl) (by intro w' hS'; obtain ⟨y0, y1, _, _⟩ := hS'.two List.mem_cons_self; obtain ⟨u0, u1, _, _⟩ := hS'.two (List.mem_cons_of_mem _ List.mem_cons_self); obtain ⟨v0, v1, _, _⟩ := hS'.two (List.mem_cons_of_mem _ (List.mem_cons_of_mem _ List.mem_cons_self)); clear hS'; go_simp; exact rfl) ?_; simp only [Act.put, List.setIfInBounds_toArray, List.set_cons_zero, List.set_cons_succ])
  generalize W2.drew = w3 at H3 ⊢
  refine lexW_sole (fun K hK => ?_)
  go_simp
  refine (equalB a b _).mono ?_
  rintro e w4 ⟨rfl, k4⟩
  have H4 := hid (H3.out.below k4)
  refine hK.out _ _ H4.out.hb ?_
  clear hK K H3 k4
  refine lexW_sole (fun K hK => ?_)
  go_simp
  have hp := H4.out.push rfl (by show st.length ≤ 64; omega) (twoP 9 a b).1
  rw [HF.out] at hp
  refine hp.mono ?_
  rintro e w5 ⟨rfl, c5⟩
  refine hK.out _ _ c5.hb ?_
  have HQ := hid (StrE.ok c5.done)
  clear hK K c5 hp
  refine lexW_done ?_
  go_wp2
  go_end0
  exact HQ.out

set_option maxRecDepth 100000 in
set_option maxHeartbeats 1000000 in
theorem str_reckon (w : World) (B mb : Nat) (A : AdM) (s : Mc) (en : Int) (f : Fr) (rest : List Fr) (n : Int) (op : Int) (hop : op = 4 ∨ op = 5 ∨ op = 6 ∨ op = 7 ∨ op = 8) (b a : V) (st : List V) (hst : f.stk = b :: a :: st) (hL : LayM w B mb A s en) (hs : s.fr = f :: rest) (hB : B ≤ w.heap.size) (hn : st.length ≤ 60) :
    Calls Tryz.prog 121 #[.pointer (some ⟨mb, 0, none⟩), .pointer (some ⟨A.FB rest.length, 0, none⟩), .agg #[.int .i64 op, .int .i64 n]] w (StrE w B mb A s en rest (execP op n f s.arr s.out)) := by
  have H0 := hid ((Cur.start hL hB).box #[.int .i64 op, .int .i64 n] 33)
  generalize hfb : A.FB rest.length = fb
  have HF := hid hfb
  have hx : execP op n f s.arr s.out = if (twoP op a b).2 = 0 then ({ f with stk := (twoP op a b).1 :: st }, s.arr, s.out, 0) else ({ f with stk := st }, s.arr, s.out, (twoP op a b).2) := by
    unfold execP
    rcases hop with rfl | rfl | rfl | rfl | rfl <;> simp [hst]
  generalize execP op n f s.arr s.out = xx at hx ⊢
  have HX := hid hx
  have HO := hid hop
  have ho : ((op == 0) = false ∧ (op == 1) = false ∧ (op == 12) = false ∧ (op == 2) = false ∧ (op == 3) = false) ∧ ((op == 4) = true ∨ ((op == 4) = false ∧ (op == 5) = true) ∨ ((op == 4) = false ∧ (op == 5) = false ∧ (op == 6) = true) ∨ ((op == 4) = false ∧ (op == 5) = false ∧ (op == 6) = false ∧ (op == 7) = true) ∨ ((op == 4) = false ∧ (op == 5) = false ∧ (op == 6) = false ∧ (op == 7) = false ∧ (op == 8) = true)) := by
    rcases hop with rfl | rfl | rfl | rfl | rfl <;> decide
  have HO2 := hid ho
  clear hL hfb hx hop ho
  obtain ⟨⟨o0, o1, o2, o3, o4⟩, o5⟩ := HO2.out
  go_enter Tryz.func121, Tryz.ntmps121
  rcases o5 with o5 | ⟨o5, o6⟩ | ⟨o5, o6, o7⟩ | ⟨o5, o6, o7, o8⟩ | ⟨o5, o6, o7, o8, o9⟩
  all_goals
    go_wp2_with fail
    generalize w.alloc (.cells #[.int .i64 op, .int .i64 n] 33) = W at *
    have hp := H0.out.popTwo H0.out.lt hs hst hn
    rw [HF.out] at hp
    refine hp.mono ?_
    rintro e w2 ⟨rfl, c2⟩
    have H2 := hid (cur_two c2 #[.int .i64 a.k, .int .i64 a.n] #[.int .i64 b.k, .int .i64 b.n] 43)
    clear c2 hp H0 hst
    go_wp2_with fail
    generalize (w2.alloc (.cells #[.int .i64 a.k, .int .i64 a.n] 43)).alloc (.cells #[.int .i64 b.k, .int .i64 b.n] 43) = W2 at *
    have H3 := hid H2.out.drew
    clear H2
    refine region_lex (Hb [(w2.heap.size + 1, #[Value.int .i64 b.k, Value.int .i64 b.n], 43), (w2.heap.size, #[Value.int .i64 a.k, Value.int .i64 a.n], 43), (w.heap.size, #[Value.int .i64 op, Value.int .i64 n], 33)]) [(false, 0), (false, 1), (false, 2), (false, 3), (false, 4), (false, 6), (false, 7), (true, 5), (true, 8), (true, 9)] (by kernel_rfl) (by kernel_rfl) (panic_block _ _ _) H3.out.hb ?_
    simp only [lexL, List.getElem?_cons_zero, List.getElem?_cons_succ]
    iterate 7 (refine lexW_free (by rfl) (by intro w' hS'; obtain ⟨y0, y1, _, _⟩ := hS'.two List.mem_cons_self; obtain ⟨u0, u1, _, _⟩ := hS'.two (List.mem_cons_of_mem _ List.mem_cons_self); obtain ⟨v0, v1, _, _⟩ := hS'.two (List.mem_cons_of_mem _ (List.mem_cons_of_mem _ List.mem_cons_self)); clear hS'; go_simp; exact rfl) ?_; simp only [Act.put, List.setIfInBounds_toArray, List.set_cons_zero, List.set_cons_succ])
    generalize W2.drew = w3 at H3 ⊢
    refine lexW_sole (fun K hK => ?_)
    go_simp
    refine (ruleM op HO.out _).mono ?_
    rintro e w4 ⟨rfl, rfl⟩
    refine hK.out _ _ H3.out.hb ?_
    clear hK K
    refine lexW_sole (fun K hK => ?_)
    go_simp
    refine (reckonedA op HO.out a b _).mono ?_
    rintro e w4 ⟨⟨h2, rfl⟩ | ⟨h2, rfl⟩, k4⟩
    · have H4 := hid (H3.out.below k4)
      have HX2 := hid (HX.out.trans (if_pos h2))
      refine hK.out _ _ H4.out.hb ?_
      clear hK K H3 k4 h2
      refine lexW_sole (fun K hK => ?_)
      go_simp
      have hp := H4.out.push rfl (by show st.length ≤ 64; omega) (twoP op a b).1
      rw [HF.out] at hp
      refine hp.mono ?_
      rintro e w5 ⟨rfl, c5⟩
      refine hK.out _ _ c5.hb ?_
      have HQ := hid (StrE.ok c5.done)
      clear hK K c5 hp
      refine lexW_done ?_
      go_wp2
      go_end0
      rw [HX2.out]
      exact HQ.out
    · refine ⟨rfl, ?_⟩
      rw [HX.out.trans (if_neg h2)]
      exact StrE.trap h2 (H3.out.below k4).done

end Go.Proofs.YtkafkipjedpohaaGreatDoor
