import Derived.Test.YtkafkipjedpohaaGreatDoorM7

/-
  The project's machine: how a run stands within a call, with the boxes that the call has made; Push, Pop, popTwo.
-/
namespace Go.Proofs.YtkafkipjedpohaaGreatDoor
open Go.RowKit

/-- Boxes: where, what they hold, of which type. -/
def Bx (w : World) (tag : Nat → Nat) (l : List (Nat × Array Value × TypeId)) : Prop := ∀ t, t ∈ l → w.heap[t.1]? = some (.cells t.2.1 t.2.2 (0, 0)) ∧ tag t.1 = 5
/-- The same, without the tags. -/
def Hb (l : List (Nat × Array Value × TypeId)) (w : World) : Prop := ∀ t, t ∈ l → w.heap[t.1]? = some (.cells t.2.1 t.2.2 (0, 0))
theorem Bx.keep {w w' : World} {B : Nat} {p : Nat → Prop} {tag tag' : Nat → Nat} {l : List (Nat × Array Value × TypeId)} (h : Bx w tag l) (k : Ch B p tag tag' w w') (hp : ¬ p 5) : Bx w' tag' l := fun t ht => by
  obtain ⟨h1, h2⟩ := h t ht
  exact ⟨(k.block t.1 (heap_lt h1) (Or.inr (by rw [h2]; exact hp))).trans h1, (k.tags t.1 (heap_lt h1)).trans h2⟩
theorem Hb.below {l : List (Nat × Array Value × TypeId)} {w w' : World} (h : Hb l w) (k : Below w.heap.size w w') : Hb l w' := fun t ht => (k.block t.1 (heap_lt (h t ht))).trans (h t ht)
theorem Hb.cell {l : List (Nat × Array Value × TypeId)} {w : World} (h : Hb l w) {b : Nat} {c : Array Value} {t : TypeId} (hm : (b, c, t) ∈ l) (i : Nat) : w.cell? ⟨b, i, none⟩ = c[i]? := cell_heap (h _ hm)

theorem n55 : ¬ N5 5 := fun h => h.1 rfl
theorem n56 : ¬ N5 6 := fun h => h.2 rfl

/-- How a run stands within a call that began in w0. -/
def Cur (w0 : World) (B mb : Nat) (A0 : AdM) (s : Mc) (en : Int) (l : List (Nat × Array Value × TypeId)) (w : World) : Prop :=
  B ≤ w0.heap.size ∧ ∃ A : AdM, LayM w B mb A s en ∧ A.g = A0.g ∧ Ch B N5 A0.tag A.tag w0 w ∧ Bx w A.tag l

theorem Cur.start {w : World} {B mb : Nat} {A : AdM} {s : Mc} {en : Int} (h : LayM w B mb A s en) (hB : B ≤ w.heap.size) : Cur w B mb A s en [] w := ⟨hB, A, h, rfl, Ch.refl _ _ _ _, fun t ht => by cases ht⟩
theorem Cur.hb {w0 w : World} {B mb : Nat} {A0 : AdM} {s : Mc} {en : Int} {l : List (Nat × Array Value × TypeId)} (h : Cur w0 B mb A0 s en l w) : Hb l w := by
  obtain ⟨_, A, _, _, _, b⟩ := h
  exact fun t ht => (b t ht).1
theorem Cur.below {w0 w w' : World} {B mb : Nat} {A0 : AdM} {s : Mc} {en : Int} {l : List (Nat × Array Value × TypeId)} (h : Cur w0 B mb A0 s en l w) (k : Below w.heap.size w w') : Cur w0 B mb A0 s en l w' := by
  obtain ⟨hB, A, h1, h2, h3, h4⟩ := h
  exact ⟨hB, A, h1.below k, h2, h3.trans' k, h4.keep (Ch.of_below (p := fun _ => False) (B := B) k) (fun h => h)⟩
theorem Cur.drew {w0 w : World} {B mb : Nat} {A0 : AdM} {s : Mc} {en : Int} {l : List (Nat × Array Value × TypeId)} (h : Cur w0 B mb A0 s en l w) : Cur w0 B mb A0 s en l w.drew := h.below (Below.refl _ _).drew
theorem Cur.box {w0 w : World} {B mb : Nat} {A0 : AdM} {s : Mc} {en : Int} {l : List (Nat × Array Value × TypeId)} (h : Cur w0 B mb A0 s en l w) (c : Array Value) (t : TypeId) : Cur w0 B mb A0 s en ((w.heap.size, c, t) :: l) (w.alloc (.cells c t)) := by
  obtain ⟨hB, A, h1, h2, h3, h4⟩ := h
  have hc : Ch B (fun _ => False) A.tag (upd A.tag w.heap.size 5) w (w.alloc (.cells c t)) := Ch.of_tags ((Below.refl _ _).alloc (Nat.le_refl _) _) (fun b hb => upd_other _ _ _ _ (by omega))
  refine ⟨hB, _, h1.box _, h2, h3.trans (hc.mono (fun _ h => h.elim)), fun u hu => ?_⟩
  rcases List.mem_cons.1 hu with rfl | hu
  · exact ⟨Go.Deep.blk_alloc_new _ _, upd_same _ _ _⟩
  · exact h4.keep hc (fun h => h) u hu
/-- Behind a callee that keeps the boxes. -/
theorem Cur.aft {w0 w w' : World} {B mb : Nat} {A0 A : AdM} {s' : Mc} {en' : Int} {l : List (Nat × Array Value × TypeId)} (hB : B ≤ w0.heap.size) (hg : A.g = A0.g) (hc : Ch B N5 A0.tag A.tag w0 w) (hb : Bx w A.tag l) {p : Nat → Prop} (hp : ∀ d, p d → N5 d) (h : Aft p w w' B mb A s' en') : Cur w0 B mb A0 s' en' l w' := by
  obtain ⟨A', h1, h2, h3⟩ := h
  exact ⟨hB, A', h1, h2.trans hg, hc.trans (h3.mono hp), hb.keep h3 (fun h => (hp _ h).1 rfl)⟩
theorem Cur.done {w0 w : World} {B mb : Nat} {A0 : AdM} {s : Mc} {en : Int} {l : List (Nat × Array Value × TypeId)} (h : Cur w0 B mb A0 s en l w) : Aft N5 w0 w B mb A0 s en := by
  obtain ⟨_, A, h1, h2, h3, _⟩ := h
  exact ⟨A, h1, h2, h3⟩
theorem Cur.drop {w0 w : World} {B mb : Nat} {A0 : AdM} {s : Mc} {en : Int} {l l' : List (Nat × Array Value × TypeId)} (h : Cur w0 B mb A0 s en l w) (hl : ∀ t, t ∈ l' → t ∈ l) : Cur w0 B mb A0 s en l' w := by
  obtain ⟨hB, A, h1, h2, h3, h4⟩ := h
  exact ⟨hB, A, h1, h2, h3, fun t ht => h4 t (hl t ht)⟩

theorem LayM.keep5 {w w' : World} {B mb : Nat} {A : AdM} {s : Mc} {en : Int} {tag' : Nat → Nat} (h : LayM w B mb A s en) (k : Ch B (fun d => d = 5) A.tag tag' w w') : LayM w' B mb { A with tag := tag' } s en := by
  obtain ⟨r1, r2⟩ := blk_keep h.run k (by rw [h.own.2]; omega)
  refine ⟨r1, ⟨h.own.1, r2.trans h.own.2⟩, h.fr.keep k (by omega), fun i hi => ?_, h.ar.keep k (by omega), h.out.keep k (by omega), fun i hi => (h.loc i hi).keep k (by omega), fun i hi => (h.stk i hi).keep k (by omega), fun j hj => (h.arr j hj).keep k (by omega)⟩
  obtain ⟨g1, g2, g3⟩ := h.fb i hi
  obtain ⟨g4, g5⟩ := blk_keep g1 k (by rw [g3]; omega)
  exact ⟨g4, g2, g5.trans g3⟩

/-- A box that the call has made is written. -/
theorem Cur.set {w0 w : World} {B mb : Nat} {A0 : AdM} {s : Mc} {en : Int} {l r : List (Nat × Array Value × TypeId)} {b : Nat} {c : Array Value} {t : TypeId} (h : Cur w0 B mb A0 s en (l ++ (b, c, t) :: r) w) (hw : w0.heap.size ≤ b) (hl : ∀ u, u ∈ l ++ r → u.1 ≠ b) (i : Nat) (v : Value) :
    Cur w0 B mb A0 s en (l ++ (b, c.setIfInBounds i v, t) :: r) (w.setCell ⟨b, i, none⟩ v) := by
  obtain ⟨hB, A, h1, h2, h3, h4⟩ := h
  obtain ⟨k1, k2⟩ := h4 (b, c, t) (by simp)
  have hBb : B ≤ b := Nat.le_trans hB hw
  have hc : Ch B (fun d => d = 5) A.tag A.tag w (w.setCell ⟨b, i, none⟩ v) := Ch.set w _ _ _ hBb k2
  refine ⟨hB, A, h1.keep5 hc, h2, h3.setNew hw v, fun u hu => ?_⟩
  have hu' : u = (b, c.setIfInBounds i v, t) ∨ u ∈ l ++ r := by
    rcases List.mem_append.1 hu with hu | hu
    · exact Or.inr (List.mem_append.2 (Or.inl hu))
    · rcases List.mem_cons.1 hu with hu | hu
      · exact Or.inl hu
      · exact Or.inr (List.mem_append.2 (Or.inr hu))
  rcases hu' with rfl | hu'
  · exact ⟨heap_set k1 _, k2⟩
  · have hm : u ∈ l ++ (b, c, t) :: r := by
      rcases List.mem_append.1 hu' with h | h
      · exact List.mem_append.2 (Or.inl h)
      · exact List.mem_append.2 (Or.inr (List.mem_cons_of_mem _ h))
    obtain ⟨j1, j2⟩ := h4 u hm
    exact ⟨(Below.heap_setCell _ _ _ _ (hl u hu')).trans j1, j2⟩

theorem Cur.le {w0 w : World} {B mb : Nat} {A0 : AdM} {s : Mc} {en : Int} {l : List (Nat × Array Value × TypeId)} (h : Cur w0 B mb A0 s en l w) : w0.heap.size ≤ w.heap.size ∧ B ≤ w.heap.size := by
  obtain ⟨hB, A, _, _, h3, _⟩ := h
  have := h3.size
  exact ⟨this, by omega⟩

theorem Cur.push {w0 w : World} {B mb : Nat} {A0 : AdM} {s : Mc} {en : Int} {l : List (Nat × Array Value × TypeId)} (h : Cur w0 B mb A0 s en l w) {f : Fr} {rest : List Fr} (hs : s.fr = f :: rest) (hn : f.stk.length ≤ 64) (v : V) :
    Calls Tryz.prog 132 #[.pointer (some ⟨A0.FB rest.length, 3, none⟩), .agg #[.int .i64 v.k, .int .i64 v.n]] w fun e w' => e = .returned (.tuple #[]) ∧ Cur w0 B mb A0 { s with fr := { f with stk := v :: f.stk } :: rest } en l w' := by
  have hle := h.le.2
  obtain ⟨hB, A, h1, h2, h3, h4⟩ := h
  have hfb : A.FB = A0.FB := by unfold AdM.FB; rw [h2]
  rw [← hfb]
  refine (pushM w B mb A s en f rest v h1 hs hle hn).mono ?_
  rintro e w' ⟨rfl, h⟩
  exact ⟨rfl, Cur.aft hB h2 h3 h4 (fun _ => tk_n5) h⟩
theorem Cur.pop {w0 w : World} {B mb : Nat} {A0 : AdM} {s : Mc} {en : Int} {l : List (Nat × Array Value × TypeId)} (h : Cur w0 B mb A0 s en l w) {f : Fr} {rest : List Fr} (hs : s.fr = f :: rest) {v : V} {st : List V} (hst : f.stk = v :: st) (hn : st.length ≤ 64) :
    Calls Tryz.prog 129 #[.pointer (some ⟨A0.FB rest.length, 3, none⟩)] w fun e w' => e = .returned (.agg #[.int .i64 v.k, .int .i64 v.n]) ∧ Cur w0 B mb A0 { s with fr := { f with stk := st } :: rest } en l w' := by
  obtain ⟨hB, A, h1, h2, h3, h4⟩ := h
  have hfb : A.FB = A0.FB := by unfold AdM.FB; rw [h2]
  rw [← hfb]
  refine (popM w B mb A s en f rest v st h1 hs hst hn).mono ?_
  rintro e w' ⟨rfl, h⟩
  exact ⟨rfl, Cur.aft hB h2 h3 h4 (fun _ => tk_n5) h⟩

theorem Cur.write0 {w0 w : World} {B mb : Nat} {A0 : AdM} {s : Mc} {en : Int} {r : List (Nat × Array Value × TypeId)} {b : Nat} {c0 c1 : Value} {t : TypeId} (h : Cur w0 B mb A0 s en ((b, #[c0, c1], t) :: r) w) (hw : w0.heap.size ≤ b) (hl : ∀ u, u ∈ r → u.1 ≠ b) (x y : Value) :
    Cur w0 B mb A0 s en ((b, #[x, y], t) :: r) ((w.setCell ⟨b, 0, none⟩ x).setCell ⟨b, 1, none⟩ y) :=
  (Cur.set (l := []) (Cur.set (l := []) h hw hl 0 x) hw hl 1 y)
theorem Cur.write1 {w0 w : World} {B mb : Nat} {A0 : AdM} {s : Mc} {en : Int} {q : Nat × Array Value × TypeId} {r : List (Nat × Array Value × TypeId)} {b : Nat} {c0 c1 : Value} {t : TypeId} (h : Cur w0 B mb A0 s en (q :: (b, #[c0, c1], t) :: r) w) (hw : w0.heap.size ≤ b) (hl : ∀ u, u ∈ [q] ++ r → u.1 ≠ b) (x y : Value) :
    Cur w0 B mb A0 s en (q :: (b, #[x, y], t) :: r) ((w.setCell ⟨b, 0, none⟩ x).setCell ⟨b, 1, none⟩ y) :=
  (Cur.set (l := [q]) (Cur.set (l := [q]) h hw hl 0 x) hw hl 1 y)
theorem Hb.frozen {l : List (Nat × Array Value × TypeId)} {w : World} (h : Hb l w) {b : Nat} {c : Array Value} {t : TypeId} (hm : (b, c, t) ∈ l) (i : Nat) : w.frozen? ⟨b, i, none⟩ = false := frozen_heap (h _ hm)
/-- The two cells of a box, as they are read and written. -/
theorem Hb.two {l : List (Nat × Array Value × TypeId)} {w : World} (h : Hb l w) {b : Nat} {c0 c1 : Value} {t : TypeId} (hm : (b, #[c0, c1], t) ∈ l) : w.cell? ⟨b, 0, none⟩ = some c0 ∧ w.cell? ⟨b, 1, none⟩ = some c1 ∧ w.frozen? ⟨b, 0, none⟩ = false ∧ w.frozen? ⟨b, 1, none⟩ = false :=
  ⟨(h.cell hm 0).trans rfl, (h.cell hm 1).trans rfl, h.frozen hm 0, h.frozen hm 1⟩

theorem cur_two {w0 w : World} {B mb : Nat} {A0 : AdM} {s : Mc} {en : Int} {l : List (Nat × Array Value × TypeId)} (h : Cur w0 B mb A0 s en l w) (c d : Array Value) (t : TypeId) : Cur w0 B mb A0 s en ((w.heap.size + 1, d, t) :: (w.heap.size, c, t) :: l) ((w.alloc (.cells c t)).alloc (.cells d t)) := by
  have := (h.box c t).box d t
  simpa using this

theorem Cur.lt {w0 w : World} {B mb : Nat} {A0 : AdM} {s : Mc} {en : Int} {l : List (Nat × Array Value × TypeId)} (h : Cur w0 B mb A0 s en l w) : ∀ u, u ∈ l → u.1 < w.heap.size := fun u hu => heap_lt (h.hb u hu)

set_option maxRecDepth 100000 in
set_option maxHeartbeats 1000000 in
theorem Cur.popTwo {w0 w : World} {B mb : Nat} {A0 : AdM} {s : Mc} {en : Int} {l : List (Nat × Array Value × TypeId)} (h : Cur w0 B mb A0 s en l w) (hl : ∀ u, u ∈ l → u.1 < w.heap.size) {f : Fr} {rest : List Fr} (hs : s.fr = f :: rest) {b a : V} {st : List V} (hst : f.stk = b :: a :: st) (hn : st.length ≤ 60) :
    Calls Tryz.prog 135 #[.pointer (some ⟨A0.FB rest.length, 0, none⟩)] w fun e w' => e = .returned (.tuple #[.agg #[.int .i64 a.k, .int .i64 a.n], .agg #[.int .i64 b.k, .int .i64 b.n]]) ∧
      Cur w0 B mb A0 { s with fr := { f with stk := st } :: rest } en l w' := by
  have hw0 := h.le.1
  have H1 := hid (cur_two h #[.int .i64 0, .int .i64 0] #[.int .i64 0, .int .i64 0] 43)
  have HL := hid hl
  generalize hfb : A0.FB rest.length = fb
  have HF := hid hfb
  clear h hl hfb
  go_enter Tryz.func135, Tryz.ntmps135
  go_wp2_with fail
  generalize (w.alloc (.cells #[.int .i64 0, .int .i64 0] 43)).alloc (.cells #[.int .i64 0, .int .i64 0] 43) = W at *
  have hp := H1.out.pop hs hst (by simp; omega)
  rw [HF.out] at hp
  refine hp.mono ?_
  rintro e w1 ⟨rfl, c1⟩
  have hl1 : ∀ u, u ∈ (w.heap.size, #[Value.int .i64 0, Value.int .i64 0], 43) :: l → u.1 ≠ w.heap.size + 1 := fun u hu => by
    rcases List.mem_cons.1 hu with rfl | hu
    · show w.heap.size ≠ _
      omega
    · have := HL.out u hu
      omega
  have c2 := c1.write0 (by omega) hl1 (.int .i64 b.k) (.int .i64 b.n)
  obtain ⟨x0, x1, z0, z1⟩ := c1.hb.two List.mem_cons_self
  have H2 := hid c2
  clear c1 c2 hp hl1 H1 hst
  go_wp2_with fail
  clear x0 x1 z0 z1
  generalize (w1.setCell ⟨w.heap.size + 1, 0, none⟩ (.int .i64 b.k)).setCell ⟨w.heap.size + 1, 1, none⟩ (.int .i64 b.n) = w2 at *
  have hp := H2.out.pop (v := a) (st := st) rfl rfl (by omega)
  rw [HF.out] at hp
  refine hp.mono ?_
  rintro e w3 ⟨rfl, c3⟩
  have hl2 : ∀ u, u ∈ [(w.heap.size + 1, #[Value.int .i64 b.k, Value.int .i64 b.n], 43)] ++ l → u.1 ≠ w.heap.size := fun u hu => by
    rcases List.mem_cons.1 hu with rfl | hu
    · show w.heap.size + 1 ≠ _
      omega
    · have := HL.out u hu
      omega
  have hl3 : ∀ u, u ∈ (w.heap.size, #[Value.int .i64 a.k, Value.int .i64 a.n], 43) :: l → u.1 ≠ w.heap.size + 1 := fun u hu => by
    rcases List.mem_cons.1 hu with rfl | hu
    · show w.heap.size ≠ _
      omega
    · have := HL.out u hu
      omega
  have c4 := c3.write1 (by omega) hl2 (.int .i64 a.k) (.int .i64 a.n)
  obtain ⟨x0, x1, z0, z1⟩ := c3.hb.two (List.mem_cons_of_mem _ List.mem_cons_self)
  have H4 := hid c4
  have HLL := hid (And.intro hl2 hl3)
  clear c3 c4 hp H2 hl2 hl3
  go_wp2_with fail
  clear x0 x1 z0 z1
  generalize (w3.setCell ⟨w.heap.size, 0, none⟩ (.int .i64 a.k)).setCell ⟨w.heap.size, 1, none⟩ (.int .i64 a.n) = w4 at *
  have H5 := hid H4.out.drew
  refine region_lex (Hb ((w.heap.size + 1, #[Value.int .i64 b.k, Value.int .i64 b.n], 43) :: (w.heap.size, #[Value.int .i64 a.k, Value.int .i64 a.n], 43) :: l)) [(false, 0), (false, 1), (true, 2), (true, 3)] (by kernel_rfl) (by kernel_rfl) (panic_frame _ _ _) H5.out.hb ?_
  simp only [lexL, List.getElem?_cons_zero, List.getElem?_cons_succ]
  iterate 2 (refine lexW_free (by rfl) (by intro w' hS'; obtain ⟨y0, y1, _, _⟩ := hS'.two List.mem_cons_self; obtain ⟨u0, u1, _, _⟩ := hS'.two (List.mem_cons_of_mem _ List.mem_cons_self); clear hS'; go_simp; exact rfl) ?_; simp only [Act.put, List.setIfInBounds_toArray, List.set_cons_zero, List.set_cons_succ])
  generalize w4.drew = w5 at H5 ⊢
  obtain ⟨y0, y1, g0, g1⟩ := H5.out.hb.two (List.mem_cons_of_mem _ List.mem_cons_self)
  have H6 := hid (H5.out.write1 (by omega) HLL.out.1 (.int .i64 a.k) (.int .i64 a.n))
  refine lexW_sole (fun K hK => ?_)
  go_simp
  refine hK.out _ _ H6.out.hb ?_
  clear hK K y0 y1 g0 g1
  generalize (w5.setCell ⟨w.heap.size, 0, none⟩ (.int .i64 a.k)).setCell ⟨w.heap.size, 1, none⟩ (.int .i64 a.n) = w6 at *
  obtain ⟨y0, y1, g0, g1⟩ := H6.out.hb.two List.mem_cons_self
  have H7 := hid (H6.out.write0 (by omega) HLL.out.2 (.int .i64 b.k) (.int .i64 b.n))
  refine lexW_sole (fun K hK => ?_)
  go_simp
  refine hK.out _ _ H7.out.hb ?_
  clear hK K y0 y1 g0 g1
  generalize (w6.setCell ⟨w.heap.size + 1, 0, none⟩ (.int .i64 b.k)).setCell ⟨w.heap.size + 1, 1, none⟩ (.int .i64 b.n) = w7 at *
  refine lexW_done ?_
  clear HL H4 H5 H6 HLL
  go_wp2
  obtain ⟨y0, y1, g0, g1⟩ := H7.out.hb.two List.mem_cons_self
  obtain ⟨u0, u1, v0, v1⟩ := H7.out.hb.two (List.mem_cons_of_mem _ List.mem_cons_self)
  exact bodyPost_ret (v := .tuple #[.agg #[.int .i64 a.k, .int .i64 a.n], .agg #[.int .i64 b.k, .int .i64 b.n]]) (by simp [results, Tryz.results135, go_sem, y0, y1, u0, u1]) rfl ⟨rfl, H7.out.drop (fun t ht => List.mem_cons_of_mem _ (List.mem_cons_of_mem _ ht))⟩
end Go.Proofs.YtkafkipjedpohaaGreatDoor
