import Derived.Test.YtkafkipjedpohaaGreatDoorWd
import Derived.Test.YtkafkipjedpohaaGreatDoorPureA
import Derived.Deep.AppendLies
import Derived.Deep.RegionHeld3
import Derived.Deep.RegionLaw
import Derived.Test.YtkafkipjedpohaaGreatDoorB1

/-
  A run of upshiftref as it lies in memory: rows of the call's own, told apart by tags.
-/
namespace Go.Proofs.YtkafkipjedpohaaGreatDoor
open Go.RowKit

/-- A slice of the call's own (from block B on): n elements of sz cells, cell i holding f i; its block bears the tag c. -/
def Row (w : World) (B : Nat) (tag : Nat → Nat) (c : Nat) (e : TypeId) (sz : Nat) (v : Value) (n : Nat) (f : Nat → Value) : Prop :=
  (v = .slice none 0 0 ∧ n = 0) ∨
  ∃ b cap cur, v = .slice (some ⟨b, 0, none⟩) n cap ∧ B ≤ b ∧ tag b = c ∧ w.heap[b]? = some (.cells cur e (0, 0)) ∧ n ≤ cap ∧ cap ≤ maxLen ∧ cur.size = cap * sz ∧ ∀ i, i < n * sz → cur[i]? = some (f i)

theorem Row.nil (w : World) (B : Nat) (tag : Nat → Nat) (c : Nat) (e : TypeId) (sz : Nat) (f : Nat → Value) : Row w B tag c e sz (.slice none 0 0) 0 f := Or.inl ⟨rfl, rfl⟩

theorem Row.form {w : World} {B : Nat} {tag : Nat → Nat} {c : Nat} {e : TypeId} {sz : Nat} {v : Value} {n : Nat} {f : Nat → Value} (h : Row w B tag c e sz v n f) (hn : 1 ≤ n) :
    ∃ b cap, v = .slice (some ⟨b, 0, none⟩) n cap ∧ B ≤ b ∧ b < w.heap.size ∧ tag b = c ∧ n ≤ cap := by
  rcases h with ⟨_, h⟩ | ⟨b, cap, cur, hv, hb, ht, hh, hc, _⟩
  · omega
  · exact ⟨b, cap, hv, hb, (Array.getElem?_eq_some_iff.1 hh).1, ht, hc⟩

theorem Row.cell {w : World} {B : Nat} {tag : Nat → Nat} {c : Nat} {e : TypeId} {sz b n cap : Nat} {f : Nat → Value} (h : Row w B tag c e sz (.slice (some ⟨b, 0, none⟩) n cap) n f) {i : Nat} (hi : i < n * sz) : w.cell? ⟨b, i, none⟩ = some (f i) := by
  rcases h with ⟨h, _⟩ | ⟨b', cap', cur, hv, _, _, hh, _, _, _, hf⟩
  · cases h
  · injection hv with e1 e2 e3
    injection e1 with e1
    injection e1 with e1 e4
    subst e1
    unfold World.cell?
    rw [hh]
    exact hf i hi

theorem Row.frozen {w : World} {B : Nat} {tag : Nat → Nat} {c : Nat} {e : TypeId} {sz b n cap : Nat} {f : Nat → Value} (h : Row w B tag c e sz (.slice (some ⟨b, 0, none⟩) n cap) n f) (i : Nat) : w.frozen? ⟨b, i, none⟩ = false := by
  rcases h with ⟨h, _⟩ | ⟨b', cap', cur, hv, _, _, hh, _⟩
  · cases h
  · injection hv with e1 e2 e3
    injection e1 with e1
    injection e1 with e1 e4
    subst e1
    unfold World.frozen?
    rw [hh]
    simp

/-- The same row, its content said otherwise. -/
theorem Row.congr {w : World} {B : Nat} {tag : Nat → Nat} {c : Nat} {e : TypeId} {sz : Nat} {v : Value} {n : Nat} {f g : Nat → Value} (h : Row w B tag c e sz v n f) (hg : ∀ i, i < n * sz → f i = g i) : Row w B tag c e sz v n g := by
  rcases h with h | ⟨b, cap, cur, hv, hb, ht, hh, hc, hm, hs, hf⟩
  · exact Or.inl h
  · exact Or.inr ⟨b, cap, cur, hv, hb, ht, hh, hc, hm, hs, fun i hi => by rw [hf i hi, hg i hi]⟩

/-- What turns between two worlds: of what was there from block B on, at most the blocks whose tag is let; tags of what was there stand. -/
structure Ch (B : Nat) (let_ : Nat → Prop) (tag tag' : Nat → Nat) (w w' : World) : Prop where
  os : w'.os = w.os
  tape : w'.tape = w.tape
  output : w'.output = w.output
  size : w.heap.size ≤ w'.heap.size
  block : ∀ b, b < w.heap.size → (b < B ∨ ¬ let_ (tag b)) → w'.heap[b]? = w.heap[b]?
  tags : ∀ b, b < w.heap.size → tag' b = tag b

theorem Ch.refl (B : Nat) (p : Nat → Prop) (tag : Nat → Nat) (w : World) : Ch B p tag tag w w := ⟨rfl, rfl, rfl, Nat.le_refl _, fun _ _ _ => rfl, fun _ _ => rfl⟩
theorem Ch.trans {B : Nat} {p : Nat → Prop} {t1 t2 t3 : Nat → Nat} {u v w : World} (h : Ch B p t1 t2 u v) (k : Ch B p t2 t3 v w) : Ch B p t1 t3 u w :=
  ⟨k.os.trans h.os, k.tape.trans h.tape, k.output.trans h.output, Nat.le_trans h.size k.size,
    fun b hb hl => (k.block b (Nat.lt_of_lt_of_le hb h.size) (by rw [h.tags b hb]; exact hl)).trans (h.block b hb hl), fun b hb => (k.tags b (Nat.lt_of_lt_of_le hb h.size)).trans (h.tags b hb)⟩
theorem Ch.mono {B : Nat} {p q : Nat → Prop} {t1 t2 : Nat → Nat} {u v : World} (h : Ch B p t1 t2 u v) (hpq : ∀ c, p c → q c) : Ch B q t1 t2 u v :=
  ⟨h.os, h.tape, h.output, h.size, fun b hb hl => h.block b hb (by rcases hl with hl | hl; exact Or.inl hl; exact Or.inr fun hp => hl (hpq _ hp)), h.tags⟩
theorem Ch.below {B : Nat} {p : Nat → Prop} {t1 t2 : Nat → Nat} {u v : World} (h : Ch B p t1 t2 u v) (hB : B ≤ u.heap.size) : Below B u v :=
  ⟨h.os, h.tape, h.output, h.size, fun b hb => h.block b (by omega) (Or.inl hb)⟩
theorem Ch.of_below {B : Nat} {p : Nat → Prop} {tag : Nat → Nat} {u v : World} (h : Below u.heap.size u v) : Ch B p tag tag u v :=
  ⟨h.os, h.tape, h.output, h.size, fun b hb _ => h.block b hb, fun _ _ => rfl⟩
theorem Ch.set {B : Nat} {p : Nat → Prop} {tag : Nat → Nat} (w : World) (b o : Nat) (v : Value) (hb : B ≤ b) (hp : p (tag b)) : Ch B p tag tag w (w.setCell ⟨b, o, none⟩ v) :=
  ⟨rfl, rfl, rfl, by simp [World.setCell], fun k _ hl => Below.heap_setCell _ _ _ _ (by
    intro e
    simp only at e
    subst e
    rcases hl with hl | hl
    · omega
    · exact hl hp), fun _ _ => rfl⟩

theorem Row.keep {w w' : World} {B : Nat} {tag tag' : Nat → Nat} {p : Nat → Prop} {c : Nat} {e : TypeId} {sz : Nat} {v : Value} {n : Nat} {f : Nat → Value} (h : Row w B tag c e sz v n f) (k : Ch B p tag tag' w w') (hp : ¬ p c) : Row w' B tag' c e sz v n f := by
  rcases h with h | ⟨b, cap, cur, hv, hb, ht, hh, hc⟩
  · exact Or.inl h
  · have hlt := (Array.getElem?_eq_some_iff.1 hh).1
    exact Or.inr ⟨b, cap, cur, hv, hb, (k.tags b hlt).trans ht, (k.block b hlt (Or.inr (by rw [ht]; exact hp))).trans hh, hc⟩

/-- A store into a row. -/
theorem Row.set {w : World} {B : Nat} {tag : Nat → Nat} {c : Nat} {e : TypeId} {sz b n cap : Nat} {f : Nat → Value} (h : Row w B tag c e sz (.slice (some ⟨b, 0, none⟩) n cap) n f) (i : Nat) (v : Value) :
    Row (w.setCell ⟨b, i, none⟩ v) B tag c e sz (.slice (some ⟨b, 0, none⟩) n cap) n (upd f i v) := by
  rcases h with ⟨h, _⟩ | ⟨b', cap', cur, hv, hb, ht, hh, hc, hm, hs, hf⟩
  · cases h
  · injection hv with e1 e2 e3
    injection e1 with e1
    injection e1 with e1 e4
    subst e1
    subst e3
    refine Or.inr ⟨b, cap, cur.setIfInBounds i v, rfl, hb, ht, ?_, hc, hm, by simpa using hs, fun j hj => ?_⟩
    · simp [World.setCell, Array.getElem?_modify, hh]
    · rw [Array.getElem?_setIfInBounds]
      by_cases e5 : j = i
      · subst e5
        have : j < cur.size := (Array.getElem?_eq_some_iff.1 (hf j hj)).1
        simp [this, upd]
      · rw [if_neg (fun h => e5 h.symm), upd_other _ _ _ _ e5]
        exact hf j hj

/-- Cut shorter. -/
theorem Row.take {w : World} {B : Nat} {tag : Nat → Nat} {c : Nat} {e : TypeId} {sz b n cap : Nat} {f : Nat → Value} (h : Row w B tag c e sz (.slice (some ⟨b, 0, none⟩) n cap) n f) (k : Nat) (hk : k ≤ n) :
    Row w B tag c e sz (.slice (some ⟨b, 0, none⟩) k cap) k f := by
  rcases h with ⟨h, _⟩ | ⟨b', cap', cur, hv, hb, ht, hh, hc, hm, hs, hf⟩
  · cases h
  · injection hv with e1 e2 e3
    injection e1 with e1
    injection e1 with e1 e4
    subst e1
    subst e3
    exact Or.inr ⟨b, cap, cur, rfl, hb, ht, hh, by omega, hm, hs, fun i hi => hf i (Nat.lt_of_lt_of_le hi (Nat.mul_le_mul_right sz hk))⟩

/-- The kit's word for the same. -/
theorem Row.owns {w : World} {B : Nat} {tag : Nat → Nat} {c : Nat} {e : TypeId} {sz : Nat} {v : Value} {n : Nat} {f : Nat → Value} (h : Row w B tag c e sz v n f) : w.ownsRow B e sz v n ((List.range (n * sz)).map f) := by
  refine ⟨by simp, ?_⟩
  rcases h with h | ⟨b, cap, cur, hv, hb, ht, hh, hc, hm, hs, hf⟩
  · exact Or.inl h
  · refine Or.inr ⟨b, cap, cur, hv, hb, hh, hc, hm, hs, ?_⟩
    apply List.ext_getElem?
    intro i
    by_cases hi : i < n * sz
    · rw [List.getElem?_take_of_lt hi, Array.getElem?_toList, hf i hi]
      simp [hi]
    · rw [List.getElem?_eq_none (by simp; omega), List.getElem?_eq_none (by simp; omega)]

theorem Row.of_owns {w : World} {B : Nat} {tag : Nat → Nat} {c : Nat} {e : TypeId} {sz g n cap : Nat} {xs : List Value} {f : Nat → Value} (h : w.ownsRow B e sz (.slice (some ⟨g, 0, none⟩) n cap) n xs) (ht : tag g = c) (hf : ∀ i, i < n * sz → xs[i]? = some (f i)) :
    Row w B tag c e sz (.slice (some ⟨g, 0, none⟩) n cap) n f := by
  obtain ⟨hl, h⟩ := h
  rcases h with ⟨h, _⟩ | ⟨b, cap', cur, hv, hb, hh, hc, hm, hs, hx⟩
  · cases h
  · injection hv with e1 e2 e3
    injection e1 with e1
    injection e1 with e1 e4
    subst e1
    subst e3
    refine Or.inr ⟨g, cap, cur, rfl, hb, ht, hh, hc, hm, hs, fun i hi => ?_⟩
    rw [← Array.getElem?_toList, ← List.getElem?_take_of_lt hi, hx]
    exact hf i hi

/-- What an append to a row of the call's own leaves: the new row, its tag; all other tags' blocks stand. -/
theorem Row.grew {w w' : World} {B : Nat} {tag : Nat → Nat} {c : Nat} {e : TypeId} {sz : Nat} {v : Value} {n : Nat} {f : Nat → Value} (h : Row w B tag c e sz v n f) {g cap : Nat} {news : List Value}
    (hown : w'.ownsRow B e sz (.slice (some ⟨g, 0, none⟩) (n + 1) cap) (n + 1) ((List.range (n * sz)).map f ++ news)) (hgrow : w.grownBy w' v.ownBlock) (hat : v.ownBlock = some g ∨ g = w.heap.size) (hnl : news.length = sz) :
    ∃ tag', Row w' B tag' c e sz (.slice (some ⟨g, 0, none⟩) (n + 1) cap) (n + 1) (fun i => if i < n * sz then f i else news.getD (i - n * sz) (.bool false)) ∧ Ch B (· = c) tag tag' w w' := by
  refine ⟨fun b => if b < w.heap.size then tag b else c, Row.of_owns hown ?_ (fun i hi => ?_), hgrow.os, hgrow.tape, hgrow.output, hgrow.size, fun b hb hl => hgrow.block b hb ?_, fun b hb => by show (if b < w.heap.size then tag b else c) = tag b; rw [if_pos hb]⟩
  · show (if g < w.heap.size then tag g else c) = c
    by_cases hg : g < w.heap.size
    · rw [if_pos hg]
      rcases hat with hat | hat
      · rcases h with ⟨h, _⟩ | ⟨b, cap', cur, hv, hb, ht, _⟩
        · rw [h] at hat; simp [Value.ownBlock] at hat
        · rw [hv] at hat
          have : b = g := by simpa [Value.ownBlock] using hat
          rw [← this]; exact ht
      · omega
    · rw [if_neg hg]
  · by_cases hlt : i < n * sz
    · rw [if_pos hlt, List.getElem?_append_left (by simpa using hlt)]
      simp [hlt]
    · have hi2 : i - n * sz < news.length := by rw [hnl]; rw [Nat.add_mul, Nat.one_mul] at hi; omega
      rw [if_neg hlt, List.getElem?_append_right (by simp; omega)]
      simp [List.getD_eq_getElem?_getD, hi2]
  · intro e2
    rcases h with ⟨h, _⟩ | ⟨b', cap', cur, hv, hb', ht, _⟩
    · rw [h] at e2; simp [Value.ownBlock] at e2
    · rw [hv] at e2
      have : b = b' := by simpa [Value.ownBlock] using e2
      subst this
      rcases hl with hl | hl
      · omega
      · exact hl ht
end Go.Proofs.YtkafkipjedpohaaGreatDoor

/-
  A run of upshiftref as it lies in memory: the whole; push and pop.
-/
namespace Go.Proofs.YtkafkipjedpohaaGreatDoor
open Go.RowKit

/-- The cells of a list of values. -/
def vcell (l : List V) : Nat → Value := fun i => if i % 2 = 0 then .int .i64 (l.getD (i / 2) vnil).k else .int .i64 (l.getD (i / 2) vnil).n

def frNone : Fr := ⟨0, 0, [], []⟩
/-- The i-th frame, the first one first. -/
def frAt (fr : List Fr) (i : Nat) : Fr := fr.reverse.getD i frNone
theorem frAt_top (f : Fr) (rest : List Fr) : frAt (f :: rest) rest.length = f := by
  unfold frAt
  rw [List.reverse_cons, List.getD_eq_getElem?_getD, List.getElem?_append_right (by simp)]
  simp
theorem frAt_rest (f : Fr) (rest : List Fr) (i : Nat) (hi : i < rest.length) : frAt (f :: rest) i = frAt rest i := by
  unfold frAt
  rw [List.reverse_cons, List.getD_eq_getElem?_getD, List.getD_eq_getElem?_getD, List.getElem?_append_left (by simpa using hi)]

/-- The cells of the frames. -/
def fcell (fr : List Fr) (LV SV : Nat → Value) : Nat → Value := fun i =>
  if i % 4 = 0 then .int .i64 (frAt fr (i / 4)).fn else if i % 4 = 1 then .int .i64 (frAt fr (i / 4)).pc else if i % 4 = 2 then LV (i / 4) else SV (i / 4)

/-- The cells of a Run. -/
def rcells (pv fv av ov hv : Value) (s : Mc) : Array Value :=
  #[pv, fv, av, ov, .int .i64 s.gives.k, .int .i64 s.gives.n, .int .i64 s.steps, .int .i64 s.fin, hv, .bool (s.made 0), .bool (s.made 1), .bool (s.made 2), .bool (s.made 3), .bool (s.made 4), .bool (s.made 5), .bool (s.made 6), .bool (s.made 7), .int .i64 s.cH, .int .i64 s.cU, .int .i64 s.cD]

structure Lay (w : World) (B rb : Nat) (tag : Nat → Nat) (pv fv av ov hv : Value) (LV SV AV : Nat → Value) (s : Mc) : Prop where
  run : w.heap[rb]? = some (.cells (rcells pv fv av ov hv s) 155 (0, 0))
  own : B ≤ rb ∧ tag rb = 0
  fr : Row w B tag 1 73 4 fv s.fr.length (fcell s.fr LV SV)
  ar : Row w B tag 2 44 1 av s.arr.length AV
  out : Row w B tag 3 43 2 ov s.out.length (vcell s.out)
  hi : Row w B tag 4 4 1 hv s.high.length (fun i => .bool (s.high.reverse.getD i false))
  loc : ∀ i, i < s.fr.length → Row w B tag (10 + 3 * i) 43 2 (LV i) (frAt s.fr i).loc.length (vcell (frAt s.fr i).loc)
  stk : ∀ i, i < s.fr.length → Row w B tag (11 + 3 * i) 43 2 (SV i) (frAt s.fr i).stk.length (vcell (frAt s.fr i).stk.reverse)
  arr : ∀ j, j < s.arr.length → Row w B tag (12 + 3 * j) 43 2 (AV j) (s.arr.getD j []).length (vcell (s.arr.getD j []))

theorem Lay.cell {w : World} {B rb : Nat} {tag : Nat → Nat} {pv fv av ov hv : Value} {LV SV AV : Nat → Value} {s : Mc} (h : Lay w B rb tag pv fv av ov hv LV SV AV s) (i : Nat) : w.cell? ⟨rb, i, none⟩ = (rcells pv fv av ov hv s)[i]? := by
  unfold World.cell?
  rw [h.run]
  rfl
theorem Lay.frozen {w : World} {B rb : Nat} {tag : Nat → Nat} {pv fv av ov hv : Value} {LV SV AV : Nat → Value} {s : Mc} (h : Lay w B rb tag pv fv av ov hv LV SV AV s) (i : Nat) : w.frozen? ⟨rb, i, none⟩ = false := by
  unfold World.frozen?
  rw [h.run]
  simp

theorem Lay.lt {w : World} {B rb : Nat} {tag : Nat → Nat} {pv fv av ov hv : Value} {LV SV AV : Nat → Value} {s : Mc} (h : Lay w B rb tag pv fv av ov hv LV SV AV s) : rb < w.heap.size := (Array.getElem?_eq_some_iff.1 h.run).1

/-- The run's own block, behind what does not let it. -/
theorem Lay.runKeep {w w' : World} {B rb : Nat} {tag tag' : Nat → Nat} {p : Nat → Prop} {pv fv av ov hv : Value} {LV SV AV : Nat → Value} {s : Mc} (h : Lay w B rb tag pv fv av ov hv LV SV AV s) (k : Ch B p tag tag' w w') (hp : ¬ p 0) :
    w'.heap[rb]? = some (.cells (rcells pv fv av ov hv s) 155 (0, 0)) ∧ B ≤ rb ∧ tag' rb = 0 :=
  ⟨(k.block rb h.lt (Or.inr (by rw [h.own.2]; exact hp))).trans h.run, h.own.1, (k.tags rb h.lt).trans h.own.2⟩

/-- The stack of the frame at hand has turned; nothing else has. -/
theorem Lay.stack {w w' : World} {B rb : Nat} {tag tag' : Nat → Nat} {pv fv av ov hv : Value} {LV SV AV : Nat → Value} {s : Mc} {f : Fr} {rest : List Fr} (h : Lay w B rb tag pv fv av ov hv LV SV AV s) (hs : s.fr = f :: rest) {st : List V} {sv : Value}
    (k : Ch B (fun c => c = 1 ∨ c = 11 + 3 * rest.length) tag tag' w w') (hf : Row w' B tag' 1 73 4 fv (rest.length + 1) (fcell s.fr LV (upd SV rest.length sv)))
    (hst : Row w' B tag' (11 + 3 * rest.length) 43 2 sv st.length (vcell st.reverse)) :
    Lay w' B rb tag' pv fv av ov hv LV (upd SV rest.length sv) AV { s with fr := { f with stk := st } :: rest } := by
  have hlen : s.fr.length = rest.length + 1 := by rw [hs]; rfl
  have hfa : ∀ i, i < rest.length + 1 → (frAt ({ f with stk := st } :: rest) i).fn = (frAt s.fr i).fn ∧ (frAt ({ f with stk := st } :: rest) i).pc = (frAt s.fr i).pc ∧ (frAt ({ f with stk := st } :: rest) i).loc = (frAt s.fr i).loc := by
    intro i hi
    rw [hs]
    by_cases e : i = rest.length
    · subst e; rw [frAt_top, frAt_top]; exact ⟨rfl, rfl, rfl⟩
    · rw [frAt_rest _ _ _ (by omega), frAt_rest _ _ _ (by omega)]; exact ⟨rfl, rfl, rfl⟩
  obtain ⟨r1, r2, r3⟩ := h.runKeep k (by omega)
  refine ⟨r1, ⟨r2, r3⟩, ?_, h.ar.keep k (by omega), h.out.keep k (by omega), h.hi.keep k (by omega), fun i hi => ?_, fun i hi => ?_, fun j hj => (h.arr j hj).keep k (by omega)⟩
  · refine hf.congr fun i hi => ?_
    obtain ⟨a1, a2, _⟩ := hfa (i / 4) (by omega)
    show fcell s.fr LV _ i = fcell ({ f with stk := st } :: rest) LV _ i
    unfold fcell
    rw [a1, a2]
  · have hi' : i < rest.length + 1 := hi
    obtain ⟨_, _, a3⟩ := hfa i hi'
    show Row w' B tag' _ _ 2 (LV i) (frAt ({ f with stk := st } :: rest) i).loc.length (vcell (frAt ({ f with stk := st } :: rest) i).loc)
    rw [a3]
    exact (h.loc i (by omega)).keep k (by omega)
  · have hi' : i < rest.length + 1 := hi
    show Row w' B tag' _ _ 2 (upd SV rest.length sv i) (frAt ({ f with stk := st } :: rest) i).stk.length (vcell (frAt ({ f with stk := st } :: rest) i).stk.reverse)
    by_cases e : i = rest.length
    · subst e
      rw [frAt_top, upd_same]
      exact hst
    · rw [upd_other _ _ _ _ e, frAt_rest _ _ _ (by omega)]
      have := h.stk i (by omega)
      rw [hs, frAt_rest _ _ _ (by omega)] at this
      exact this.keep k (by omega)

theorem fcell_stk (fr : List Fr) (LV SV : Nat → Value) (k : Nat) : fcell fr LV SV (k * 4 + 3) = SV k := by
  unfold fcell; rw [if_neg (by omega), if_neg (by omega), if_neg (by omega), show (k * 4 + 3) / 4 = k by omega]
theorem fcell_loc (fr : List Fr) (LV SV : Nat → Value) (k : Nat) : fcell fr LV SV (k * 4 + 2) = LV k := by
  unfold fcell; rw [if_neg (by omega), if_neg (by omega), if_pos (by omega), show (k * 4 + 2) / 4 = k by omega]
theorem fcell_pc (fr : List Fr) (LV SV : Nat → Value) (k : Nat) : fcell fr LV SV (k * 4 + 1) = .int .i64 (frAt fr k).pc := by
  unfold fcell; rw [if_neg (by omega), if_pos (by omega), show (k * 4 + 1) / 4 = k by omega]
theorem fcell_fn (fr : List Fr) (LV SV : Nat → Value) (k : Nat) : fcell fr LV SV (k * 4) = .int .i64 (frAt fr k).fn := by
  unfold fcell; rw [if_pos (by omega), show (k * 4) / 4 = k by omega]
theorem fcell_set (fr : List Fr) (LV SV : Nat → Value) (k : Nat) (v : Value) (i : Nat) : upd (fcell fr LV SV) (k * 4 + 3) v i = fcell fr LV (upd SV k v) i := by
  by_cases e : i = k * 4 + 3
  · subst e; rw [upd_same, fcell_stk, upd_same]
  · rw [upd_other _ _ _ _ e]
    unfold fcell upd
    by_cases e2 : i / 4 = k
    · by_cases e3 : i % 4 = 3
      · omega
      · have h4 : i % 4 = 0 ∨ i % 4 = 1 ∨ i % 4 = 2 := by omega
        rcases h4 with h4 | h4 | h4 <;> simp [h4]
    · rw [if_neg e2]

theorem vcell_snoc (l : List V) (v : V) (i : Nat) (hi : i < (l.length + 1) * 2) : (if i < l.length * 2 then vcell l i else [Value.int .i64 v.k, Value.int .i64 v.n].getD (i - l.length * 2) (.bool false)) = vcell (l ++ [v]) i := by
  unfold vcell
  by_cases h : i < l.length * 2
  · rw [if_pos h]
    rw [List.getD_eq_getElem?_getD, List.getD_eq_getElem?_getD, List.getElem?_append_left (by omega)]
  · rw [if_neg h]
    have : i = l.length * 2 ∨ i = l.length * 2 + 1 := by omega
    rcases this with rfl | rfl
    · rw [if_pos (by omega), show l.length * 2 / 2 = l.length by omega]; simp
    · rw [if_neg (by omega), show (l.length * 2 + 1) / 2 = l.length by omega]; simp

theorem Tryz.info43 : (Tryz.prog.info? 43).map (fun i => (i.zero, i.size, i.bytes)) = some (some (.agg #[.int .i64 0, .int .i64 0]), 2, 16) := by kernel_rfl

theorem grew_cell {W w1 : World} {o : Obj} {row : Option Nat} (hg : (W.drew.alloc o).grownBy w1 row) {a : Addr} (ha : a.block < W.heap.size) (hne : some a.block ≠ row) : w1.cell? a = W.cell? a := by
  have h1 : w1.heap[a.block]? = (W.drew.alloc o).heap[a.block]? := hg.block a.block (by show a.block < (W.heap.push o).size; simp; omega) hne
  have h2 : (W.drew.alloc o).heap[a.block]? = W.heap[a.block]? := Below.heap_alloc W.drew o a.block ha
  exact World.cell?_of_block (h1.trans h2)
theorem grew_frozen {W w1 : World} {o : Obj} {row : Option Nat} (hg : (W.drew.alloc o).grownBy w1 row) {a : Addr} (ha : a.block < W.heap.size) (hne : some a.block ≠ row) : w1.frozen? a = W.frozen? a := by
  have h1 : w1.heap[a.block]? = (W.drew.alloc o).heap[a.block]? := hg.block a.block (by show a.block < (W.heap.push o).size; simp; omega) hne
  have h2 : (W.drew.alloc o).heap[a.block]? = W.heap[a.block]? := Below.heap_alloc W.drew o a.block ha
  exact World.frozen?_of_block (h1.trans h2)

theorem Row.other {w : World} {B : Nat} {tag : Nat → Nat} {c : Nat} {e : TypeId} {sz : Nat} {v : Value} {n : Nat} {f : Nat → Value} (h : Row w B tag c e sz v n f) {b : Nat} (hb : tag b ≠ c) : some b ≠ v.ownBlock := by
  rcases h with ⟨h, _⟩ | ⟨b', cap', cur, hv, hb', ht, _⟩
  · rw [h]; simp [Value.ownBlock]
  · rw [hv]
    intro e2
    have : b = b' := by simpa [Value.ownBlock] using e2
    rw [this] at hb
    exact hb ht
theorem Row.otherNew {w : World} {B : Nat} {tag : Nat → Nat} {c : Nat} {e : TypeId} {sz : Nat} {v : Value} {n : Nat} {f : Nat → Value} (h : Row w B tag c e sz v n f) {b : Nat} (hb : w.heap.size ≤ b) : some b ≠ v.ownBlock := by
  rcases h with ⟨h, _⟩ | ⟨b', cap', cur, hv, hb', ht, hh, _⟩
  · rw [h]; simp [Value.ownBlock]
  · rw [hv]
    intro e2
    have : b = b' := by simpa [Value.ownBlock] using e2
    have := (Array.getElem?_eq_some_iff.1 hh).1
    omega

set_option maxRecDepth 100000 in
set_option maxHeartbeats 1000000 in
theorem push_any (w : World) (B rb : Nat) (tag : Nat → Nat) (pv fv av ov hv : Value) (LV SV AV : Nat → Value) (s : Mc) (f : Fr) (rest : List Fr) (v : V) (hL : Lay w B rb tag pv fv av ov hv LV SV AV s) (hs : s.fr = f :: rest) (hB : B ≤ w.heap.size) (hn : f.stk.length ≤ 64) (hr : rest.length ≤ 64) :
    Calls Tryz.prog 111 #[.pointer (some ⟨rb, 0, none⟩), .agg #[.int .i64 v.k, .int .i64 v.n]] w fun e w' => e = .returned (.tuple #[]) ∧
      ∃ tag' sv, Lay w' B rb tag' pv fv av ov hv LV (upd SV rest.length sv) AV { s with fr := { f with stk := v :: f.stk } :: rest } ∧ Ch B (fun c => c = 1 ∨ c = 11 + 3 * rest.length) tag tag' w w' := by
  have hfl : s.fr.length = rest.length + 1 := by rw [hs]; rfl
  have hfr := hL.fr
  rw [hfl] at hfr
  obtain ⟨fb, fcap, rfl, hfb, hfz, hft, hfc⟩ := hfr.form (by omega)
  have r1 : w.cell? ⟨rb, 1, none⟩ = some (.slice (some ⟨fb, 0, none⟩) (rest.length + 1) fcap) := hL.cell 1
  have c3 := hfr.cell (i := rest.length * 4 + 3) (by omega)
  rw [fcell_stk] at c3
  have z3 := hfr.frozen (rest.length * 4 + 3)
  have hrb := hL.lt
  have HL := hid (And.intro hL hfr)
  clear hL hfr
  generalize hk : rest.length = k at *
  have Hk := hid hk
  clear hk
  go_enter Tryz.func111, Tryz.ntmps111
  go_wp2
  go_quiet (fail)
  go_wp2
  obtain ⟨inf, hi, hz0, hz1, hz2⟩ : ∃ i, Tryz.prog.info? 43 = some i ∧ i.zero = some (.agg #[.int .i64 0, .int .i64 0]) ∧ i.size = 2 ∧ i.bytes = 16 := by
    obtain ⟨i, hi, hzz⟩ := Option.map_eq_some_iff.1 Tryz.info43
    simp only [Prod.mk.injEq] at hzz
    exact ⟨i, hi, hzz.1, hzz.2.1, hzz.2.2⟩
  have hch : Ch B (fun c => c = 1 ∨ c = 11 + 3 * k) tag tag w ((w.alloc (.cells #[.int .i64 v.k, .int .i64 v.n] 43)).drewN nq) := Ch.of_below (below_drewN ((Below.refl _ _).alloc (Nat.le_refl _) _) _)
  have hrow : Row ((w.alloc (.cells #[.int .i64 v.k, .int .i64 v.n] 43)).drewN nq) B tag (11 + 3 * k) 43 2 (SV k) f.stk.length (vcell f.stk.reverse) := by
    have h := HL.out.1.stk k (by omega)
    have e : frAt s.fr k = f := by rw [hs, ← Hk.out]; exact frAt_top _ _
    rw [e] at h
    exact h.keep (Ch.of_below (p := fun _ => False) (below_drewN ((Below.refl _ _).alloc (Nat.le_refl _) _) _)) (fun h => h)
  have b0 : ((w.alloc (.cells #[.int .i64 v.k, .int .i64 v.n] 43)).drewN nq).cell? ⟨w.heap.size, 0, none⟩ = some (.int .i64 v.k) := cell_new w _ _ _ _ rfl
  have b1 : ((w.alloc (.cells #[.int .i64 v.k, .int .i64 v.n] 43)).drewN nq).cell? ⟨w.heap.size, 1, none⟩ = some (.int .i64 v.n) := cell_new w _ _ _ _ rfl
  have d3 : ((w.alloc (.cells #[.int .i64 v.k, .int .i64 v.n] 43)).drewN nq).cell? ⟨fb, k * 4 + 3, none⟩ = some (SV k) := (Below.cell (below_drewN ((Below.refl w.heap.size w).alloc (Nat.le_refl _) _) _) (p := ⟨fb, _, none⟩) hfz).trans c3
  have y3 : ((w.alloc (.cells #[.int .i64 v.k, .int .i64 v.n] 43)).drewN nq).frozen? ⟨fb, k * 4 + 3, none⟩ = false := (Below.frozen (below_drewN ((Below.refl w.heap.size w).alloc (Nat.le_refl _) _) _) (p := ⟨fb, _, none⟩) hfz).trans z3
  have hsz : ((w.alloc (.cells #[.int .i64 v.k, .int .i64 v.n] 43)).drewN nq).heap.size = w.heap.size + 1 := by simp
  have hfrW : Row ((w.alloc (.cells #[.int .i64 v.k, .int .i64 v.n] 43)).drewN nq) B tag 1 73 4 (.slice (some ⟨fb, 0, none⟩) (k + 1) fcap) (k + 1) (fcell s.fr LV SV) :=
    HL.out.2.keep (Ch.of_below (p := fun _ => False) (below_drewN ((Below.refl _ _).alloc (Nat.le_refl _) _) _)) (fun h => h)
  have HC := hid (And.intro hch (And.intro hrow hfrW))
  have HZ := hid hsz
  have HY := hid y3
  have hne1 : some fb ≠ (SV k).ownBlock := hrow.other (by rw [hft]; omega)
  have hne2 : some w.heap.size ≠ (SV k).ownBlock := by
    have h := HL.out.1.stk k (by omega)
    exact h.otherNew (Nat.le_refl _)
  clear hch hrow hfrW hsz y3 c3 z3 r1
  generalize (w.alloc (.cells #[.int .i64 v.k, .int .i64 v.n] 43)).drewN nq = W at *
  have hbs : w.heap.size < W.heap.size := by have := HZ.out; omega
  have hfs : fb < W.heap.size := by omega
  go_region_law
    ((refine step_append_lies _ (by rfl) _ _ _ (by rfl) B 43 inf _ 2 16 Tryz.underlying44 hi hz0 hz1 hz2 rfl (by decide) (SV k) f.stk.length _ (by rfl) (by exact (HC.out.2.1.owns.drew).alloc _) ⟨W.heap.size, 0, none⟩ 1 1 [.int .i64 v.k, .int .i64 v.n] (by rfl) (by rfl) (by exact World.news_of_block (Go.Deep.blk_alloc_new W.drew _)) (by intro u hu; simp at hu; rcases hu with rfl | rfl <;> rfl) (by omega) (by unfold maxLen; omega) (by omega) (by simp; omega) (W.heap.size + 1) (by simp) ?_; intro g cap w1 hown1 hgrow hat hlt; have q0 := (grew_cell hgrow (a := ⟨fb, k * 4 + 3, none⟩) hfs hne1).trans d3; have q1 := (grew_cell hgrow (a := ⟨w.heap.size, 0, none⟩) hbs hne2).trans b0; have q2 := (grew_cell hgrow (a := ⟨w.heap.size, 1, none⟩) hbs hne2).trans b1; have q3 := (grew_frozen hgrow (a := ⟨fb, k * 4 + 3, none⟩) hfs hne1).trans HY.out))
  all_goals
    have hXb : Below W.heap.size W (W.alloc (.cells #[.int .i64 v.k, .int .i64 v.n] 43)).drew := ((Below.refl _ _).alloc (Nat.le_refl _) _).drew
    have hX : Ch B (fun _ => False) tag tag W (W.alloc (.cells #[.int .i64 v.k, .int .i64 v.n] 43)).drew := Ch.of_below hXb
    obtain ⟨tag', hst, hgc⟩ := (HC.out.2.1.keep hX (fun h => h)).grew hown1 hgrow (by rcases hat with h | h; exact Or.inl h; right; rw [h]; simp) rfl
    have hlx : fb < (W.alloc (.cells #[.int .i64 v.k, .int .i64 v.n] 43)).drew.heap.size := by simp; omega
    have hf1 := (HC.out.2.2.keep hX (fun h => h)).keep hgc (by omega)
    have hf2 := (hf1.set (k * 4 + 3) (.slice (some ⟨g, 0, none⟩) (f.stk.length + 1) cap)).congr (fun i _ => fcell_set _ _ _ _ _ i)
    have htf : tag' fb = 1 := (hgc.tags fb hlx).trans hft
    have hcs : Ch B (fun c => c = 1) tag' tag' w1 (w1.setCell ⟨fb, k * 4 + 3, none⟩ (.slice (some ⟨g, 0, none⟩) (f.stk.length + 1) cap)) := Ch.set w1 fb _ _ hfb htf
    have hst2 := (hst.keep hcs (by omega)).congr (g := vcell (v :: f.stk).reverse) (fun i hi => by
      rw [List.reverse_cons, ← vcell_snoc _ _ _ (by simpa using hi)]
      simp)
    have hall : Ch B (fun c => c = 1 ∨ c = 11 + 3 * k) tag tag' w (w1.setCell ⟨fb, k * 4 + 3, none⟩ (.slice (some ⟨g, 0, none⟩) (f.stk.length + 1) cap)) :=
      ((HC.out.1.trans (hX.mono (fun _ h => h.elim))).trans (hgc.mono (fun _ h => Or.inr h))).trans (hcs.mono (fun _ h => Or.inl h))
    have hfin : Lay (w1.setCell ⟨fb, k * 4 + 3, none⟩ (.slice (some ⟨g, 0, none⟩) (f.stk.length + 1) cap)) B rb tag' pv (.slice (some ⟨fb, 0, none⟩) (k + 1) fcap) av ov hv LV (upd SV k (.slice (some ⟨g, 0, none⟩) (f.stk.length + 1) cap)) AV { s with fr := { f with stk := v :: f.stk } :: rest } := by
      have h := HL.out.1.stack (st := v :: f.stk) (sv := .slice (some ⟨g, 0, none⟩) (f.stk.length + 1) cap) hs (by rw [Hk.out]; exact hall) (by rw [Hk.out]; exact hf2) (by rw [Hk.out]; exact hst2)
      rw [Hk.out] at h
      exact h
    have HQ := hid (And.intro hfin hall)
    clear hfin hall hst2 hcs hf2 hf1 hst hgc hX hXb hown1 hgrow q0 q1 q2 q3
    go_end0
    exact ⟨rfl, tag', _, HQ.out⟩
end Go.Proofs.YtkafkipjedpohaaGreatDoor

/-
  A run of upshiftref as it lies in memory: pop.
-/
namespace Go.Proofs.YtkafkipjedpohaaGreatDoor
open Go.RowKit

theorem vcell_top (l : List V) (v : V) : vcell (l ++ [v]) (l.length * 2) = .int .i64 v.k ∧ vcell (l ++ [v]) (l.length * 2 + 1) = .int .i64 v.n := by
  unfold vcell
  rw [if_pos (by omega), if_neg (by omega), show l.length * 2 / 2 = l.length by omega, show (l.length * 2 + 1) / 2 = l.length by omega]
  simp
theorem vcell_cut (l : List V) (v : V) (i : Nat) (hi : i < l.length * 2) : vcell (l ++ [v]) i = vcell l i := by
  unfold vcell
  rw [List.getD_eq_getElem?_getD, List.getD_eq_getElem?_getD, List.getElem?_append_left (by omega)]

theorem Ch.setNew {B : Nat} {p : Nat → Prop} {t1 t2 : Nat → Nat} {u w : World} (h : Ch B p t1 t2 u w) {a : Addr} (ha : u.heap.size ≤ a.block) (v : Value) : Ch B p t1 t2 u (w.setCell a v) :=
  ⟨h.os, h.tape, h.output, by have := h.size; simp [World.setCell]; omega, fun b hb hl => by rw [Below.heap_setCell _ _ _ _ (by omega)]; exact h.block b hb hl, h.tags⟩
theorem Ch.alloc {B : Nat} {p : Nat → Prop} {t1 t2 : Nat → Nat} {u w : World} (h : Ch B p t1 t2 u w) (o : Obj) : Ch B p t1 t2 u (w.alloc o) :=
  ⟨h.os, h.tape, h.output, by have := h.size; simp; omega, fun b hb hl => by rw [Below.heap_alloc _ _ _ (by have := h.size; omega)]; exact h.block b hb hl, h.tags⟩
theorem Ch.drewN {B : Nat} {p : Nat → Prop} {t1 t2 : Nat → Nat} {u w : World} (h : Ch B p t1 t2 u w) (n : Nat) : Ch B p t1 t2 u (w.drewN n) := ⟨h.os, h.tape, h.output, h.size, h.block, h.tags⟩
theorem Ch.drew {B : Nat} {p : Nat → Prop} {t1 t2 : Nat → Nat} {u w : World} (h : Ch B p t1 t2 u w) : Ch B p t1 t2 u w.drew := ⟨h.os, h.tape, h.output, h.size, h.block, h.tags⟩
/-- A store into an old block whose tag is let. -/
theorem Ch.setOld {B : Nat} {p : Nat → Prop} {t1 t2 : Nat → Nat} {u w : World} (h : Ch B p t1 t2 u w) {a : Addr} (hB : B ≤ a.block) (hp : a.block < u.heap.size → p (t1 a.block)) (v : Value) : Ch B p t1 t2 u (w.setCell a v) :=
  ⟨h.os, h.tape, h.output, by have := h.size; simp [World.setCell]; omega, fun b hb hl => by
    rw [Below.heap_setCell _ _ _ _ (by
      intro e
      rw [e] at hb hl
      rcases hl with hl | hl
      · omega
      · exact hl (hp hb))]
    exact h.block b hb hl, h.tags⟩
theorem Ch.trans' {B : Nat} {p : Nat → Prop} {t1 t2 : Nat → Nat} {u v w : World} (h : Ch B p t1 t2 u v) (k : Below v.heap.size v w) : Ch B p t1 t2 u w :=
  ⟨k.os.trans h.os, k.tape.trans h.tape, k.output.trans h.output, Nat.le_trans h.size k.size, fun b hb hl => (k.block b (Nat.lt_of_lt_of_le hb h.size)).trans (h.block b hb hl), h.tags⟩

theorem Row.keepBlock {w w' : World} {B : Nat} {tag : Nat → Nat} {c : Nat} {e : TypeId} {sz b n cap : Nat} {f : Nat → Value} (h : Row w B tag c e sz (.slice (some ⟨b, 0, none⟩) n cap) n f) (hb : w'.heap[b]? = w.heap[b]?) : Row w' B tag c e sz (.slice (some ⟨b, 0, none⟩) n cap) n f := by
  rcases h with ⟨h, _⟩ | ⟨b', cap', cur, hv, hb', ht, hh, hc⟩
  · cases h
  · injection hv with e1 e2 e3
    injection e1 with e1
    injection e1 with e1 e4
    subst e1
    subst e3
    exact Or.inr ⟨b, cap, cur, rfl, hb', ht, hb.trans hh, hc⟩

set_option maxRecDepth 100000 in
set_option maxHeartbeats 1000000 in
theorem pop_any (w : World) (B rb : Nat) (tag : Nat → Nat) (pv fv av ov hv : Value) (LV SV AV : Nat → Value) (s : Mc) (f : Fr) (rest : List Fr) (v : V) (st : List V) (hL : Lay w B rb tag pv fv av ov hv LV SV AV s) (hs : s.fr = f :: rest) (hst : f.stk = v :: st) (_hB : B ≤ w.heap.size) (hn : st.length ≤ 64) (hr : rest.length ≤ 64) :
    Calls Tryz.prog 98 #[.pointer (some ⟨rb, 0, none⟩)] w fun e w' => e = .returned (.agg #[.int .i64 v.k, .int .i64 v.n]) ∧
      ∃ tag' sv, Lay w' B rb tag' pv fv av ov hv LV (upd SV rest.length sv) AV { s with fr := { f with stk := st } :: rest } ∧ Ch B (fun c => c = 1 ∨ c = 11 + 3 * rest.length) tag tag' w w' := by
  have hfl : s.fr.length = rest.length + 1 := by rw [hs]; rfl
  have hfr := hL.fr
  rw [hfl] at hfr
  obtain ⟨fb, fcap, rfl, hfb, hfz, hft, hfc⟩ := hfr.form (by omega)
  have r1 : w.cell? ⟨rb, 1, none⟩ = some (.slice (some ⟨fb, 0, none⟩) (rest.length + 1) fcap) := hL.cell 1
  have c3 := hfr.cell (i := rest.length * 4 + 3) (by omega)
  rw [fcell_stk] at c3
  have z3 := hfr.frozen (rest.length * 4 + 3)
  have hrow := hL.stk rest.length (by omega)
  have e0 : frAt s.fr rest.length = f := by rw [hs]; exact frAt_top _ _
  rw [e0, hst, List.length_cons, List.reverse_cons] at hrow
  obtain ⟨sb, scap, hsv, hsb, hsz, hstg, hsc⟩ := hrow.form (by omega)
  rw [hsv] at hrow c3
  have hlr : st.reverse.length = st.length := by simp
  have x0 := hrow.cell (i := st.length * 2) (by omega)
  have x1 := hrow.cell (i := st.length * 2 + 1) (by omega)
  have ht := vcell_top st.reverse v
  rw [hlr] at ht
  rw [ht.1] at x0
  rw [ht.2] at x1
  have hrb := hL.lt
  have hne : ¬ sb = fb := by intro e; rw [e, hft] at hstg; omega
  have HL := hid (And.intro hL (And.intro hfr hrow))
  have HV := hid hsv
  clear hL hfr hrow ht hlr e0 hsv
  generalize hk : rest.length = k at *
  have Hk := hid hk
  clear hk
  generalize hnn : st.length = n at *
  have Hn := hid hnn
  clear hnn
  go_enter Tryz.func98, Tryz.ntmps98
  go_wp2
  go_quiet (fail)
  go_wp2
  refine bodyPost_ret (v := .agg #[.int .i64 v.k, .int .i64 v.n]) (by simp [results, Tryz.results98, go_sem]) rfl ⟨rfl, tag, .slice (some ⟨sb, 0, none⟩) n scap, ?_⟩
  have h0 : Ch B (fun c => c = 1) tag tag w ((w.alloc (.cells #[.int .i64 0, .int .i64 0] 43)).drewN nq) := ((Ch.refl B _ tag w).alloc _).drewN _
  have h1 : Ch B (fun c => c = 1) tag tag w ((((((w.alloc (.cells #[.int .i64 0, .int .i64 0] 43)).drewN nq).setCell ⟨fb, k * 4 + 3, none⟩ (.slice (some ⟨sb, 0, none⟩) n scap)).setCell ⟨w.heap.size, 0, none⟩ (.int .i64 v.k)).setCell ⟨w.heap.size, 1, none⟩ (.int .i64 v.n)).alloc (.cells #[.int .i64 v.k, .int .i64 v.n] 43)) :=
    (((h0.setOld hfb (fun _ => hft) _).setNew (Nat.le_refl _) _).setNew (Nat.le_refl _) _).alloc _
  refine ⟨?_, h1.mono (fun _ h => Or.inl h)⟩
  have hf0 := HL.out.2.1.keepBlock (w' := (w.alloc (.cells #[.int .i64 0, .int .i64 0] 43)).drewN nq) (Below.heap_alloc w _ fb hfz)
  have hf1 := (hf0.set (k * 4 + 3) (.slice (some ⟨sb, 0, none⟩) n scap)).congr (fun i _ => fcell_set _ _ _ _ _ i)
  have hf2 := hf1.keepBlock (w' := (((((w.alloc (.cells #[.int .i64 0, .int .i64 0] 43)).drewN nq).setCell ⟨fb, k * 4 + 3, none⟩ (.slice (some ⟨sb, 0, none⟩) n scap)).setCell ⟨w.heap.size, 0, none⟩ (.int .i64 v.k)).setCell ⟨w.heap.size, 1, none⟩ (.int .i64 v.n)).alloc (.cells #[.int .i64 v.k, .int .i64 v.n] 43)) (by
    rw [Below.heap_alloc _ _ _ (by simp [World.setCell]; omega), Below.heap_setCell _ _ _ _ (by dsimp only; omega), Below.heap_setCell _ _ _ _ (by dsimp only; omega)])
  have hs2 := (HL.out.2.2.take n (by omega)).keep h1 (by omega)
  have hs3 := hs2.congr (g := vcell st.reverse) (fun i hi => vcell_cut _ _ _ (by rw [List.length_reverse, Hn.out]; exact hi))
  have hfin := HL.out.1.stack (st := st) (sv := .slice (some ⟨sb, 0, none⟩) n scap) hs (by rw [Hk.out]; exact h1.mono (fun _ h => Or.inl h)) (by rw [Hk.out]; exact hf2) (by rw [Hk.out, Hn.out]; exact hs3)
  rw [Hk.out] at hfin
  exact hfin
end Go.Proofs.YtkafkipjedpohaaGreatDoor
