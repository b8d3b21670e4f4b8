import Derived.Test.YtkafkipjedpohaaGreatDoorWd
import Derived.Test.YtkafkipjedpohaaGreatDoorPureA
import Derived.Test.YtkafkipjedpohaaGreatDoorA3
import Derived.Deep.AppendLies
import Derived.Deep.RegionHeld3
import Derived.Deep.RegionLaw

/-
  A run of upshiftref as it lies in memory: rows of the call's own, told apart by tags.
-/
namespace Go.Proofs.YtkafkipjedpohaaGreatDoor
open Go.RowKit

/-- A slice of the call's own (from block B on): n elements of sz cells, cell i holding f i; its block bears the tag c. -/
def Row (w : World) (B : Nat) (tag : Nat → Nat) (c : Nat) (e : TypeId) (sz : Nat) (v : Value) (n : Nat) (f : Nat → Value) : Prop :=
  (v = .slice none 0 0 ∧ n = 0) ∨
  ∃ b cap cur, v = .slice (some ⟨b, 0, none⟩) n cap ∧ B ≤ b ∧ tag b = c ∧ w.heap[b]? = some (.cells cur e (0, 0)) ∧ n ≤ cap ∧ cap ≤ maxLen ∧ cur.size = cap * sz ∧ ∀ i, i < n * sz → cur[i]? = some (f i)

theorem Row.nil (w : World) (B : Nat) (tag : Nat → Nat) (c : Nat) (e : TypeId) (sz : Nat) (f : Nat → Value) : Row w B tag c e sz (.slice none 0 0) 0 f := Or.inl ⟨rfl, rfl⟩

theorem Row.form {w : World} {B : Nat} {tag : Nat → Nat} {c : Nat} {e : TypeId} {sz : Nat} {v : Value} {n : Nat} {f : Nat → Value} (h : Row w B tag c e sz v n f) (hn : 1 ≤ n) :
    ∃ b cap, v = .slice (some ⟨b, 0, none⟩) n cap ∧ B ≤ b ∧ b < w.heap.size ∧ tag b = c ∧ n ≤ cap := by
  rcases h with ⟨_, h⟩ | ⟨b, cap, cur, hv, hb, ht, hh, hc, _⟩
  · omega
  · exact ⟨b, cap, hv, hb, (Array.getElem?_eq_some_iff.1 hh).1, ht, hc⟩

theorem Row.cell {w : World} {B : Nat} {tag : Nat → Nat} {c : Nat} {e : TypeId} {sz b n cap : Nat} {f : Nat → Value} (h : Row w B tag c e sz (.slice (some ⟨b, 0, none⟩) n cap) n f) {i : Nat} (hi : i < n * sz) : w.cell? ⟨b, i, none⟩ = some (f i) := by
  rcases h with ⟨h, _⟩ | ⟨b', cap', cur, hv, _, _, hh, _, _, _, hf⟩
  · cases h
  · injection hv with e1 e2 e3
    injection e1 with e1
    injection e1 with e1 e4
    subst e1
    unfold World.cell?
    rw [hh]
    exact hf i hi

theorem Row.frozen {w : World} {B : Nat} {tag : Nat → Nat} {c : Nat} {e : TypeId} {sz b n cap : Nat} {f : Nat → Value} (h : Row w B tag c e sz (.slice (some ⟨b, 0, none⟩) n cap) n f) (i : Nat) : w.frozen? ⟨b, i, none⟩ = false := by
  rcases h with ⟨h, _⟩ | ⟨b', cap', cur, hv, _, _, hh, _⟩
  · cases h
  · injection hv with e1 e2 e3
    injection e1 with e1
    injection e1 with e1 e4
    subst e1
    unfold World.frozen?
    rw [hh]
    simp

/-- The same row, its content said otherwise. -/
theorem Row.congr {w : World} {B : Nat} {tag : Nat → Nat} {c : Nat} {e : TypeId} {sz : Nat} {v : Value} {n : Nat} {f g : Nat → Value} (h : Row w B tag c e sz v n f) (hg : ∀ i, i < n * sz → f i = g i) : Row w B tag c e sz v n g := by
  rcases h with h | ⟨b, cap, cur, hv, hb, ht, hh, hc, hm, hs, hf⟩
  · exact Or.inl h
  · exact Or.inr ⟨b, cap, cur, hv, hb, ht, hh, hc, hm, hs, fun i hi => by rw [hf i hi, hg i hi]⟩

/-- What turns between two worlds: of what was there from block B on, at most the blocks whose tag is let; tags of what was there stand. -/
structure Ch (B : Nat) (let_ : Nat → Prop) (tag tag' : Nat → Nat) (w w' : World) : Prop where
  os : w'.os = w.os
  tape : w'.tape = w.tape
  output : w'.output = w.output
  size : w.heap.size ≤ w'.heap.size
  block : ∀ b, b < w.heap.size → (b < B ∨ ¬ let_ (tag b)) → w'.heap[b]? = w.heap[b]?
  tags : ∀ b, b < w.heap.size → tag' b = tag b

theorem Ch.refl (B : Nat) (p : Nat → Prop) (tag : Nat → Nat) (w : World) : Ch B p tag tag w w := ⟨rfl, rfl, rfl, Nat.le_refl _, fun _ _ _ => rfl, fun _ _ => rfl⟩
theorem Ch.trans {B : Nat} {p : Nat → Prop} {t1 t2 t3 : Nat → Nat} {u v w : World} (h : Ch B p t1 t2 u v) (k : Ch B p t2 t3 v w) : Ch B p t1 t3 u w :=
  ⟨k.os.trans h.os, k.tape.trans h.tape, k.output.trans h.output, Nat.le_trans h.size k.size,
    fun b hb hl => (k.block b (Nat.lt_of_lt_of_le hb h.size) (by rw [h.tags b hb]; exact hl)).trans (h.block b hb hl), fun b hb => (k.tags b (Nat.lt_of_lt_of_le hb h.size)).trans (h.tags b hb)⟩
theorem Ch.mono {B : Nat} {p q : Nat → Prop} {t1 t2 : Nat → Nat} {u v : World} (h : Ch B p t1 t2 u v) (hpq : ∀ c, p c → q c) : Ch B q t1 t2 u v :=
  ⟨h.os, h.tape, h.output, h.size, fun b hb hl => h.block b hb (by rcases hl with hl | hl; exact Or.inl hl; exact Or.inr fun hp => hl (hpq _ hp)), h.tags⟩
theorem Ch.below {B : Nat} {p : Nat → Prop} {t1 t2 : Nat → Nat} {u v : World} (h : Ch B p t1 t2 u v) (hB : B ≤ u.heap.size) : Below B u v :=
  ⟨h.os, h.tape, h.output, h.size, fun b hb => h.block b (by omega) (Or.inl hb)⟩
theorem Ch.of_below {B : Nat} {p : Nat → Prop} {tag : Nat → Nat} {u v : World} (h : Below u.heap.size u v) : Ch B p tag tag u v :=
  ⟨h.os, h.tape, h.output, h.size, fun b hb _ => h.block b hb, fun _ _ => rfl⟩
theorem Ch.set {B : Nat} {p : Nat → Prop} {tag : Nat → Nat} (w : World) (b o : Nat) (v : Value) (hb : B ≤ b) (hp : p (tag b)) : Ch B p tag tag w (w.setCell ⟨b, o, none⟩ v) :=
  ⟨rfl, rfl, rfl, by simp [World.setCell], fun k _ hl => Below.heap_setCell _ _ _ _ (by
    intro e
    simp only at e
    subst e
    rcases hl with hl | hl
    · omega
    · exact hl hp), fun _ _ => rfl⟩

theorem Row.keep {w w' : World} {B : Nat} {tag tag' : Nat → Nat} {p : Nat → Prop} {c : Nat} {e : TypeId} {sz : Nat} {v : Value} {n : Nat} {f : Nat → Value} (h : Row w B tag c e sz v n f) (k : Ch B p tag tag' w w') (hp : ¬ p c) : Row w' B tag' c e sz v n f := by
  rcases h with h | ⟨b, cap, cur, hv, hb, ht, hh, hc⟩
  · exact Or.inl h
  · have hlt := (Array.getElem?_eq_some_iff.1 hh).1
    exact Or.inr ⟨b, cap, cur, hv, hb, (k.tags b hlt).trans ht, (k.block b hlt (Or.inr (by rw [ht]; exact hp))).trans hh, hc⟩

/-- A store into a row. -/
theorem Row.set {w : World} {B : Nat} {tag : Nat → Nat} {c : Nat} {e : TypeId} {sz b n cap : Nat} {f : Nat → Value} (h : Row w B tag c e sz (.slice (some ⟨b, 0, none⟩) n cap) n f) (i : Nat) (v : Value) :
    Row (w.setCell ⟨b, i, none⟩ v) B tag c e sz (.slice (some ⟨b, 0, none⟩) n cap) n (upd f i v) := by
  rcases h with ⟨h, _⟩ | ⟨b', cap', cur, hv, hb, ht, hh, hc, hm, hs, hf⟩
  · cases h
  · injection hv with e1 e2 e3
    injection e1 with e1
    injection e1 with e1 e4
    subst e1
    subst e3
    refine Or.inr ⟨b, cap, cur.setIfInBounds i v, rfl, hb, ht, ?_, hc, hm, by simpa using hs, fun j hj => ?_⟩
    · simp [World.setCell, Array.getElem?_modify, hh]
    · rw [Array.getElem?_setIfInBounds]
      by_cases e5 : j = i
      · subst e5
        have : j < cur.size := (Array.getElem?_eq_some_iff.1 (hf j hj)).1
        simp [this, upd]
      · rw [if_neg (fun h => e5 h.symm), upd_other _ _ _ _ e5]
        exact hf j hj

/-- Cut shorter. -/
theorem Row.take {w : World} {B : Nat} {tag : Nat → Nat} {c : Nat} {e : TypeId} {sz b n cap : Nat} {f : Nat → Value} (h : Row w B tag c e sz (.slice (some ⟨b, 0, none⟩) n cap) n f) (k : Nat) (hk : k ≤ n) :
    Row w B tag c e sz (.slice (some ⟨b, 0, none⟩) k cap) k f := by
  rcases h with ⟨h, _⟩ | ⟨b', cap', cur, hv, hb, ht, hh, hc, hm, hs, hf⟩
  · cases h
  · injection hv with e1 e2 e3
    injection e1 with e1
    injection e1 with e1 e4
    subst e1
    subst e3
    exact Or.inr ⟨b, cap, cur, rfl, hb, ht, hh, by omega, hm, hs, fun i hi => hf i (Nat.lt_of_lt_of_le hi (Nat.mul_le_mul_right sz hk))⟩

/-- The kit's word for the same. -/
theorem Row.owns {w : World} {B : Nat} {tag : Nat → Nat} {c : Nat} {e : TypeId} {sz : Nat} {v : Value} {n : Nat} {f : Nat → Value} (h : Row w B tag c e sz v n f) : w.ownsRow B e sz v n ((List.range (n * sz)).map f) := by
  refine ⟨by simp, ?_⟩
  rcases h with h | ⟨b, cap, cur, hv, hb, ht, hh, hc, hm, hs, hf⟩
  · exact Or.inl h
  · refine Or.inr ⟨b, cap, cur, hv, hb, hh, hc, hm, hs, ?_⟩
    apply List.ext_getElem?
    intro i
    by_cases hi : i < n * sz
    · rw [List.getElem?_take_of_lt hi, Array.getElem?_toList, hf i hi]
      simp [hi]
    · rw [List.getElem?_eq_none (by simp; omega), List.getElem?_eq_none (by simp; omega)]

theorem Row.of_owns {w : World} {B : Nat} {tag : Nat → Nat} {c : Nat} {e : TypeId} {sz g n cap : Nat} {xs : List Value} {f : Nat → Value} (h : w.ownsRow B e sz (.slice (some ⟨g, 0, none⟩) n cap) n xs) (ht : tag g = c) (hf : ∀ i, i < n * sz → xs[i]? = some (f i)) :
    Row w B tag c e sz (.slice (some ⟨g, 0, none⟩) n cap) n f := by
  obtain ⟨hl, h⟩ := h
  rcases h with ⟨h, _⟩ | ⟨b, cap', cur, hv, hb, hh, hc, hm, hs, hx⟩
  · cases h
  · injection hv with e1 e2 e3
    injection e1 with e1
    injection e1 with e1 e4
    subst e1
    subst e3
    refine Or.inr ⟨g, cap, cur, rfl, hb, ht, hh, hc, hm, hs, fun i hi => ?_⟩
    rw [← Array.getElem?_toList, ← List.getElem?_take_of_lt hi, hx]
    exact hf i hi

/-- What an append to a row of the call's own leaves: the new row, its tag; all other tags' blocks stand. -/
theorem Row.grew {w w' : World} {B : Nat} {tag : Nat → Nat} {c : Nat} {e : TypeId} {sz : Nat} {v : Value} {n : Nat} {f : Nat → Value} (h : Row w B tag c e sz v n f) {g cap : Nat} {news : List Value}
    (hown : w'.ownsRow B e sz (.slice (some ⟨g, 0, none⟩) (n + 1) cap) (n + 1) ((List.range (n * sz)).map f ++ news)) (hgrow : w.grownBy w' v.ownBlock) (hat : v.ownBlock = some g ∨ g = w.heap.size) (hnl : news.length = sz) :
    ∃ tag', Row w' B tag' c e sz (.slice (some ⟨g, 0, none⟩) (n + 1) cap) (n + 1) (fun i => if i < n * sz then f i else news.getD (i - n * sz) (.bool false)) ∧ Ch B (· = c) tag tag' w w' := by
  refine ⟨fun b => if b < w.heap.size then tag b else c, Row.of_owns hown ?_ (fun i hi => ?_), hgrow.os, hgrow.tape, hgrow.output, hgrow.size, fun b hb hl => hgrow.block b hb ?_, fun b hb => by show (if b < w.heap.size then tag b else c) = tag b; rw [if_pos hb]⟩
  · show (if g < w.heap.size then tag g else c) = c
    by_cases hg : g < w.heap.size
    · rw [if_pos hg]
      rcases hat with hat | hat
      · rcases h with ⟨h, _⟩ | ⟨b, cap', cur, hv, hb, ht, _⟩
        · rw [h] at hat; simp [Value.ownBlock] at hat
        · rw [hv] at hat
          have : b = g := by simpa [Value.ownBlock] using hat
          rw [← this]; exact ht
      · omega
    · rw [if_neg hg]
  · by_cases hlt : i < n * sz
    · rw [if_pos hlt, List.getElem?_append_left (by simpa using hlt)]
      simp [hlt]
    · have hi2 : i - n * sz < news.length := by rw [hnl]; rw [Nat.add_mul, Nat.one_mul] at hi; omega
      rw [if_neg hlt, List.getElem?_append_right (by simp; omega)]
      simp [List.getD_eq_getElem?_getD, hi2]
  · intro e2
    rcases h with ⟨h, _⟩ | ⟨b', cap', cur, hv, hb', ht, _⟩
    · rw [h] at e2; simp [Value.ownBlock] at e2
    · rw [hv] at e2
      have : b = b' := by simpa [Value.ownBlock] using e2
      subst this
      rcases hl with hl | hl
      · omega
      · exact hl ht
end Go.Proofs.YtkafkipjedpohaaGreatDoor
