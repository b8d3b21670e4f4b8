import Derived.Test.YtkafkipjedpohaaGreatDoorR4
import Derived.Laws.AppendOwn
import Derived.Test.YtkafkipjedpohaaGreatDoorR7

/-
  Lists that are held: append to a row, the row itself still there; marks stay.
-/
namespace Go.Proofs.YtkafkipjedpohaaGreatDoor
open Go.RowKit

/-- What an append of k elements to a row of the call's own leaves. -/
theorem Row.grewN {w w' : World} {B : Nat} {tag : Nat → Nat} {c : Nat} {e : TypeId} {sz : Nat} {v : Value} {n k : Nat} {f : Nat → Value} (h : Row w B tag c e sz v n f) {g cap : Nat} {news : List Value}
    (hown : w'.ownsRow B e sz (.slice (some ⟨g, 0, none⟩) (n + k) cap) (n + k) ((List.range (n * sz)).map f ++ news)) (hgrow : w.grownBy w' v.ownBlock) (hat : v.ownBlock = some g ∨ g = w.heap.size) (hnl : news.length = k * sz) :
    Row w' B (fun b => if b < w.heap.size then tag b else c) c e sz (.slice (some ⟨g, 0, none⟩) (n + k) cap) (n + k) (fun i => if i < n * sz then f i else news.getD (i - n * sz) (.bool false)) ∧ Ch B (· = c) tag (fun b => if b < w.heap.size then tag b else c) w w' := by
  refine ⟨Row.of_owns hown ?_ (fun i hi => ?_), hgrow.os, hgrow.tape, hgrow.output, hgrow.size, fun b hb hl => hgrow.block b hb ?_, fun b hb => by show (if b < w.heap.size then tag b else c) = tag b; rw [if_pos hb]⟩
  · show (if g < w.heap.size then tag g else c) = c
    by_cases hg : g < w.heap.size
    · rw [if_pos hg]
      rcases hat with hat | hat
      · rcases h with ⟨h, _⟩ | ⟨b, cap', cur, hv, hb, ht, _⟩
        · rw [h] at hat; simp [Value.ownBlock] at hat
        · rw [hv] at hat
          have : b = g := by simpa [Value.ownBlock] using hat
          rw [← this]; exact ht
      · omega
    · rw [if_neg hg]
  · by_cases hlt : i < n * sz
    · rw [if_pos hlt, List.getElem?_append_left (by simpa using hlt)]
      simp [hlt]
    · have hi2 : i - n * sz < news.length := by rw [hnl]; rw [Nat.add_mul] at hi; omega
      rw [if_neg hlt, List.getElem?_append_right (by simp; omega)]
      simp [List.getD_eq_getElem?_getD, hi2]
  · intro e2
    rcases h with ⟨h, _⟩ | ⟨b', cap', cur, hv, hb', ht, _⟩
    · rw [h] at e2; simp [Value.ownBlock] at e2
    · rw [hv] at e2
      have : b = b' := by simpa [Value.ownBlock] using e2
      subst this
      rcases hl with hl | hl
      · omega
      · exact hl ht

/-- Append: the new row, the old one beside it. -/
theorem append_keep {P : Program} {w : World} {B : Nat} {tag : Nat → Nat} {c : Nat} {e : TypeId} {sz : Nat} {v : Value} {n : Nat} {f : Nat → Value} (hrow : Row w B tag c e sz v n f) (hB : B ≤ w.heap.size)
    (t ty : TypeId) (i : TypeInfo) (z : Value) (bytes : Nat) (ht : P.underlying t = some (.slice e)) (hi : P.info? e = some i) (hz : i.zero = some z) (hsize : i.size = sz) (hby : i.bytes = bytes) (hzs : z.cells.size = sz) (hsz : 0 < sz)
    (ad : Addr) (k cc : Nat) (news : List Value) (hl : news.length = k * sz) (hnews : ∀ j u, news[j]? = some u → w.cell? (ad.add j) = some u) (h1 : ∀ u ∈ news, u.oneCell' = true) (hk : 0 < k) (h63 : n + k ≤ maxLen) (hbytes : (n + k) * bytes ≤ 140737488355328) :
    ∃ g cap w', (Builtin.append_ #[t, t] ty #[v, .slice (some ad) k cc]).run P w = .ok (.slice (some ⟨g, 0, none⟩) (n + k) cap) w' ∧ g < w'.heap.size ∧
      Row w' B (fun b => if b < w.heap.size then tag b else c) c e sz (.slice (some ⟨g, 0, none⟩) (n + k) cap) (n + k) (fun i => if i < n * sz then f i else news.getD (i - n * sz) (.bool false)) ∧
      Row w' B (fun b => if b < w.heap.size then tag b else c) c e sz v n f ∧ Ch B (· = c) tag (fun b => if b < w.heap.size then tag b else c) w w' ∧
      (∀ b j u, b < w.heap.size → w.cell? ⟨b, j, none⟩ = some u → w'.cell? ⟨b, j, none⟩ = some u ∨ (tag b = c ∧ n * sz ≤ j ∧ j - n * sz < k * sz ∧ w'.cell? ⟨b, j, none⟩ = news[j - n * sz]?)) := by
  obtain ⟨g, cap, w', hr, hown, hgrow, hat, hlt⟩ := run_append_lies (P := P) w t ty B e i z sz bytes ht hi hz hsize hby hzs hsz v n _ hrow.owns ad k cc news hl hnews h1 hk h63 hbytes hB w.heap.size rfl
  obtain ⟨hnew, hch⟩ := hrow.grewN hown hgrow hat hl
  refine ⟨g, cap, w', hr, hlt, hnew, ?_, hch, ?_⟩
  · rcases hrow with h | ⟨b, bcap, cur, rfl, hb, htb, hh, hc, hm, hs, hf⟩
    · exact Or.inl h
    have hbz := (Array.getElem?_eq_some_iff.1 hh).1
    have htb' : (fun b => if b < w.heap.size then tag b else c) b = c := by show (if b < w.heap.size then tag b else c) = c; rw [if_pos hbz]; exact htb
    by_cases hroom : n + k ≤ bcap
    · have hfit : n * i.size + news.length ≤ cur.size := by rw [hl, hs, hsize, ← Nat.add_mul]; exact Nat.mul_le_mul_right _ hroom
      have hr2 := run_append_room (P := P) w t ty e i ht hi b n bcap cur hh ad k cc news (by rw [hsize]; exact hl) hnews h1 hroom hfit
      rw [hr] at hr2
      injection hr2 with _ e2
      refine Or.inr ⟨b, bcap, _, rfl, hb, htb', by rw [e2]; exact setRow_heap w b cur _ e _ hh, hc, hm, ?_, fun j hj => ?_⟩
      · simp only [List.size_toArray, List.length_append, List.length_take, List.length_drop, Array.length_toList]
        omega
      · rw [hsize]
        rw [List.getElem?_toArray, List.getElem?_append_left (by simp only [List.length_append, List.length_take, Array.length_toList]; rw [hsize] at hfit; omega), List.getElem?_append_left (by simp only [List.length_take, Array.length_toList]; rw [hsize] at hfit; omega), List.getElem?_take_of_lt hj, Array.getElem?_toList]
        exact hf j hj
    · have hr2 := run_append_grow (P := P) w t ty e i z ht hi hz ⟨b, 0, none⟩ n bcap ((List.range (n * sz)).map f) (by simp [hsize]) (fun j u hu => by
        have hj : j < n * sz := by have := (List.getElem?_eq_some_iff.1 hu).1; simpa using this
        have hu' : f j = u := by simpa [hj] using hu
        rw [Addr.add_lit, Nat.zero_add, ← hu']
        exact (cell_of_row w b j cur e (0, 0) hh).trans (hf j hj)) ad k cc news (by rw [hsize]; exact hl) hnews (by omega) (by simp only [maxLen] at h63; omega) (by rw [hby]; exact growslice_fits (by omega) hbytes)
      rw [hr] at hr2
      injection hr2 with _ e2
      refine Or.inr ⟨b, bcap, cur, rfl, hb, htb', ?_, hc, hm, hs, hf⟩
      rw [e2]
      exact (Below.heap_alloc w.drew _ b hbz).trans hh
  · intro b j u hb hu
    by_cases htb : tag b = c ∧ B ≤ b
    · rcases hrow with ⟨rfl, rfl⟩ | ⟨b', bcap, cur, rfl, hb', htb', hh, hc, hm, hs, hf⟩
      · left
        rw [World.cell?_of_block (hgrow.block b hb (by simp [Value.ownBlock]))]
        exact hu
      · by_cases hbb : b = b'
        · subst hbb
          by_cases hroom : n + k ≤ bcap
          · have hfit : n * i.size + news.length ≤ cur.size := by rw [hl, hs, hsize, ← Nat.add_mul]; exact Nat.mul_le_mul_right _ hroom
            have hr2 := run_append_room (P := P) w t ty e i ht hi b n bcap cur hh ad k cc news (by rw [hsize]; exact hl) hnews h1 hroom hfit
            rw [hr] at hr2
            injection hr2 with _ e2
            have hh2 : w'.heap[b]? = some (.cells (cur.toList.take (n * i.size) ++ news ++ cur.toList.drop (n * i.size + news.length)).toArray e (0, 0)) := by rw [e2]; exact setRow_heap w b cur _ e _ hh
            have hcu : cur[j]? = some u := by rw [← cell_of_row w b j cur e (0, 0) hh]; exact hu
            have hju : j < cur.size := (Array.getElem?_eq_some_iff.1 hcu).1
            have hcw := cell_of_row w' b j _ e (0, 0) hh2
            rw [hsize] at hcw hfit
            by_cases q1 : j < n * sz
            · left
              rw [hcw, List.getElem?_toArray, List.getElem?_append_left (by simp only [List.length_append, List.length_take, Array.length_toList]; omega), List.getElem?_append_left (by simp only [List.length_take, Array.length_toList]; omega), List.getElem?_take_of_lt q1, Array.getElem?_toList]
              exact hcu
            · by_cases q2 : j - n * sz < k * sz
              · right
                refine ⟨htb.1, by omega, q2, ?_⟩
                rw [hcw, List.getElem?_toArray, List.getElem?_append_left (by simp only [List.length_append, List.length_take, Array.length_toList]; omega), List.getElem?_append_right (by simp only [List.length_take, Array.length_toList]; omega)]
                simp only [List.length_take, Array.length_toList]
                congr 1
                omega
              · left
                rw [hcw, List.getElem?_toArray, List.getElem?_append_right (by simp only [List.length_append, List.length_take, Array.length_toList]; omega), List.getElem?_drop, Array.getElem?_toList]
                simp only [List.length_append, List.length_take, Array.length_toList]
                rw [show n * sz + news.length + (j - (min (n * sz) cur.size + news.length)) = j by omega]
                exact hcu
          · left
            have hr2 := run_append_grow (P := P) w t ty e i z ht hi hz ⟨b, 0, none⟩ n bcap ((List.range (n * sz)).map f) (by simp [hsize]) (fun j u hu => by
              have hj : j < n * sz := by have := (List.getElem?_eq_some_iff.1 hu).1; simpa using this
              have hu' : f j = u := by simpa [hj] using hu
              rw [Addr.add_lit, Nat.zero_add, ← hu']
              exact (cell_of_row w b j cur e (0, 0) hh).trans (hf j hj)) ad k cc news (by rw [hsize]; exact hl) hnews (by omega) (by simp only [maxLen] at h63; omega) (by rw [hby]; exact growslice_fits (by omega) hbytes)
            rw [hr] at hr2
            injection hr2 with _ e2
            rw [World.cell?_of_block (show w'.heap[b]? = w.heap[b]? by rw [e2]; exact Below.heap_alloc w.drew _ b hb)]
            exact hu
        · left
          rw [World.cell?_of_block (hgrow.block b hb (by simp [Value.ownBlock]; exact fun h => hbb h))]
          exact hu
    · left
      rw [World.cell?_of_block (hch.block b hb (by by_cases q : tag b = c; exact Or.inl (by have : ¬ (B ≤ b) := fun h => htb ⟨q, h⟩; omega); exact Or.inr q))]
      exact hu
end Go.Proofs.YtkafkipjedpohaaGreatDoor

/-
  upshiftlaw's World and Hold in memory: the lists that came out, full of their marks.
-/
namespace Go.Proofs.YtkafkipjedpohaaGreatDoor
open Go.RowKit

/-- A list whose n elements are all of the same cells g, in a block that the tags let stand (or none). -/
def Full (w : World) (B : Nat) (tag : Nat → Nat) (Kd : Nat → Prop) (sz : Nat) (v : Value) (g : Nat → Value) : Prop :=
  ∃ p n cap, v = .slice p n cap ∧ n ≤ 200003 ∧ (0 < n → ∃ b, p = some ⟨b, 0, none⟩ ∧ B ≤ b ∧ Kd (tag b) ∧ b < w.heap.size ∧ ∀ j, j < n * sz → w.cell? ⟨b, j, none⟩ = some (g (j % sz)))

theorem Full.keep {w w' : World} {B : Nat} {tag tag' : Nat → Nat} {Kd Kd' p : Nat → Prop} {sz : Nat} {v : Value} {g : Nat → Value} (h : Full w B tag Kd sz v g) (k : Ch B p tag tag' w w') (hp : ∀ d, Kd d → ¬ p d) (hk : ∀ d, Kd d → Kd' d) : Full w' B tag' Kd' sz v g := by
  obtain ⟨q, n, cap, hv, hn, hb⟩ := h
  refine ⟨q, n, cap, hv, hn, fun h0 => ?_⟩
  obtain ⟨b, e, hB, ht, hz, hc⟩ := hb h0
  have htb := k.tags b hz
  exact ⟨b, e, hB, by rw [htb]; exact hk _ ht, Nat.lt_of_lt_of_le hz k.size, fun j hj => (k.cell (a := ⟨b, j, none⟩) hz (hp _ ht)).trans (hc j hj)⟩

theorem Full.retag {w : World} {B : Nat} {tag tag' : Nat → Nat} {Kd Kd' : Nat → Prop} {sz : Nat} {v : Value} {g : Nat → Value} (h : Full w B tag Kd sz v g) (hk : ∀ b, b < w.heap.size → Kd (tag b) → Kd' (tag' b)) : Full w B tag' Kd' sz v g := by
  obtain ⟨q, n, cap, hv, hn, hb⟩ := h
  refine ⟨q, n, cap, hv, hn, fun h0 => ?_⟩
  obtain ⟨b, e, hB, ht, hz, hc⟩ := hb h0
  exact ⟨b, e, hB, hk b hz ht, hz, hc⟩

/-- Of a row. -/
theorem Row.full {w : World} {B : Nat} {tag : Nat → Nat} {c : Nat} {e : TypeId} {sz : Nat} {v : Value} {n : Nat} {f g : Nat → Value} {Kd : Nat → Prop} (h : Row w B tag c e sz v n f) (hn : n ≤ 200003) (hk : Kd c) (hf : ∀ j, j < n * sz → f j = g (j % sz)) : Full w B tag Kd sz v g := by
  rcases h with ⟨h1, h2⟩ | ⟨b, cap, cur, hv, hb, ht, hh, hc, hm, hs, hcur⟩
  · exact ⟨none, 0, 0, h1, by omega, fun h => by omega⟩
  · refine ⟨_, n, cap, hv, hn, fun _ => ⟨b, rfl, hb, by rw [ht]; exact hk, (Array.getElem?_eq_some_iff.1 hh).1, fun j hj => ?_⟩⟩
    rw [cell_of_row w b j cur e (0, 0) hh, hcur j hj, hf j hj]

/-- The mark of the q-th list of a kind. -/
def mrk (q : Nat) : Int := -1000 - (q : Int)
def vmark (q : Nat) : Nat → Value := fun i => if i = 0 then .int .i64 (mrk q) else .int .i64 0
def fmark (q : Nat) : Nat → Value := fun i => if i = 0 then .int .i64 (mrk q) else if i = 1 then .int .i64 0 else .slice none 0 0
def imark (q : Nat) : Nat → Value := fun _ => .int .i64 (mrk q)

/-- The four kinds of lists that are held: of values, of frames, of arrays, of numbers: the type of an entry, how many cells an element has, its mark. -/
def hT : Nat → TypeId
  | 0 => 44
  | 1 => 50
  | 2 => 51
  | _ => 66
def hsz : Nat → Nat
  | 0 => 2
  | 1 => 4
  | _ => 1
def hmark (XB : Nat → Nat) : Nat → Nat → Nat → Value
  | 0, q => vmark q
  | 1, q => fmark q
  | 2, q => fun _ => .slice (some ⟨XB q, 0, none⟩) 1 1
  | _, q => imark q

/-- Where the parts of a World lie. -/
structure AdH where
  tag : Nat → Nat
  cv : Value
  pv : Value
  hv : Nat → Value
  HV : Nat → Nat → Value
  XB : Nat → Nat

def wcells (A : AdH) : Array Value := #[A.cv, A.pv, A.hv 0, A.hv 1, A.hv 2, A.hv 3]

/-- Tags that no list that came out may bear. -/
def Wt (d : Nat) : Prop := d = 0 ∨ d = 3 ∨ d = 4 ∨ d = 5 ∨ d = 6 ∨ d = 7 ∨ d = 8

/-- A World; of each kind k n k lists are held. -/
structure HoldAt (w : World) (B wb : Nat) (A : AdH) (Kd : Nat → Prop) (n : Nat → Nat) : Prop where
  blk : w.heap[wb]? = some (.cells (wcells A) 96 (0, 0))
  own : B ≤ wb ∧ A.tag wb = 0
  le : B ≤ w.heap.size
  kd : ∀ d, Kd d → ¬ Wt d
  row : ∀ k, k < 4 → Row w B A.tag (5 + k) (hT k) 1 (A.hv k) (n k) (A.HV k)
  ent : ∀ k, k < 4 → ∀ i, i < n k → Full w B A.tag Kd (hsz k) (A.HV k i) (hmark A.XB k (i / 4))
  ex : ∀ i, i < n 2 → A.XB (i / 4) < w.heap.size ∧ B ≤ A.XB (i / 4) ∧ Kd (A.tag (A.XB (i / 4))) ∧ w.cell? ⟨A.XB (i / 4), 0, none⟩ = some (.int .i64 (mrk (i / 4))) ∧ w.cell? ⟨A.XB (i / 4), 1, none⟩ = some (.int .i64 0)

/-- Nothing of it has turned. -/
theorem HoldAt.keep {w w' : World} {B wb : Nat} {A : AdH} {Kd p : Nat → Prop} {n : Nat → Nat} {tag' : Nat → Nat} (h : HoldAt w B wb A Kd n) (k : Ch B p A.tag tag' w w') (hp : ∀ d, Kd d ∨ Wt d → ¬ p d) : HoldAt w' B wb { A with tag := tag' } Kd n := by
  have hlt := (Array.getElem?_eq_some_iff.1 h.blk).1
  have hw : ∀ d, Wt d → ¬ p d := fun d hd => hp d (Or.inr hd)
  have hk : ∀ d, Kd d → ¬ p d := fun d hd => hp d (Or.inl hd)
  refine ⟨(k.block wb hlt (Or.inr (by rw [h.own.2]; exact hw 0 (Or.inl rfl)))).trans h.blk, ⟨h.own.1, (k.tags wb hlt).trans h.own.2⟩, Nat.le_trans h.le k.size, h.kd, fun q hq => (h.row q hq).keep k (hw _ (by unfold Wt; omega)), fun q hq i hi => (h.ent q hq i hi).keep k hk (fun _ h => h), fun i hi => ?_⟩
  obtain ⟨h1, h2, h3, h4, h5⟩ := h.ex i hi
  have ht := k.tags _ h1
  exact ⟨Nat.lt_of_lt_of_le h1 k.size, h2, by show Kd (tag' _); rw [ht]; exact h3, (k.cell (a := ⟨A.XB (i / 4), 0, none⟩) h1 (hk _ h3)).trans h4, (k.cell (a := ⟨A.XB (i / 4), 1, none⟩) h1 (hk _ h3)).trans h5⟩
theorem HoldAt.below {w w' : World} {B wb : Nat} {A : AdH} {Kd : Nat → Prop} {n : Nat → Nat} (h : HoldAt w B wb A Kd n) (k : Below w.heap.size w w') : HoldAt w' B wb A Kd n := h.keep (Ch.of_below (p := fun _ => False) k) (fun _ _ h => h)
/-- Other tags, and other tags that stand. -/
theorem HoldAt.retag {w : World} {B wb : Nat} {A : AdH} {Kd Kd' : Nat → Prop} {n : Nat → Nat} {tag' : Nat → Nat} (h : HoldAt w B wb A Kd n) (hw : ∀ b, b < w.heap.size → Wt (A.tag b) → tag' b = A.tag b) (hk : ∀ b, b < w.heap.size → Kd (A.tag b) → Kd' (tag' b)) (hd : ∀ d, Kd' d → ¬ Wt d) : HoldAt w B wb { A with tag := tag' } Kd' n := by
  have hlt := (Array.getElem?_eq_some_iff.1 h.blk).1
  have hrow : ∀ {c : Nat} {e : TypeId} {sz : Nat} {v : Value} {n : Nat} {f : Nat → Value}, Wt c → Row w B A.tag c e sz v n f → Row w B tag' c e sz v n f := by
    intro c e sz v n f hc hr
    rcases hr with hr | ⟨b, cap, cur, hv, hb, ht, hh, hr⟩
    · exact Or.inl hr
    · exact Or.inr ⟨b, cap, cur, hv, hb, (hw b (Array.getElem?_eq_some_iff.1 hh).1 (by rw [ht]; exact hc)).trans ht, hh, hr⟩
  refine ⟨h.blk, ⟨h.own.1, (hw wb hlt (by rw [h.own.2]; exact Or.inl rfl)).trans h.own.2⟩, h.le, hd, fun q hq => hrow (by unfold Wt; omega) (h.row q hq), fun q hq i hi => (h.ent q hq i hi).retag hk, fun i hi => ?_⟩
  obtain ⟨h1, h2, h3, h4, h5⟩ := h.ex i hi
  exact ⟨h1, h2, hk _ h1 h3, h4, h5⟩

theorem wcells_set (A : AdH) (k : Nat) (hk : k < 4) (v : Value) : (wcells A).setIfInBounds (2 + k) v = wcells { A with hv := upd A.hv k v } := by
  have : k = 0 ∨ k = 1 ∨ k = 2 ∨ k = 3 := by omega
  rcases this with rfl | rfl | rfl | rfl <;> rfl

/-- One list more is held. -/
theorem HoldAt.add {w V w1 : World} {B wb : Nat} {A : AdH} {Kd : Nat → Prop} {n : Nat → Nat} (h : HoldAt w B wb A Kd n) (k : Nat) (hk : k < 4) (x : Value) (hx : Full w B A.tag Kd (hsz k) x (hmark A.XB k (n k / 4)))
    (hX : k = 2 → A.XB (n 2 / 4) < w.heap.size ∧ B ≤ A.XB (n 2 / 4) ∧ Kd (A.tag (A.XB (n 2 / 4))) ∧ w.cell? ⟨A.XB (n 2 / 4), 0, none⟩ = some (.int .i64 (mrk (n 2 / 4))) ∧ w.cell? ⟨A.XB (n 2 / 4), 1, none⟩ = some (.int .i64 0))
    (hV : Below w.heap.size w V) {g cap : Nat} (hown : w1.ownsRow B (hT k) 1 (.slice (some ⟨g, 0, none⟩) (n k + 1) cap) (n k + 1) ((List.range (n k * 1)).map (A.HV k) ++ [x])) (hgrow : V.grownBy w1 (A.hv k).ownBlock) (hat : (A.hv k).ownBlock = some g ∨ g = V.heap.size) :
    ∃ tag', HoldAt (w1.setCell ⟨wb, 2 + k, none⟩ (.slice (some ⟨g, 0, none⟩) (n k + 1) cap)) B wb { A with tag := tag', hv := upd A.hv k (.slice (some ⟨g, 0, none⟩) (n k + 1) cap), HV := upd A.HV k (upd (A.HV k) (n k) x) } Kd (upd n k (n k + 1)) ∧
      Ch B (fun d => d = 0 ∨ d = 5 + k) A.tag tag' w (w1.setCell ⟨wb, 2 + k, none⟩ (.slice (some ⟨g, 0, none⟩) (n k + 1) cap)) := by
  have c1 : Ch B (fun _ => False) A.tag A.tag w V := Ch.of_below hV
  have hlt := (Array.getElem?_eq_some_iff.1 h.blk).1
  have hltV : wb < V.heap.size := Nat.lt_of_lt_of_le hlt hV.size
  obtain ⟨hr, c2⟩ := ((h.row k hk).keep c1 (fun h => h)).grewN (k := 1) hown hgrow hat rfl
  generalize (fun b => if b < V.heap.size then A.tag b else 5 + k) = t2 at hr c2
  have ht0 : t2 wb = 0 := (c2.tags wb hltV).trans h.own.2
  have hb1 : w1.heap[wb]? = some (.cells (wcells A) 96 (0, 0)) := (c2.block wb hltV (Or.inr (by rw [h.own.2]; omega))).trans ((hV.block wb hlt).trans h.blk)
  have c3 : Ch B (fun d => d = 0) t2 t2 w1 (w1.setCell ⟨wb, 2 + k, none⟩ (.slice (some ⟨g, 0, none⟩) (n k + 1) cap)) := Ch.set w1 _ _ _ h.own.1 ht0
  have call : Ch B (fun d => d = 0 ∨ d = 5 + k) A.tag t2 w (w1.setCell ⟨wb, 2 + k, none⟩ (.slice (some ⟨g, 0, none⟩) (n k + 1) cap)) := ((c1.mono (fun _ h => h.elim)).trans (c2.mono (fun d hd => Or.inr hd))).trans (c3.mono (fun d hd => Or.inl hd))
  have hkd : ∀ d, Kd d → ¬ (d = 0 ∨ d = 5 + k) := fun d hd hp => h.kd d hd (by unfold Wt; omega)
  refine ⟨t2, ⟨?_, ⟨h.own.1, ht0⟩, Nat.le_trans h.le call.size, h.kd, fun q hq => ?_, fun q hq i hi => ?_, fun i hi => ?_⟩, call⟩
  · rw [block_set hb1 _, wcells_set A k hk]
    rfl
  · by_cases e : q = k
    · subst e
      show Row _ B t2 (5 + q) (hT q) 1 (upd A.hv q _ q) (upd n q (n q + 1) q) (upd A.HV q _ q)
      rw [upd_same, upd_same, upd_same]
      refine (hr.keep c3 (by omega)).congr (fun i hi => ?_)
      by_cases e : i = n q
      · subst e
        rw [if_neg (by omega), upd_same]
        simp
      · rw [if_pos (by omega), upd_other _ _ _ _ e]
    · show Row _ B t2 (5 + q) (hT q) 1 (upd A.hv k _ q) (upd n k (n k + 1) q) (upd A.HV k _ q)
      rw [upd_other _ _ _ _ e, upd_other _ _ _ _ e, upd_other _ _ _ _ e]
      exact (h.row q hq).keep call (by omega)
  · by_cases e : q = k
    · subst e
      have hi' : i < n q + 1 := by have : i < upd n q (n q + 1) q := hi; rw [upd_same] at this; exact this
      show Full _ B t2 Kd (hsz q) (upd A.HV q (upd (A.HV q) (n q) x) q i) _
      rw [upd_same]
      by_cases e : i = n q
      · subst e
        rw [upd_same]
        exact hx.keep call hkd (fun _ h => h)
      · rw [upd_other _ _ _ _ e]
        exact (h.ent q hq i (by omega)).keep call hkd (fun _ h => h)
    · have hi' : i < n q := by have : i < upd n k (n k + 1) q := hi; rw [upd_other _ _ _ _ e] at this; exact this
      show Full _ B t2 Kd (hsz q) (upd A.HV k _ q i) _
      rw [upd_other _ _ _ _ e]
      exact (h.ent q hq i hi').keep call hkd (fun _ h => h)
  · have hcase : (A.XB (i / 4) < w.heap.size ∧ B ≤ A.XB (i / 4) ∧ Kd (A.tag (A.XB (i / 4))) ∧ w.cell? ⟨A.XB (i / 4), 0, none⟩ = some (.int .i64 (mrk (i / 4))) ∧ w.cell? ⟨A.XB (i / 4), 1, none⟩ = some (.int .i64 0)) := by
      by_cases e : k = 2
      · subst e
        have hi' : i < n 2 + 1 := by have : i < upd n 2 (n 2 + 1) 2 := hi; rw [upd_same] at this; exact this
        by_cases e : i = n 2
        · rw [e]; exact hX rfl
        · exact h.ex i (by omega)
      · have hi' : i < n 2 := by have : i < upd n k (n k + 1) 2 := hi; rw [upd_other _ _ _ _ (fun h => e h.symm)] at this; exact this
        exact h.ex i hi'
    obtain ⟨h1, h2, h3, h4, h5⟩ := hcase
    have ht := call.tags _ h1
    exact ⟨Nat.lt_of_lt_of_le h1 call.size, h2, by show Kd (t2 _); rw [ht]; exact h3, (call.cell (a := ⟨A.XB (i / 4), 0, none⟩) h1 (hkd _ h3)).trans h4, (call.cell (a := ⟨A.XB (i / 4), 1, none⟩) h1 (hkd _ h3)).trans h5⟩

/-- Marks stay where marks are appended. -/
theorem Full.grown {w w' : World} {B : Nat} {tag tag' : Nat → Nat} {Kd : Nat → Prop} {sz n k : Nat} {c : Nat} {v : Value} {g : Nat → Value} {news : List Value} (h : Full w B tag Kd sz v g) (hz : w.heap.size ≤ w'.heap.size) (ht : ∀ b, b < w.heap.size → tag' b = tag b)
    (hst : ∀ b j u, b < w.heap.size → w.cell? ⟨b, j, none⟩ = some u → w'.cell? ⟨b, j, none⟩ = some u ∨ (tag b = c ∧ n * sz ≤ j ∧ j - n * sz < k * sz ∧ w'.cell? ⟨b, j, none⟩ = news[j - n * sz]?)) (hnews : ∀ r, r < k * sz → news[r]? = some (g (r % sz))) (_hsz : 0 < sz) : Full w' B tag' Kd sz v g := by
  obtain ⟨q, m, cap, hv, hn, hb⟩ := h
  refine ⟨q, m, cap, hv, hn, fun h0 => ?_⟩
  obtain ⟨b, e, hB, htb, hzb, hc⟩ := hb h0
  refine ⟨b, e, hB, by rw [ht b hzb]; exact htb, by omega, fun j hj => ?_⟩
  rcases hst b j _ hzb (hc j hj) with h1 | ⟨_, h2, h3, h4⟩
  · exact h1
  · rw [h4, hnews _ h3]
    have : (j - n * sz) % sz = j % sz := by
      rw [← Nat.add_mul_mod_self_right (j - n * sz) n sz]
      congr 1
      omega
    rw [this]
end Go.Proofs.YtkafkipjedpohaaGreatDoor
