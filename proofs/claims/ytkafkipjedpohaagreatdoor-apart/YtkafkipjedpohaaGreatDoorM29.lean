import Derived.Test.YtkafkipjedpohaaGreatDoorM27
import Derived.Test.YtkafkipjedpohaaGreatDoorPureA

/-
  The document's fourth example, run.
-/
namespace Go.Proofs.YtkafkipjedpohaaGreatDoor
open Go.RowKit

/-- The document's fourth example. -/
def fk0 : PF := ⟨0, 0, 4, fun i => if i = 0 then 12 else if i = 1 then 0 else if i = 2 then 13 else 14, fun i => if i = 0 then 1 else if i = 1 then 7 else if i = 2 then 1 else 0⟩
def fk1 : PF := ⟨1, 1, 4, fun i => if i = 0 then 2 else if i = 1 then 2 else if i = 2 then 6 else 14, fun _ => 0⟩
def FK : Nat → PF := fun k => if k = 0 then fk0 else fk1

theorem nth_next {F : Nat → PF} {s S : Mc} {j : Nat} (h : nthP F s j = S) (h0 : S.fin = 0) : nthP F s (j + 1) = stepP F S := by
  show (if _ then _ else _) = _
  rw [h, if_pos h0]

def mcAt (fr : List Fr) (g : V) (n : Nat) (hi : List Bool) (fin : Int) : Mc := { fr := fr, arr := [], out := [], gives := g, steps := n, fin := fin, high := hi, made := fun _ => false, cH := 0, cU := 0, cD := 0 }

theorem known8 : nthP FK (startP FK) 8 = mcAt [] (vnum 49) 8 [] 1 := by
  have h0 : nthP FK (startP FK) 0 = mcAt [⟨0, 0, [], []⟩] vnil 0 [false] 0 := rfl
  have h1 := (nth_next h0 rfl).trans (show stepP FK _ = mcAt [⟨0, 1, [], [⟨3, 1⟩]⟩] vnil 1 [false] 0 from rfl)
  have h2 := (nth_next h1 rfl).trans (show stepP FK _ = mcAt [⟨0, 2, [], [vnum 7, ⟨3, 1⟩]⟩] vnil 2 [false] 0 from rfl)
  have h3 := (nth_next h2 rfl).trans (show stepP FK _ = mcAt [⟨1, 0, [vnum 7], []⟩, ⟨0, 3, [], []⟩] vnil 3 [false, false] 0 from rfl)
  have h4 := (nth_next h3 rfl).trans (show stepP FK _ = mcAt [⟨1, 1, [vnum 7], [vnum 7]⟩, ⟨0, 3, [], []⟩] vnil 4 [false, false] 0 from rfl)
  have h5 := (nth_next h4 rfl).trans (show stepP FK _ = mcAt [⟨1, 2, [vnum 7], [vnum 7, vnum 7]⟩, ⟨0, 3, [], []⟩] vnil 5 [false, false] 0 from rfl)
  have h6 := (nth_next h5 rfl).trans (show stepP FK _ = mcAt [⟨1, 3, [vnum 7], [vnum 49]⟩, ⟨0, 3, [], []⟩] vnil 6 [false, false] 0 from rfl)
  have h7 := (nth_next h6 rfl).trans (show stepP FK _ = mcAt [⟨0, 3, [], [vnum 49]⟩] vnil 7 [false] 0 from rfl)
  exact (nth_next h7 rfl).trans rfl

theorem known100 : atP FK 100 = mcAt [] (vnum 49) 8 [] 1 := by
  have e : fuelP 100 = 8 + 92 := by decide
  unfold atP
  rw [e, nth_stay (by rw [known8]; decide) 92]
  exact known8

theorem known_fine2 : ∃ K H, Fine 2 FK K H := by
  obtain ⟨K0, H0, h0⟩ := fun_fine (m := 2) (k := 0) (f := fk0) (by decide +kernel)
  obtain ⟨K1, H1, h1⟩ := fun_fine (m := 2) (k := 1) (f := fk1) (by decide +kernel)
  refine ⟨fun k => if k = 0 then K0 else K1, fun k => if k = 0 then H0 else H1, ⟨by decide, fun k hk => ?_⟩⟩
  have : k = 0 ∨ k = 1 := by omega
  rcases this with rfl | rfl
  · exact h0
  · exact h1

theorem knownRun (w : World) (cb pb po pc : Nat) (CA : Nat → Option Addr) (CC : Nat → Nat) (hc : w.cell? ⟨cb, 0, none⟩ = some (.slice (some ⟨pb, po, none⟩) 2 pc)) (_hcz : cb < w.heap.size) (hP : ProgAt w pb po 2 FK CA CC) (hcc : ∀ k, k < 2 → (FK k).cn ≤ CC k) :
    Calls Tryz.prog 19 #[.pointer (some ⟨cb, 0, none⟩), .int .i64 100] w fun e w' => ∃ p n c, e = .returned (.agg #[.int .i64 1, .int .i64 8, .int .i64 1, .int .i64 49, .slice p n c]) ∧ Below w.heap.size w w' := by
  obtain ⟨K, H, hF⟩ := known_fine2
  refine (codeRun w cb pb po pc 2 FK K H CA CC 100 hc hP hcc hF (by rw [known100]; decide)).mono ?_
  rintro e w' ⟨v, rfl, hb, ho⟩
  obtain ⟨p, c, hv, _⟩ := Row.any ho
  refine ⟨p, 0, c, ?_, hb⟩
  rw [hv, known100]
  rfl
end Go.Proofs.YtkafkipjedpohaaGreatDoor

/-
  Programs of which it is known that they may be: stretches of instructions through which the stack is as high behind as ahead; a flow over heights that are known. No Go here.
-/
namespace Go.Proofs.YtkafkipjedpohaaGreatDoor

/-- What an instruction leaves of a height. -/
def hAfter (o a h : Int) : Int := h - popsP o a + pushesP o

/-- Instructions a to b (b left out), of a program of three functions of six locals: come to with the height h, left at b with the height k. -/
structure Seg (op ar : Nat → Int) (a b : Nat) (h k : Int) (ht : Nat → Int) : Prop where
  le : a ≤ b
  fst : ht a = h
  lst : ht b = k
  ok : ∀ i, a ≤ i → i < b → legalP (op i) (ar i) 6 (b + 1) 3 = true ∧ op i ≠ 14 ∧ popsP (op i) (ar i) ≤ ht i ∧ hAfter (op i) (ar i) (ht i) ≤ 16 ∧
    ∀ t, t ∈ afterP (op i) (ar i) i → (a : Int) ≤ t ∧ t ≤ b ∧ ht t.toNat = hAfter (op i) (ar i) (ht i)
  thru : ∀ K : Nat → Bool, (∀ i, a ≤ i → i < b → K i = true → ∀ t, t ∈ afterP (op i) (ar i) i → K t.toNat = true) → K a = true → K b = true

theorem legalP_mono {o a l n n' f : Int} (h : legalP o a l n f = true) (hn : n ≤ n') : legalP o a l n' f = true := by
  unfold legalP at h ⊢
  split
  · rename_i h1; rw [if_pos h1] at h; exact h
  · rename_i h1
    rw [if_neg h1] at h
    split
    · rename_i h2; rw [if_pos h2] at h; simp only [decide_eq_true_eq] at h ⊢; omega
    · rename_i h2; rw [if_neg h2] at h; exact h

theorem Seg.nil (op ar : Nat → Int) (a : Nat) (h : Int) : Seg op ar a a h h (fun _ => h) :=
  ⟨Nat.le_refl _, rfl, rfl, fun i h1 h2 => by omega, fun _ _ h => h⟩

theorem Seg.cat {op ar : Nat → Int} {a b c : Nat} {h k l : Int} {ht ht' : Nat → Int} (x : Seg op ar a b h k ht) (y : Seg op ar b c k l ht') :
    Seg op ar a c h l (fun i => if i < b then ht i else ht' i) := by
  have hle := x.le
  have hle' := y.le
  have hbh : ∀ i, i ≤ b → (if i < b then ht i else ht' i) = ht i := fun i hi => by
    by_cases e : i < b
    · rw [if_pos e]
    · rw [if_neg e, show i = b by omega, y.fst, x.lst]
  have hbh' : ∀ i, b ≤ i → (if i < b then ht i else ht' i) = ht' i := fun i hi => by rw [if_neg (by omega)]
  refine ⟨by omega, ?_, ?_, fun i h1 h2 => ?_, fun K hK ha => ?_⟩
  · show (if a < b then ht a else ht' a) = h
    rw [hbh a x.le, x.fst]
  · show (if c < b then ht c else ht' c) = l
    rw [hbh' c y.le, y.lst]
  · by_cases e : i < b
    · obtain ⟨g1, g2, g3, g4, g5⟩ := x.ok i h1 e
      refine ⟨legalP_mono g1 (by omega), g2, ?_, ?_, fun t ht' => ?_⟩
      · show _ ≤ (if i < b then ht i else _); rw [if_pos e]; exact g3
      · show hAfter _ _ (if i < b then ht i else _) ≤ 16; rw [if_pos e]; exact g4
      · obtain ⟨k1, k2, k3⟩ := g5 t ht'
        refine ⟨k1, by omega, ?_⟩
        show (if t.toNat < b then ht t.toNat else _) = hAfter _ _ (if i < b then ht i else _)
        rw [if_pos e, hbh t.toNat (by omega), k3]
    · obtain ⟨g1, g2, g3, g4, g5⟩ := y.ok i (by omega) h2
      refine ⟨g1, g2, ?_, ?_, fun t ht' => ?_⟩
      · show _ ≤ (if i < b then ht i else _); rw [if_neg e]; exact g3
      · show hAfter _ _ (if i < b then ht i else _) ≤ 16; rw [if_neg e]; exact g4
      · obtain ⟨k1, k2, k3⟩ := g5 t ht'
        refine ⟨by omega, by omega, ?_⟩
        show (if t.toNat < b then ht t.toNat else _) = hAfter _ _ (if i < b then ht i else _)
        rw [if_neg e, hbh' t.toNat (by omega), k3]
  · exact y.thru K (fun i h1 h2 => hK i (by omega) h2) (x.thru K (fun i h1 h2 => hK i h1 (by omega)) ha)

theorem Seg.congr {op ar op' ar' : Nat → Int} {a b : Nat} {h k : Int} {ht : Nat → Int} (x : Seg op ar a b h k ht) (e : ∀ i, a ≤ i → i < b → op' i = op i ∧ ar' i = ar i) : Seg op' ar' a b h k ht := by
  refine ⟨x.le, x.fst, x.lst, fun i h1 h2 => ?_, fun K hK ha => x.thru K (fun i h1 h2 => ?_) ha⟩
  · obtain ⟨e1, e2⟩ := e i h1 h2
    rw [e1, e2]
    exact x.ok i h1 h2
  · obtain ⟨e1, e2⟩ := e i h1 h2
    have := hK i h1 h2
    rw [e1, e2] at this
    exact this

/-- One instruction that goes on to the one behind. -/
theorem Seg.one (op ar : Nat → Int) (a : Nat) (h : Int) (hj : op a ≠ 10 ∧ op a ≠ 11 ∧ op a ≠ 14) (hl : legalP (op a) (ar a) 6 0 3 = true) (hp : popsP (op a) (ar a) ≤ h) (hq : hAfter (op a) (ar a) h ≤ 16) :
    Seg op ar a (a + 1) h (hAfter (op a) (ar a) h) (fun i => if i = a then h else hAfter (op a) (ar a) h) := by
  have haf : afterP (op a) (ar a) a = [(a : Int) + 1] := by unfold afterP; rw [if_neg hj.2.2, if_neg hj.1, if_neg hj.2.1]
  refine ⟨by omega, by simp, by simp, fun i h1 h2 => ?_, fun K hK ha => ?_⟩
  · have : i = a := by omega
    subst this
    refine ⟨legalP_mono hl (by omega), hj.2.2, by simpa using hp, by simpa using hq, fun t ht => ?_⟩
    rw [haf] at ht
    have : t = (i : Int) + 1 := by simpa using ht
    subst this
    refine ⟨by omega, by omega, ?_⟩
    rw [if_neg (by omega), if_pos rfl]
  · have := hK a (by omega) (by omega) ha ((a : Int) + 1) (by rw [haf]; simp)
    rw [show ((a : Int) + 1).toNat = a + 1 by omega] at this
    exact this

/-- Instructions one behind the other, none of which jumps: from the height h to the height 0. -/
def Str : List (Int × Int) → Int → Prop
  | [], h => h = 0
  | x :: r, h => (x.1 ≠ 10 ∧ x.1 ≠ 11 ∧ x.1 ≠ 14) ∧ legalP x.1 x.2 6 0 3 = true ∧ popsP x.1 x.2 ≤ h ∧ hAfter x.1 x.2 h ≤ 16 ∧ Str r (hAfter x.1 x.2 h)

/-- The list x lies from a on. -/
def Lies (op ar : Nat → Int) (a : Nat) (x : List (Int × Int)) : Prop := ∀ j, j < x.length → op (a + j) = (x.getD j (0, 0)).1 ∧ ar (a + j) = (x.getD j (0, 0)).2

theorem Lies.tail {op ar : Nat → Int} {a : Nat} {y : Int × Int} {x : List (Int × Int)} (h : Lies op ar a (y :: x)) : Lies op ar (a + 1) x := fun j hj => by
  have := h (j + 1) (by simpa using hj)
  rw [show a + (j + 1) = a + 1 + j by omega] at this
  simpa using this
theorem Lies.left {op ar : Nat → Int} {a : Nat} {x y : List (Int × Int)} (h : Lies op ar a (x ++ y)) : Lies op ar a x := fun j hj => by
  have := h j (by simp; omega)
  rw [List.getD_eq_getElem?_getD, List.getElem?_append_left hj] at this
  rw [List.getD_eq_getElem?_getD]
  exact this
theorem Lies.right {op ar : Nat → Int} {a : Nat} {x y : List (Int × Int)} (h : Lies op ar a (x ++ y)) : Lies op ar (a + x.length) y := fun j hj => by
  have := h (x.length + j) (by simp; omega)
  rw [List.getD_eq_getElem?_getD, List.getElem?_append_right (by omega), show x.length + j - x.length = j by omega, show a + (x.length + j) = a + x.length + j by omega] at this
  rw [List.getD_eq_getElem?_getD]
  exact this

theorem Str.seg {op ar : Nat → Int} : ∀ {x : List (Int × Int)} {a : Nat} {h : Int}, Str x h → Lies op ar a x → ∃ ht, Seg op ar a (a + x.length) h 0 ht := by
  intro x
  induction x with
  | nil =>
    intro a h hs _
    have hs : h = 0 := hs
    subst hs
    exact ⟨_, Seg.nil op ar a 0⟩
  | cons y r ih =>
    intro a h hs hl
    obtain ⟨s1, s2, s3, s4, s5⟩ := hs
    obtain ⟨e1, e2⟩ := hl 0 (by simp)
    have e1 : op a = y.1 := by simpa using e1
    have e2 : ar a = y.2 := by simpa using e2
    obtain ⟨ht, hseg⟩ := ih s5 hl.tail
    have h1 := Seg.one op ar a h (by rw [e1]; exact s1) (by rw [e1, e2]; exact s2) (by rw [e1, e2]; exact s3) (by rw [e1, e2]; exact s4)
    rw [e1, e2] at h1
    have := h1.cat hseg
    rw [show a + 1 + r.length = a + (y :: r).length by simp; omega] at this
    exact ⟨_, this⟩

/-- A flow over heights that are known: all goes well but at b, if that is come to. -/
theorem flow_or {n : Nat} {op ar : Nat → Int} {ht : Nat → Int} {b : Nat} {e : Int} (hok : ∀ i, i < n → i ≠ b → popsP (op i) (ar i) ≤ ht i ∧ hAfter (op i) (ar i) (ht i) ≤ 16 ∧ ∀ t, t ∈ afterP (op i) (ar i) i → 0 ≤ t ∧ t < n ∧ ht t.toNat = hAfter (op i) (ar i) (ht i))
    (hb : b < n → ∀ s : St, s.H b = ht b → (lookP n op ar s b).1 = e) (he : e ≠ 0) :
    ∀ (f : Nat) (s : St), (∀ j, s.K j = true → s.H j = ht j) → flowP n op ar f s = (0, 0) ∨ (b < n ∧ flowP n op ar f s = (e, (b : Int))) := by
  intro f
  induction f with
  | zero => intro s _; exact Or.inl rfl
  | succ f ih =>
    intro s hs
    unfold flowP
    rcases leastP_spec (waits s) n with ⟨h1, h2, h3⟩ | ⟨h1, h2⟩
    · rw [if_pos h1]
      generalize leastP (waits s) n = i at *
      have hw : s.K i = true ∧ s.L i = false := by simpa [waits] using h2
      by_cases hib : i = b
      · subst hib
        have := hb h1 s (hs i hw.1)
        rw [this, if_neg he]
        exact Or.inr ⟨h1, rfl⟩
      · obtain ⟨g1, g2, g3⟩ := hok i h1 hib
        have hHi := hs i hw.1
        have hreach : ∀ (l : List Int) (s' : St), (∀ t, t ∈ l → 0 ≤ t ∧ t < n ∧ ht t.toNat = hAfter (op i) (ar i) (ht i)) → (∀ j, s'.K j = true → s'.H j = ht j) →
            (reachAll n (hAfter (op i) (ar i) (ht i)) l s').1 = 0 ∧ ∀ j, (reachAll n (hAfter (op i) (ar i) (ht i)) l s').2.K j = true → (reachAll n (hAfter (op i) (ar i) (ht i)) l s').2.H j = ht j := by
          intro l
          induction l with
          | nil => intro s' _ hs'; exact ⟨rfl, hs'⟩
          | cons t r ihl =>
            intro s' hl hs'
            obtain ⟨k1, k2, k3⟩ := hl t (by simp)
            have hnot : ¬ (s'.K t.toNat = true ∧ s'.H t.toNat ≠ hAfter (op i) (ar i) (ht i)) := fun h => h.2 (by rw [hs' _ h.1, k3])
            have hr : reachP n s' t (hAfter (op i) (ar i) (ht i)) = (0, { K := upd s'.K t.toNat true, L := s'.L, H := upd s'.H t.toNat (hAfter (op i) (ar i) (ht i)) }) := by
              unfold reachP
              rw [if_neg (by omega), if_neg hnot]
            unfold reachAll
            rw [hr, if_pos rfl]
            refine ihl _ (fun u hu => hl u (by simp [hu])) (fun j hj => ?_)
            by_cases ej : j = t.toNat
            · subst ej; show upd _ _ _ _ = _; rw [upd_same, k3]
            · show upd _ _ _ _ = _
              rw [upd_other _ _ _ _ ej]
              have hj : upd s'.K t.toNat true j = true := hj
              rw [upd_other _ _ _ _ ej] at hj
              exact hs' j hj
        have hlook : lookP n op ar s i = reachAll n (hAfter (op i) (ar i) (ht i)) (afterP (op i) (ar i) i) { s with L := upd s.L i true } := by
          unfold lookP
          unfold hAfter at g2
          rw [hHi, if_neg (by omega), if_neg (by omega)]
          rfl
        obtain ⟨r1, r2⟩ := hreach (afterP (op i) (ar i) i) { s with L := upd s.L i true } g3 hs
        rw [hlook, if_pos r1]
        exact ih _ r2
    · rw [if_neg (by omega)]
      exact Or.inl rfl

theorem s0_heights {ht : Nat → Int} (h0 : ht 0 = 0) : ∀ j, s0.K j = true → s0.H j = ht j := fun j hj => by
  by_cases e : j = 0
  · subst e; rw [h0]; rfl
  · have : upd (fun _ => false) 0 true j = true := hj
    rw [upd_other _ _ _ _ e] at this
    simp at this

/-- A stretch from 0 on with Load 0, Return behind it flows well. -/
theorem Seg.flow {op ar : Nat → Int} {n : Nat} {ht : Nat → Int} (x : Seg op ar 0 n 0 0 ht) (h1 : op n = 2 ∧ ar n = 0) (h2 : op (n + 1) = 14) (f : Nat) : flowP (n + 2) op ar f s0 = (0, 0) := by
  have hf := flow_or (n := n + 2) (op := op) (ar := ar) (ht := fun i => if i ≤ n then ht i else 1) (b := n + 2) (e := 1) (fun i hi hne => ?_) (fun h => by omega) (by omega) f s0 (s0_heights (by rw [if_pos (by omega)]; exact x.fst))
  · rcases hf with hf | ⟨hf, _⟩
    · exact hf
    · omega
  · by_cases e : i < n
    · obtain ⟨g1, g2, g3, g4, g5⟩ := x.ok i (by omega) e
      refine ⟨by rw [if_pos (by omega)]; exact g3, by rw [if_pos (by omega)]; exact g4, fun t ht' => ?_⟩
      obtain ⟨k1, k2, k3⟩ := g5 t ht'
      refine ⟨by omega, by omega, ?_⟩
      rw [if_pos (by omega), if_pos (by omega), k3]
    · by_cases e2 : i = n
      · subst e2
        have hl := x.lst
        rw [h1.1, h1.2]
        refine ⟨by rw [if_pos (by omega), hl]; decide, by rw [if_pos (by omega), hl]; decide, fun t ht' => ?_⟩
        have : t = (i : Int) + 1 := by simpa [afterP] using ht'
        subst this
        refine ⟨by omega, by omega, ?_⟩
        rw [if_neg (by omega), if_pos (by omega), hl]
        decide
      · have : i = n + 1 := by omega
        subst this
        rw [h2]
        refine ⟨by rw [if_neg (by omega)]; simp [popsP, popsT], by rw [if_neg (by omega)]; simp [hAfter, popsP, popsT, pushesP], fun t ht' => ?_⟩
        simp [afterP] at ht'

end Go.Proofs.YtkafkipjedpohaaGreatDoor
/-
  The programs of package upshiftkeep: lines, loops, functions. No Go here.
-/
namespace Go.Proofs.YtkafkipjedpohaaGreatDoor

/-- Which of n things the raw number c speaks of. -/
def pickP (c n : Int) : Int := (if c < 0 then -(c + 1) else c) % n
theorem pickP_bd (c : Int) {n : Int} (hn : 0 < n) : 0 ≤ pickP c n ∧ pickP c n < n := ⟨Int.emod_nonneg _ (by omega), Int.emod_lt_of_pos _ hn⟩

/-- A line, by raw numbers. -/
structure Ln where
  i : Int
  kind : Int
  p : Int
  q : Int
  r : Int
  loop : Int
  num : Int

/-- The loads of a call's arguments. -/
def loadsP (p : Int) : Nat → List (Int × Int)
  | 0 => []
  | n + 1 => loadsP p n ++ [(2, pickP (w64 (p + n)) 5)]

/-- The instructions of a line. -/
def lineP (l : Ln) : List (Int × Int) :=
  let p := pickP l.p 5
  let q := pickP l.q 5
  let r := pickP l.r 5
  let two := 4 + pickP l.q 6
  let k := pickP l.kind 10
  if k = 0 then [(0, l.num), (3, p)]
  else if k = 1 then [(2, p), (2, q), (two, 0), (3, r)]
  else if k = 2 then [(2, p), (0, l.num), (two, 0), (3, r)]
  else if k = 3 then [(2, p), (19, 0)]
  else if k = 4 then (12, pickP l.r 3) :: loadsP l.p (pickP l.r 3).toNat ++ [(13, pickP l.r 3), (3, q)]
  else if k = 5 then [(0, pickP l.r 9), (15, 0), (3, p)]
  else if k = 6 then [(2, p), (2, q), (16, 0), (3, r)]
  else if k = 7 then [(2, p), (2, q), (2, r), (17, 0)]
  else if k = 8 then [(2, p), (21, 0), (20, 0), (18, 0), (3, q)]
  else [(12, pickP l.r 3), (3, p), (1, 0), (20, 0)]

/-- A line's instructions, done so many times over. -/
def loopedP (x : List (Int × Int)) (off : Nat) (times : Int) : List (Int × Int) :=
  [(0, times), (3, 5), (2, 5), (11, ((off + 9 + x.length : Nat) : Int))] ++ x ++ [(2, 5), (0, 1), (5, 0), (3, 5), (10, ((off + 2 : Nat) : Int))]

/-- One line more. -/
def addP (f : Nat) (c : List (Int × Int)) (l : Ln) : List (Int × Int) :=
  if pickP l.i 3 ≠ f then c
  else
    let x := if 3 < pickP l.loop 8 then loopedP (lineP l) c.length (pickP l.loop 8 - 3) else lineP l
    if c.length + x.length ≤ 62 then c ++ x else c

/-- The lines of function f, then its local 0 is returned. -/
def bodyP (f : Nat) (ls : List Ln) : List (Int × Int) := (ls.take 200).foldl (addP f) []
def codeP (f : Nat) (ls : List Ln) : List (Int × Int) := bodyP f ls ++ [(2, 0), (14, 0)]

/-- A list as a function of the place. -/
def opL (c : List (Int × Int)) : Nat → Int := fun i => (c.getD i (0, 0)).1
def arL (c : List (Int × Int)) : Nat → Int := fun i => (c.getD i (0, 0)).2
def pfL (args : Int) (c : List (Int × Int)) : PF := ⟨args, 6, c.length, opL c, arL c⟩

theorem lies_self (c : List (Int × Int)) : Lies (opL c) (arL c) 0 c := fun j _ => by rw [Nat.zero_add]; exact ⟨rfl, rfl⟩

theorem line_str (l : Ln) : Str (lineP l) 0 := by
  have hp := pickP_bd l.p (n := 5) (by omega)
  have hq := pickP_bd l.q (n := 5) (by omega)
  have hr := pickP_bd l.r (n := 5) (by omega)
  have h3 := pickP_bd l.r (n := 3) (by omega)
  have h6 := pickP_bd l.q (n := 6) (by omega)
  unfold lineP
  generalize pickP l.p 5 = p at *
  generalize pickP l.q 5 = q at *
  generalize pickP l.r 5 = r at *
  generalize pickP l.q 6 = tw at *
  generalize pickP l.r 3 = g at *
  generalize pickP l.kind 10 = k at *
  have h2 : ∀ a : Int, 0 ≤ a → a < 5 → legalP 2 a 6 0 3 = true := fun a h1 h2 => by simp [legalP]; omega
  have h3' : ∀ a : Int, 0 ≤ a → a < 5 → legalP 3 a 6 0 3 = true := fun a h1 h2 => by simp [legalP]; omega
  have hop : 4 + tw = 4 ∨ 4 + tw = 5 ∨ 4 + tw = 6 ∨ 4 + tw = 7 ∨ 4 + tw = 8 ∨ 4 + tw = 9 := by omega
  dsimp only
  split
  · simp [Str, hAfter, popsP, popsT, pushesP, h3' p hp.1 hp.2]; simp [legalP]
  split
  · rcases hop with e | e | e | e | e | e <;> rw [e] <;> simp [Str, hAfter, popsP, popsT, pushesP, h2 p hp.1 hp.2, h2 q hq.1 hq.2, h3' r hr.1 hr.2] <;> simp [legalP]
  split
  · rcases hop with e | e | e | e | e | e <;> rw [e] <;> simp [Str, hAfter, popsP, popsT, pushesP, h2 p hp.1 hp.2, h3' r hr.1 hr.2] <;> simp [legalP]
  split
  · simp [Str, hAfter, popsP, popsT, pushesP, h2 p hp.1 hp.2]; simp [legalP]
  split
  · have hg : g = 0 ∨ g = 1 ∨ g = 2 := by omega
    have ha := pickP_bd (w64 l.p) (n := 5) (by omega)
    have hb := pickP_bd (w64 (l.p + 1)) (n := 5) (by omega)
    rcases hg with rfl | rfl | rfl
    · simp [loadsP, Str, hAfter, popsP, popsT, pushesP, h3' q hq.1 hq.2]; simp [legalP]
    · simp [loadsP, Str, hAfter, popsP, popsT, pushesP, h3' q hq.1 hq.2, h2 _ ha.1 ha.2]; simp [legalP]
    · simp [loadsP, Str, hAfter, popsP, popsT, pushesP, h3' q hq.1 hq.2, h2 _ ha.1 ha.2, h2 _ hb.1 hb.2]; simp [legalP]
  split
  · simp [Str, hAfter, popsP, popsT, pushesP, h3' p hp.1 hp.2]; simp [legalP]
  split
  · simp [Str, hAfter, popsP, popsT, pushesP, h2 p hp.1 hp.2, h2 q hq.1 hq.2, h3' r hr.1 hr.2]; simp [legalP]
  split
  · simp [Str, hAfter, popsP, popsT, pushesP, h2 p hp.1 hp.2, h2 q hq.1 hq.2, h2 r hr.1 hr.2]; simp [legalP]
  split
  · simp [Str, hAfter, popsP, popsT, pushesP, h2 p hp.1 hp.2, h3' q hq.1 hq.2]; simp [legalP]
  · simp [Str, hAfter, popsP, popsT, pushesP, h3' p hp.1 hp.2]; simp [legalP]; omega

theorem lies_in {op ar : Nat → Int} {a : Nat} {x : List (Int × Int)} (h : Lies op ar a x) (j : Nat) (v : Int × Int) (hv : x[j]? = some v) : op (a + j) = v.1 ∧ ar (a + j) = v.2 := by
  have hj : j < x.length := (List.getElem?_eq_some_iff.1 hv).1
  have := h j hj
  rw [List.getD_eq_getElem?_getD, hv] at this
  exact this

theorem looped_seg {op ar : Nat → Int} {x : List (Int × Int)} {off : Nat} {times : Int} (hx : Str x 0) (hl : Lies op ar off (loopedP x off times)) : ∃ ht, Seg op ar off (off + (loopedP x off times).length) 0 0 ht := by
  have hlen : (loopedP x off times).length = x.length + 9 := by simp [loopedP]
  have hl' := hl
  unfold loopedP at hl'
  rw [List.append_assoc] at hl'
  have hmid := hl'.right.left
  simp only [List.length_cons, List.length_nil, Nat.zero_add, Nat.reduceAdd] at hmid
  obtain ⟨hi, hseg⟩ := hx.seg hmid
  have hpre := hl'.left
  have hpost := hl'.right.right
  simp only [List.length_cons, List.length_nil, Nat.zero_add, Nat.reduceAdd] at hpost
  obtain ⟨o0, a0⟩ := lies_in hpre 0 _ rfl
  obtain ⟨o1, a1⟩ := lies_in hpre 1 _ rfl
  obtain ⟨o2, a2⟩ := lies_in hpre 2 _ rfl
  obtain ⟨o3, a3⟩ := lies_in hpre 3 _ rfl
  obtain ⟨p0, b0⟩ := lies_in hpost 0 _ rfl
  obtain ⟨p1, b1⟩ := lies_in hpost 1 _ rfl
  obtain ⟨p2, b2⟩ := lies_in hpost 2 _ rfl
  obtain ⟨p3, b3⟩ := lies_in hpost 3 _ rfl
  obtain ⟨p4, b4⟩ := lies_in hpost 4 _ rfl
  rw [hlen]
  generalize x.length = n at *
  clear hl hl' hmid hpre hpost hlen hx
  rw [Nat.add_zero] at o0 a0 p0 b0
  dsimp only at o0 o1 o2 o3 p0 p1 p2 p3 p4 a0 a1 a2 a3 b0 b1 b2 b3 b4
  have hs1 := hseg.fst
  have hs2 := hseg.lst
  obtain ⟨ht, t0, t1, t2, t3, tm, u1, u2, u3, u4, u5⟩ : ∃ ht : Nat → Int, ht off = 0 ∧ ht (off + 1) = 1 ∧ ht (off + 2) = 0 ∧ ht (off + 3) = 1 ∧ (∀ i, off + 4 ≤ i → i ≤ off + 4 + n → ht i = hi i) ∧ ht (off + 4 + n + 1) = 1 ∧ ht (off + 4 + n + 2) = 2 ∧ ht (off + 4 + n + 3) = 1 ∧ ht (off + 4 + n + 4) = 0 ∧ ht (off + 4 + n + 5) = 0 := by
    refine ⟨fun i => if i < off + 4 then (if i = off + 1 ∨ i = off + 3 then 1 else 0) else if i ≤ off + 4 + n then hi i else (if i = off + 4 + n + 1 ∨ i = off + 4 + n + 3 then 1 else if i = off + 4 + n + 2 then 2 else 0), ?_, ?_, ?_, ?_, fun i h1 h2 => ?_, ?_, ?_, ?_, ?_, ?_⟩
    · show (if off < off + 4 then (if off = off + 1 ∨ off = off + 3 then (1 : Int) else 0) else _) = 0
      rw [if_pos (by omega), if_neg (by omega)]
    · show (if off + 1 < off + 4 then (if off + 1 = off + 1 ∨ off + 1 = off + 3 then (1 : Int) else 0) else _) = 1
      rw [if_pos (by omega), if_pos (by omega)]
    · show (if off + 2 < off + 4 then (if off + 2 = off + 1 ∨ off + 2 = off + 3 then (1 : Int) else 0) else _) = 0
      rw [if_pos (by omega), if_neg (by omega)]
    · show (if off + 3 < off + 4 then (if off + 3 = off + 1 ∨ off + 3 = off + 3 then (1 : Int) else 0) else _) = 1
      rw [if_pos (by omega), if_pos (by omega)]
    · show (if i < off + 4 then _ else if i ≤ off + 4 + n then hi i else _) = hi i
      rw [if_neg (by omega), if_pos (by omega)]
    · have a1 : ¬ off + 4 + n + 1 < off + 4 := by omega
      have a2 : ¬ off + 4 + n + 1 ≤ off + 4 + n := by omega
      simp only [a1, a2, if_false]
      simp
    · have a1 : ¬ off + 4 + n + 2 < off + 4 := by omega
      have a2 : ¬ off + 4 + n + 2 ≤ off + 4 + n := by omega
      simp only [a1, a2, if_false]
      simp
    · have a1 : ¬ off + 4 + n + 3 < off + 4 := by omega
      have a2 : ¬ off + 4 + n + 3 ≤ off + 4 + n := by omega
      simp only [a1, a2, if_false]
      simp
    · have a1 : ¬ off + 4 + n + 4 < off + 4 := by omega
      have a2 : ¬ off + 4 + n + 4 ≤ off + 4 + n := by omega
      simp only [a1, a2, if_false]
      simp
    · have a1 : ¬ off + 4 + n + 5 < off + 4 := by omega
      have a2 : ¬ off + 4 + n + 5 ≤ off + 4 + n := by omega
      simp only [a1, a2, if_false]
      simp
  have ts := (tm (off + 4) (by omega) (by omega)).trans hs1
  have te := (tm (off + 4 + n) (by omega) (by omega)).trans hs2
  have hone : ∀ (j : Nat) (o a h k : Int), op j = o → ar j = a → off ≤ j → j + 1 ≤ off + (n + 9) → o ≠ 10 ∧ o ≠ 11 ∧ o ≠ 14 → legalP o a 6 0 3 = true → ht j = h → ht (j + 1) = k → popsP o a ≤ h → hAfter o a h = k → k ≤ 16 →
      legalP (op j) (ar j) 6 (((off + (n + 9) : Nat) : Int) + 1) 3 = true ∧ op j ≠ 14 ∧ popsP (op j) (ar j) ≤ ht j ∧ hAfter (op j) (ar j) (ht j) ≤ 16 ∧ ∀ t, t ∈ afterP (op j) (ar j) j → (off : Int) ≤ t ∧ t ≤ (off + (n + 9) : Nat) ∧ ht t.toNat = hAfter (op j) (ar j) (ht j) := by
    intro j o a h k e1 e2 g1 g2 g3 g4 g5 g6 g7 g8 g9
    rw [e1, e2, g5]
    refine ⟨legalP_mono g4 (by omega), g3.2.2, g7, by omega, fun t ht' => ?_⟩
    have : t = (j : Int) + 1 := by
      unfold afterP at ht'
      rw [if_neg g3.2.2, if_neg g3.1, if_neg g3.2.1] at ht'
      simpa using ht'
    subst this
    refine ⟨by omega, by omega, ?_⟩
    rw [show ((j : Int) + 1).toNat = j + 1 by omega, g6, g8]
  refine ⟨ht, by omega, t0, by rw [show off + (n + 9) = off + 4 + n + 5 by omega]; exact u5, fun i h1 h2 => ?_, fun K hK ha => ?_⟩
  · have hcases : i = off ∨ i = off + 1 ∨ i = off + 2 ∨ i = off + 3 ∨ (off + 4 ≤ i ∧ i < off + 4 + n) ∨ i = off + 4 + n ∨ i = off + 4 + n + 1 ∨ i = off + 4 + n + 2 ∨ i = off + 4 + n + 3 ∨ i = off + 4 + n + 4 := by omega
    rcases hcases with e | e | e | e | hin | e | e | e | e | e
    · rw [e]; exact hone off 0 times 0 1 o0 a0 (by omega) (by omega) (by omega) (by simp [legalP]) t0 t1 (by simp [popsP, popsT]) (by simp [hAfter, popsP, popsT, pushesP]) (by omega)
    · rw [e]; exact hone (off + 1) 3 5 1 0 o1 a1 (by omega) (by omega) (by omega) (by simp [legalP]) t1 t2 (by simp [popsP, popsT]) (by simp [hAfter, popsP, popsT, pushesP]) (by omega)
    · rw [e]; exact hone (off + 2) 2 5 0 1 o2 a2 (by omega) (by omega) (by omega) (by simp [legalP]) t2 t3 (by simp [popsP, popsT]) (by simp [hAfter, popsP, popsT, pushesP]) (by omega)
    · rw [e, o3, a3, t3]
      refine ⟨by simp [legalP]; omega, by omega, by simp [popsP, popsT], by simp [hAfter, popsP, popsT, pushesP], fun t ht' => ?_⟩
      have : t = ((off + 3 : Nat) : Int) + 1 ∨ t = ((off + 9 + n : Nat) : Int) := by simpa [afterP] using ht'
      rcases this with rfl | rfl
      · refine ⟨by omega, by omega, ?_⟩
        rw [show (((off + 3 : Nat) : Int) + 1).toNat = off + 4 by omega, ts]
        simp [hAfter, popsP, popsT, pushesP]
      · refine ⟨by omega, by omega, ?_⟩
        rw [show ((off + 9 + n : Nat) : Int).toNat = off + 4 + n + 5 by omega, u5]
        simp [hAfter, popsP, popsT, pushesP]
    · obtain ⟨g1, g2, g3, g4, g5⟩ := hseg.ok i (by omega) (by omega)
      rw [tm i (by omega) (by omega)]
      refine ⟨legalP_mono g1 (by omega), g2, g3, g4, fun t ht' => ?_⟩
      obtain ⟨k1, k2, k3⟩ := g5 t ht'
      refine ⟨by omega, by omega, ?_⟩
      rw [← k3, tm t.toNat (by omega) (by omega)]
    · rw [e]; exact hone (off + 4 + n) 2 5 0 1 p0 b0 (by omega) (by omega) (by omega) (by simp [legalP]) te u1 (by simp [popsP, popsT]) (by simp [hAfter, popsP, popsT, pushesP]) (by omega)
    · rw [e]; exact hone (off + 4 + n + 1) 0 1 1 2 p1 b1 (by omega) (by omega) (by omega) (by simp [legalP]) u1 u2 (by simp [popsP, popsT]) (by simp [hAfter, popsP, popsT, pushesP]) (by omega)
    · rw [e]; exact hone (off + 4 + n + 2) 5 0 2 1 p2 b2 (by omega) (by omega) (by omega) (by simp [legalP]) u2 u3 (by simp [popsP, popsT]) (by simp [hAfter, popsP, popsT, pushesP]) (by omega)
    · rw [e]; exact hone (off + 4 + n + 3) 3 5 1 0 p3 b3 (by omega) (by omega) (by omega) (by simp [legalP]) u3 u4 (by simp [popsP, popsT]) (by simp [hAfter, popsP, popsT, pushesP]) (by omega)
    · rw [e, p4, b4, u4]
      refine ⟨by simp [legalP]; omega, by omega, by simp [popsP, popsT], by simp [hAfter, popsP, popsT, pushesP], fun t ht' => ?_⟩
      have : t = ((off + 2 : Nat) : Int) := by simpa [afterP] using ht'
      subst this
      refine ⟨by omega, by omega, ?_⟩
      rw [show ((off + 2 : Nat) : Int).toNat = off + 2 by omega, t2]
      simp [hAfter, popsP, popsT, pushesP]
  · have k1 := hK off (by omega) (by omega) ha ((off : Int) + 1) (by rw [o0]; simp [afterP])
    rw [show ((off : Int) + 1).toNat = off + 1 by omega] at k1
    have k2 := hK (off + 1) (by omega) (by omega) k1 (((off + 1 : Nat) : Int) + 1) (by rw [o1]; simp [afterP])
    rw [show (((off + 1 : Nat) : Int) + 1).toNat = off + 2 by omega] at k2
    have k3 := hK (off + 2) (by omega) (by omega) k2 (((off + 2 : Nat) : Int) + 1) (by rw [o2]; simp [afterP])
    rw [show (((off + 2 : Nat) : Int) + 1).toNat = off + 3 by omega] at k3
    have k4 := hK (off + 3) (by omega) (by omega) k3 ((off + 9 + n : Nat) : Int) (by rw [o3, a3]; simp [afterP])
    rw [show ((off + 9 + n : Nat) : Int).toNat = off + (n + 9) by omega] at k4
    exact k4

theorem opL_left (c x : List (Int × Int)) (i : Nat) (hi : i < c.length) : opL (c ++ x) i = opL c i ∧ arL (c ++ x) i = arL c i := by
  unfold opL arL
  rw [List.getD_eq_getElem?_getD, List.getElem?_append_left hi, ← List.getD_eq_getElem?_getD]
  exact ⟨rfl, rfl⟩

theorem lies_right (c x : List (Int × Int)) : Lies (opL (c ++ x)) (arL (c ++ x)) c.length x := by
  have := (lies_self (c ++ x)).right
  rw [Nat.zero_add] at this
  exact this

theorem add_seg (f : Nat) (c : List (Int × Int)) (l : Ln) (h : c.length ≤ 62 ∧ ∃ ht, Seg (opL c) (arL c) 0 c.length 0 0 ht) : (addP f c l).length ≤ 62 ∧ ∃ ht, Seg (opL (addP f c l)) (arL (addP f c l)) 0 (addP f c l).length 0 0 ht := by
  unfold addP
  split
  · exact h
  · dsimp only
    split
    · split
      · rename_i h1 h2 h3
        refine ⟨by simpa using h3, ?_⟩
        obtain ⟨h62, ht, hs⟩ := h
        obtain ⟨ht', hs'⟩ := looped_seg (op := opL (c ++ loopedP (lineP l) c.length (pickP l.loop 8 - 3))) (ar := arL (c ++ loopedP (lineP l) c.length (pickP l.loop 8 - 3))) (line_str l) (lies_right c _)
        rw [List.length_append]
        exact ⟨_, (hs.congr fun i _ hi => opL_left _ _ _ hi).cat hs'⟩
      · exact h
    · split
      · rename_i h1 h2 h3
        refine ⟨by simpa using h3, ?_⟩
        obtain ⟨h62, ht, hs⟩ := h
        obtain ⟨ht', hs'⟩ := (line_str l).seg (op := opL (c ++ lineP l)) (ar := arL (c ++ lineP l)) (lies_right c _)
        rw [List.length_append]
        exact ⟨_, (hs.congr fun i _ hi => opL_left _ _ _ hi).cat hs'⟩
      · exact h

theorem fold_seg (f : Nat) (ls : List Ln) : ∀ (c : List (Int × Int)), (c.length ≤ 62 ∧ ∃ ht, Seg (opL c) (arL c) 0 c.length 0 0 ht) → ((ls.foldl (addP f) c).length ≤ 62 ∧ ∃ ht, Seg (opL (ls.foldl (addP f) c)) (arL (ls.foldl (addP f) c)) 0 (ls.foldl (addP f) c).length 0 0 ht) := by
  induction ls with
  | nil => exact fun c h => h
  | cons l ls ih => exact fun c h => ih _ (add_seg f c l h)

theorem body_seg (f : Nat) (ls : List Ln) : (bodyP f ls).length ≤ 62 ∧ ∃ ht, Seg (opL (bodyP f ls)) (arL (bodyP f ls)) 0 (bodyP f ls).length 0 0 ht :=
  fold_seg f _ [] ⟨by simp, _, Seg.nil _ _ 0 0⟩

end Go.Proofs.YtkafkipjedpohaaGreatDoor
/-
  The programs of package upshiftkeep may be; spoiled they may not, and where. No Go here.
-/
namespace Go.Proofs.YtkafkipjedpohaaGreatDoor

def FL (ls : List Ln) : Nat → PF := fun f => pfL f (codeP f ls)

theorem code_len (f : Nat) (ls : List Ln) : (codeP f ls).length = (bodyP f ls).length + 2 := by simp [codeP]

theorem tail_at (c t : List (Int × Int)) (j : Nat) (v : Int × Int) (hv : t[j]? = some v) : opL (c ++ t) (c.length + j) = v.1 ∧ arL (c ++ t) (c.length + j) = v.2 := lies_in (lies_right c t) j v hv

theorem bad_none {m : Nat} {f : PF} (h : ∀ i, i < f.cn → legalP (f.op i) (f.ar i) f.locals f.cn m = true) : ¬ leastP (badP m f) f.cn < f.cn := by
  rw [leastP_none _ _ (fun j hj => by unfold badP; rw [h j hj]; rfl)]
  omega
theorem sizes_ok (f : Nat) (hf : f < 3) (c : List (Int × Int)) (h1 : 1 ≤ c.length) (h2 : c.length ≤ 64) : ¬ (sizesP (pfL f c) = false ∨ (f = 0 ∧ (pfL f c).args ≠ 0)) := by
  have : sizesP (pfL f c) = true := by
    unfold sizesP pfL
    simp only [Bool.and_eq_true, decide_eq_true_eq]
    omega
  rw [this]
  intro h
  rcases h with h | ⟨h, h'⟩
  · cases h
  · subst h
    exact h' rfl

theorem body_legal (f : Nat) (ls : List Ln) (t : List (Int × Int)) (i : Nat) (hi : i < (bodyP f ls).length) (n : Int) (hn : ((bodyP f ls).length : Int) + 1 ≤ n) : legalP (opL (bodyP f ls ++ t) i) (arL (bodyP f ls ++ t) i) 6 n 3 = true := by
  obtain ⟨_, ht, hs⟩ := body_seg f ls
  obtain ⟨e1, e2⟩ := opL_left (bodyP f ls) t i hi
  rw [e1, e2]
  exact legalP_mono (hs.ok i (by omega) hi).1 hn

theorem fun_ok (f : Nat) (hf : f < 3) (ls : List Ln) : funP 3 f (FL ls f) = (0, 0) := by
  obtain ⟨h62, ht, hs⟩ := body_seg f ls
  have hlen := code_len f ls
  obtain ⟨t0, t1⟩ := tail_at (bodyP f ls) [(2, 0), (14, 0)] 0 (2, 0) rfl
  obtain ⟨t2, t3⟩ := tail_at (bodyP f ls) [(2, 0), (14, 0)] 1 (14, 0) rfl
  rw [Nat.add_zero] at t0 t1
  unfold funP FL
  rw [if_neg (sizes_ok f hf _ (by omega) (by omega)), if_neg (bad_none fun i hi => ?_)]
  · have hn : (pfL (f : Int) (codeP f ls)).cn = (bodyP f ls).length + 2 := hlen
    rw [hn]
    exact Seg.flow (hs.congr fun i _ hi => opL_left _ _ i hi) ⟨t0, t1⟩ t2 _
  · have hi : i < (codeP f ls).length := hi
    show legalP (opL (codeP f ls) i) (arL (codeP f ls) i) 6 ((codeP f ls).length : Int) 3 = true
    by_cases e : i < (bodyP f ls).length
    · exact body_legal f ls _ i e _ (by omega)
    · have hc : i = (bodyP f ls).length ∨ i = (bodyP f ls).length + 1 := by omega
      unfold codeP
      rcases hc with rfl | rfl
      · rw [t0, t1]; simp [legalP]
      · rw [t2, t3]; simp [legalP]

theorem prog_ok (ls : List Ln) : progP 3 (FL ls) = (0, 0, 0) := by
  unfold progP
  rw [if_neg (by omega), if_neg]
  rw [leastP_none _ _ (fun j hj => by unfold faultP; rw [fun_ok j hj]; rfl)]
  omega

/-- Each Jump and Branch to 0. -/
def zeroed (x : Int × Int) : Int × Int := if x.1 = 10 ∨ x.1 = 11 then (x.1, 0) else x

end Go.Proofs.YtkafkipjedpohaaGreatDoor
