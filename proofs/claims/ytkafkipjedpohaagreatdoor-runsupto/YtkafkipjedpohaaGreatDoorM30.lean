import Derived.Test.YtkafkipjedpohaaGreatDoorM25

/-
  The project's own stacks: List.
-/
namespace Go.Proofs.YtkafkipjedpohaaGreatDoor
open Go.RowKit

set_option maxRecDepth 100000 in
set_option maxHeartbeats 1000000 in
theorem listV (w : World) (b o B : Nat) (tag : Nat → Nat) (c : Nat) (v : Value) (l : List V) (hc : w.cell? ⟨b, o, none⟩ = some v) (hrow : Row w B tag c 43 2 v l.length (vcell l)) (hl : l.length ≤ 200000) :
    Calls Tryz.prog 65 #[.pointer (some ⟨b, o, none⟩)] w fun e w' => ∃ v', e = .returned v' ∧ Below w.heap.size w w' ∧ OutL w w' v' l := by
  obtain ⟨inf, hi, hz0, hz1, hz2⟩ : ∃ i, Tryz.prog.info? 43 = some i ∧ i.zero = some (.agg #[.int .i64 0, .int .i64 0]) ∧ i.size = 2 ∧ i.bytes = 16 := by
    obtain ⟨i, hi, hzz⟩ := Option.map_eq_some_iff.1 Tryz.info43
    simp only [Prod.mk.injEq] at hzz
    exact ⟨i, hi, hzz.1, hzz.2.1, hzz.2.2⟩
  by_cases hn : l.length = 0
  · obtain ⟨p, cp, hv, _⟩ := hrow.any
    rw [hn] at hv
    subst hv
    have HQ : Hid (OutL w w (.slice none 0 0) l) := Or.inl ⟨rfl, hn⟩
    clear hrow hn
    rcases p with _ | ⟨pb, po, pe⟩
    · go_enter Tryz.func65, Tryz.ntmps65
      go_wp2
      go_ret
      exact ⟨_, rfl, Below.refl _ _, HQ.out⟩
    · go_enter Tryz.func65, Tryz.ntmps65
      go_wp2
      go_ret
      exact ⟨_, rfl, Below.refl _ _, HQ.out⟩
  · obtain ⟨sb, scap, hv, _, hsz, _, _⟩ := hrow.form (by omega)
    rw [hv] at hrow
    subst hv
    have hown : w.ownsRow w.heap.size 43 2 (.slice none 0 0) 0 [] := ⟨rfl, Or.inl ⟨rfl, rfl⟩⟩
    have hnews : ∀ j u, (valCells l)[j]? = some u → w.cell? ((⟨sb, 0, none⟩ : Addr).add j) = some u := fun j u hu => by
      have hj : j < l.length * 2 := by have := (List.getElem?_eq_some_iff.1 hu).1; simpa [valCells] using this
      have hu' : vcell l j = u := by simpa [valCells, hj] using hu
      rw [Addr.add_lit, Nat.zero_add, ← hu']
      exact hrow.cell hj
    have HO := hid (And.intro hown hnews)
    clear hown hnews hrow
    generalize hln : l.length = ln at *
    have HLN := hid hln
    clear hln
    go_enter Tryz.func65, Tryz.ntmps65
    go_wp2_with (at_builtin; refine stopHereM ?_)
    refine ⟨?_, trivial⟩
    refine wpList_append_lies _ rfl _ _ _ rfl w.heap.size 43 inf _ 2 16 Tryz.underlying44 hi hz0 hz1 hz2 rfl (by decide) (.slice none 0 0) 0 [] rfl HO.out.1 ⟨sb, 0, none⟩ ln scap (valCells l) rfl (by simp [valCells, HLN.out]) HO.out.2 (fun u hu => by obtain ⟨j, _, rfl⟩ := List.mem_map.1 hu; exact vcell_one l j) (by omega) (by unfold maxLen; omega) (by omega) (Nat.le_refl _) _ rfl ?_
    intro g cap2 w2 hown2 hgrow hat hlt
    have hB2 : Below w.heap.size w w2 := ⟨hgrow.os, hgrow.tape, hgrow.output, hgrow.size, fun k hk => hgrow.block k hk (by intro e; cases e)⟩
    have hQ : OutL w w2 (.slice (some ⟨g, 0, none⟩) ln cap2) l := by
      unfold OutL
      rw [HLN.out]
      have h := Row.of_owns (tag := fun _ => 0) (c := 0) (f := vcell l) hown2 rfl (fun i hi => by
        rw [List.nil_append]
        have hi' : i < l.length * 2 := by rw [HLN.out]; omega
        simp [valCells, hi'])
      rw [Nat.zero_add] at h
      exact h
    have HQ := hid (And.intro hB2 hQ)
    clear hB2 hQ hown2 hgrow hat hlt
    go_wp2
    go_ret
    exact ⟨_, rfl, HQ.out⟩
/-- A list of frames' addresses: new memory. -/
def OutF (w w' : World) (v : Value) (n : Nat) (FB : Nat → Nat) : Prop := Row w' w.heap.size (fun _ => 0) 0 133 1 v n (pcell FB)

set_option maxRecDepth 100000 in
set_option maxHeartbeats 1000000 in
theorem listF (w : World) (b o B : Nat) (tag : Nat → Nat) (c : Nat) (v : Value) (ln : Nat) (FB : Nat → Nat) (hc : w.cell? ⟨b, o, none⟩ = some v) (hrow : Row w B tag c 133 1 v ln (pcell FB)) (hl : ln ≤ 200000) :
    Calls Tryz.prog 64 #[.pointer (some ⟨b, o, none⟩)] w fun e w' => ∃ v', e = .returned v' ∧ Below w.heap.size w w' ∧ OutF w w' v' ln FB := by
  obtain ⟨inf, hi, hz0, hz1, hz2⟩ : ∃ i, Tryz.prog.info? 133 = some i ∧ i.zero = some (.pointer none) ∧ i.size = 1 ∧ i.bytes = 8 := by
    obtain ⟨i, hi, hzz⟩ := Option.map_eq_some_iff.1 Tryz.infoPtr
    simp only [Prod.mk.injEq] at hzz
    exact ⟨i, hi, hzz.1, hzz.2.1, hzz.2.2⟩
  by_cases hn : ln = 0
  · obtain ⟨p, cp, hv, _⟩ := hrow.any
    rw [hn] at hv
    subst hv
    have HQ : Hid (OutF w w (.slice none 0 0) ln FB) := Or.inl ⟨rfl, hn⟩
    clear hrow hn
    rcases p with _ | ⟨pb, po, pe⟩
    · go_enter Tryz.func64, Tryz.ntmps64
      go_wp2
      go_ret
      exact ⟨_, rfl, Below.refl _ _, HQ.out⟩
    · go_enter Tryz.func64, Tryz.ntmps64
      go_wp2
      go_ret
      exact ⟨_, rfl, Below.refl _ _, HQ.out⟩
  · obtain ⟨sb, scap, hv, _, hsz, _, _⟩ := hrow.form (by omega)
    rw [hv] at hrow
    subst hv
    have hown : w.ownsRow w.heap.size 133 1 (.slice none 0 0) 0 [] := ⟨rfl, Or.inl ⟨rfl, rfl⟩⟩
    have hnews : ∀ j u, ((List.range ln).map (pcell FB))[j]? = some u → w.cell? ((⟨sb, 0, none⟩ : Addr).add j) = some u := fun j u hu => by
      have hj : j < ln := by have := (List.getElem?_eq_some_iff.1 hu).1; simpa using this
      have hu' : pcell FB j = u := by simpa [hj] using hu
      rw [Addr.add_lit, Nat.zero_add, ← hu']
      exact hrow.cell (by omega)
    have HO := hid (And.intro hown hnews)
    clear hown hnews hrow
    go_enter Tryz.func64, Tryz.ntmps64
    go_wp2_with (at_builtin; refine stopHereM ?_)
    refine ⟨?_, trivial⟩
    refine wpList_append_lies _ rfl _ _ _ rfl w.heap.size 133 inf _ 1 8 Tryz.underlying126 hi hz0 hz1 hz2 rfl (by decide) (.slice none 0 0) 0 [] rfl HO.out.1 ⟨sb, 0, none⟩ ln scap ((List.range ln).map (pcell FB)) rfl (by simp) HO.out.2 (fun u hu => by obtain ⟨j, _, rfl⟩ := List.mem_map.1 hu; rfl) (by omega) (by unfold maxLen; omega) (by omega) (Nat.le_refl _) _ rfl ?_
    intro g cap2 w2 hown2 hgrow hat hlt
    have hB2 : Below w.heap.size w w2 := ⟨hgrow.os, hgrow.tape, hgrow.output, hgrow.size, fun k hk => hgrow.block k hk (by intro e; cases e)⟩
    have hQ : OutF w w2 (.slice (some ⟨g, 0, none⟩) ln cap2) ln FB := by
      unfold OutF
      have h := Row.of_owns (tag := fun _ => 0) (c := 0) (f := pcell FB) hown2 rfl (fun i hi => by
        rw [List.nil_append]
        have hi' : i < ln := by omega
        simp [hi'])
      rw [Nat.zero_add] at h
      exact h
    have HQ := hid (And.intro hB2 hQ)
    clear hB2 hQ hown2 hgrow hat hlt
    go_wp2
    go_ret
    exact ⟨_, rfl, HQ.out⟩
end Go.Proofs.YtkafkipjedpohaaGreatDoor

/-
  A state that goes out: its lists in memory.
-/
namespace Go.Proofs.YtkafkipjedpohaaGreatDoor
open Go.RowKit

/-- The cells of frames that go out. -/
def gcell (fr : Nat → Fr) (LV SV : Nat → Value) : Nat → Value := fun i =>
  if i % 4 = 0 then .int .i64 (fr (i / 4)).fn else if i % 4 = 1 then .int .i64 (fr (i / 4)).pc else if i % 4 = 2 then LV (i / 4) else SV (i / 4)

/-- k frames that have gone out. -/
structure FrsOut (w : World) (B : Nat) (tag : Nat → Nat) (v : Value) (LV SV : Nat → Value) (fr : Nat → Fr) (k : Nat) : Prop where
  row : Row w B tag 1 73 4 v k (gcell fr LV SV)
  loc : ∀ i, i < k → Row w B tag (11 + 4 * i) 43 2 (LV i) (fr i).loc.length (vcell (fr i).loc)
  stk : ∀ i, i < k → Row w B tag (12 + 4 * i) 43 2 (SV i) (fr i).stk.length (vcell (fr i).stk.reverse)

/-- k arrays that have gone out. -/
structure ArsOut (w : World) (B : Nat) (tag : Nat → Nat) (v : Value) (AV : Nat → Value) (arr : List (List V)) (k : Nat) : Prop where
  row : Row w B tag 2 44 1 v k AV
  arr : ∀ j, j < k → Row w B tag (13 + 4 * j) 43 2 (AV j) (arr.getD j []).length (vcell (arr.getD j []))

theorem FrsOut.keep {w w' : World} {B k : Nat} {tag tag' : Nat → Nat} {v : Value} {LV SV : Nat → Value} {fr : Nat → Fr} {p : Nat → Prop} (h : FrsOut w B tag v LV SV fr k) (c : Ch B p tag tag' w w') (h1 : ¬ p 1) (h2 : ∀ i, i < k → ¬ p (11 + 4 * i) ∧ ¬ p (12 + 4 * i)) : FrsOut w' B tag' v LV SV fr k :=
  ⟨h.row.keep c h1, fun i hi => (h.loc i hi).keep c (h2 i hi).1, fun i hi => (h.stk i hi).keep c (h2 i hi).2⟩
theorem ArsOut.keep {w w' : World} {B k : Nat} {tag tag' : Nat → Nat} {v : Value} {AV : Nat → Value} {arr : List (List V)} {p : Nat → Prop} (h : ArsOut w B tag v AV arr k) (c : Ch B p tag tag' w w') (h1 : ¬ p 2) (h2 : ∀ j, j < k → ¬ p (13 + 4 * j)) : ArsOut w' B tag' v AV arr k :=
  ⟨h.row.keep c h1, fun j hj => (h.arr j hj).keep c (h2 j hj)⟩

/-- A list that a callee has made gets its tag. -/
theorem OutL.tagged {X w' : World} {v : Value} {l : List V} (h : OutL X w' v l) {B : Nat} (hB : B ≤ X.heap.size) (tag : Nat → Nat) (c : Nat) : Row w' B (fun b => if b < X.heap.size then tag b else c) c 43 2 v l.length (vcell l) := by
  rcases h with h | ⟨g, cap, cur, hv, hg, _, hh, hr⟩
  · exact Or.inl h
  · exact Or.inr ⟨g, cap, cur, hv, by omega, by show (if g < X.heap.size then tag g else c) = c; rw [if_neg (by omega)], hh, hr⟩
theorem Ch.tagged {X w' : World} {B : Nat} (h : Below X.heap.size X w') (p : Nat → Prop) (tag : Nat → Nat) (c : Nat) : Ch B p tag (fun b => if b < X.heap.size then tag b else c) X w' :=
  ⟨h.os, h.tape, h.output, h.size, fun b hb _ => h.block b hb, fun b hb => by show (if b < X.heap.size then tag b else c) = tag b; rw [if_pos hb]⟩

theorem FrsOut.add {w w1 : World} {B k : Nat} {tag : Nat → Nat} {v : Value} {LV SV : Nat → Value} {fr : Nat → Fr} {lv sv : Value} (h : FrsOut w B tag v LV SV fr k)
    (hl : Row w B tag (11 + 4 * k) 43 2 lv (fr k).loc.length (vcell (fr k).loc)) (hs : Row w B tag (12 + 4 * k) 43 2 sv (fr k).stk.length (vcell (fr k).stk.reverse)) {g cap : Nat}
    (hown : w1.ownsRow B 73 4 (.slice (some ⟨g, 0, none⟩) (k + 1) cap) (k + 1) ((List.range (k * 4)).map (gcell fr LV SV) ++ [.int .i64 (fr k).fn, .int .i64 (fr k).pc, lv, sv])) (hgrow : w.grownBy w1 v.ownBlock) (hat : v.ownBlock = some g ∨ g = w.heap.size) :
    ∃ tag', FrsOut w1 B tag' (.slice (some ⟨g, 0, none⟩) (k + 1) cap) (upd LV k lv) (upd SV k sv) fr (k + 1) ∧ Ch B (· = 1) tag tag' w w1 := by
  obtain ⟨tag', h1, h2⟩ := h.row.grew hown hgrow hat rfl
  refine ⟨tag', ⟨h1.congr (fun i hi => ?_), fun i hi => ?_, fun i hi => ?_⟩, h2⟩
  · by_cases hlt : i < k * 4
    · rw [if_pos hlt]
      unfold gcell
      rw [upd_other _ _ _ _ (by omega), upd_other _ _ _ _ (by omega)]
    · rw [if_neg hlt]
      have e4 : i / 4 = k := by omega
      have : i - k * 4 = 0 ∨ i - k * 4 = 1 ∨ i - k * 4 = 2 ∨ i - k * 4 = 3 := by omega
      unfold gcell
      rw [e4, upd_same, upd_same]
      rcases this with e | e | e | e
      · rw [if_pos (by omega), e]; rfl
      · rw [if_neg (by omega), if_pos (by omega), e]; rfl
      · rw [if_neg (by omega), if_neg (by omega), if_pos (by omega), e]; rfl
      · rw [if_neg (by omega), if_neg (by omega), if_neg (by omega), e]; rfl
  · by_cases e : i = k
    · subst e
      rw [upd_same]
      exact hl.keep h2 (by omega)
    · rw [upd_other _ _ _ _ e]
      exact (h.loc i (by omega)).keep h2 (by omega)
  · by_cases e : i = k
    · subst e
      rw [upd_same]
      exact hs.keep h2 (by omega)
    · rw [upd_other _ _ _ _ e]
      exact (h.stk i (by omega)).keep h2 (by omega)

theorem ArsOut.add {w w1 : World} {B k : Nat} {tag : Nat → Nat} {v : Value} {AV : Nat → Value} {arr : List (List V)} {av : Value} (h : ArsOut w B tag v AV arr k)
    (hl : Row w B tag (13 + 4 * k) 43 2 av (arr.getD k []).length (vcell (arr.getD k []))) {g cap : Nat}
    (hown : w1.ownsRow B 44 1 (.slice (some ⟨g, 0, none⟩) (k + 1) cap) (k + 1) ((List.range (k * 1)).map AV ++ [av])) (hgrow : w.grownBy w1 v.ownBlock) (hat : v.ownBlock = some g ∨ g = w.heap.size) :
    ∃ tag', ArsOut w1 B tag' (.slice (some ⟨g, 0, none⟩) (k + 1) cap) (upd AV k av) arr (k + 1) ∧ Ch B (· = 2) tag tag' w w1 := by
  obtain ⟨tag', h1, h2⟩ := h.row.grew hown hgrow hat rfl
  refine ⟨tag', ⟨h1.congr (fun i hi => ?_), fun j hj => ?_⟩, h2⟩
  · by_cases hlt : i < k * 1
    · rw [if_pos hlt, upd_other _ _ _ _ (by omega)]
    · obtain rfl : i = k := by omega
      rw [if_neg hlt, upd_same]
      simp
  · by_cases e : j = k
    · subst e
      rw [upd_same]
      exact hl.keep h2 (by omega)
    · rw [upd_other _ _ _ _ e]
      exact (h.arr j (by omega)).keep h2 (by omega)
end Go.Proofs.YtkafkipjedpohaaGreatDoor
