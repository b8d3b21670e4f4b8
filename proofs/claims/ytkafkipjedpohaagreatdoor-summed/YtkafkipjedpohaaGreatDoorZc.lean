import Derived.Test.YtkafkipjedpohaaGreatDoorZb
import Derived.Test.YtkafkipjedpohaaGreatDoorC3
import Derived.Test.YtkafkipjedpohaaGreatDoorC1
import Derived.Test.YtkafkipjedpohaaGreatDoorPureC

/-
  How compiled code is made: compiled.
-/
namespace Go.Proofs.YtkafkipjedpohaaGreatDoor
open Go.RowKit

/-- A list of stretches, one from each instruction of a function on. -/
def CompV (L : Bxs) (f : PF) (v : Value) : Prop :=
  ∃ vb cap arr, v = .slice (some ⟨vb, 0, none⟩) f.cn cap ∧ (vb, arr, 183) ∈ L ∧ ∀ p, p < f.cn → arr[p * 2]? = some (.int .i64 (mkOf f p).seen) ∧ ∃ vd, arr[p * 2 + 1]? = some vd ∧ StrV L (mkOf f p).ds vd
theorem CompV.mono {L L' : Bxs} {f : PF} {v : Value} (h : CompV L f v) (hl : ∀ t, t ∈ L → t ∈ L') : CompV L' f v := by
  obtain ⟨vb, cap, arr, h1, h2, h3⟩ := h
  refine ⟨vb, cap, arr, h1, hl _ h2, fun p hp => ?_⟩
  obtain ⟨a1, vd, a2, a3⟩ := h3 p hp
  exact ⟨a1, vd, a2, a3.mono hl⟩

/-- What compiled leaves. -/
def CompE (w : World) (f : PF) (e : Ending) (w' : World) : Prop :=
  ∃ v L, e = .returned v ∧ CompV L f v ∧ Hb L w' ∧ (∀ t, t ∈ L → w.heap.size ≤ t.1) ∧ Below w.heap.size w w'

theorem Tryz.infoStr : (Tryz.prog.info? 183).map (fun i => (i.zero, i.size, i.bytes)) = some (some (.agg #[.int .i64 0, .nilFunc]), 2, 16) := by kernel_rfl

theorem set_two {cur : Array Value} {j n : Nat} (hs : cur.size = n * 2) (hj : j < n) (x y : Value) : ((cur.setIfInBounds (j * 2) x).setIfInBounds (j * 2 + 1) y).size = n * 2 ∧ ((cur.setIfInBounds (j * 2) x).setIfInBounds (j * 2 + 1) y)[j * 2]? = some x ∧ ((cur.setIfInBounds (j * 2) x).setIfInBounds (j * 2 + 1) y)[j * 2 + 1]? = some y ∧ ∀ i, i ≠ j → ((cur.setIfInBounds (j * 2) x).setIfInBounds (j * 2 + 1) y)[i * 2]? = cur[i * 2]? ∧ ((cur.setIfInBounds (j * 2) x).setIfInBounds (j * 2 + 1) y)[i * 2 + 1]? = cur[i * 2 + 1]? := by
  refine ⟨by simpa using hs, ?_, ?_, fun i hi => ⟨?_, ?_⟩⟩
  · rw [Array.getElem?_setIfInBounds_ne (by omega), Array.getElem?_setIfInBounds_self_of_lt (by omega)]
  · rw [Array.getElem?_setIfInBounds_self_of_lt (by simp; omega)]
  · rw [Array.getElem?_setIfInBounds_ne (by omega), Array.getElem?_setIfInBounds_ne (by omega)]
  · rw [Array.getElem?_setIfInBounds_ne (by omega), Array.getElem?_setIfInBounds_ne (by omega)]

/-- The first j stretches are made. -/
def SomeMade (w : World) (f : PF) (n j : Nat) (wr : World) : Prop :=
  ∃ cur L, wr.heap[w.heap.size]? = some (.cells cur 183 (0, 0)) ∧ cur.size = n * 2 ∧ (∀ i, i < j → cur[i * 2]? = some (.int .i64 (mkOf f i).seen) ∧ ∃ vd, cur[i * 2 + 1]? = some vd ∧ StrV L (mkOf f i).ds vd) ∧ Hb L wr ∧ (∀ t, t ∈ L → w.heap.size + 1 ≤ t.1) ∧ Below w.heap.size w wr

set_option maxRecDepth 100000 in
set_option maxHeartbeats 1000000 in
theorem compiledM (w : World) (cb co cap n : Nat) (f : PF) (m : Int) (hfn : f.cn = n) (hcode : ∀ i, i < n → w.cell? ⟨cb, co + i * 2, none⟩ = some (.int .i64 (f.op i)) ∧ w.cell? ⟨cb, co + i * 2 + 1, none⟩ = some (.int .i64 (f.ar i))) (hcb : cb < w.heap.size) (hn : n ≤ 64) (hc : n ≤ cap) (hleg : ∀ i, i < f.cn → legalP (f.op i) (f.ar i) f.locals f.cn m = true) :
    Calls Tryz.prog 125 #[.slice (some ⟨cb, co, none⟩) n cap] w (CompE w f) := by
  have hmk := fun wx => run_make_rows (P := Tryz.prog) 136 183 _ _ 2 16 Tryz.underlying136 Tryz.infoStr rfl .i64 .i64 n (by omega) (by omega) wx
  have hbl0 : Below w.heap.size w (w.alloc (.cells (madeCells #[.int .i64 0, .nilFunc] (n * 2)) 183)) := (Below.refl _ _).alloc (Nat.le_refl _) _
  have HST := hid (show SomeMade w f n 0 (w.alloc (.cells (madeCells #[.int .i64 0, .nilFunc] (n * 2)) 183)) from ⟨_, [], Go.Deep.blk_alloc_new _ _, by simp [size_madeCells], fun i hi => absurd hi (Nat.not_lt_zero _), fun t ht => absurd ht List.not_mem_nil, fun t ht => absurd ht List.not_mem_nil, hbl0⟩)
  have HCD := hid (And.intro hcode (And.intro hleg hfn))
  clear hbl0 hcode hleg hfn
  go_enter Tryz.func125, Tryz.ntmps125
  go_wp2
  clear hmk
  go_loopw [10] (fun v wr => ∃ j : Nat, j ≤ n ∧ v = .int .i64 j ∧ SomeMade w f n j wr) (fun v _ => n - (intOf v).toNat)
  case atStart =>
    exact ⟨0, by omega, rfl, HST.out⟩
  case round =>
    obtain ⟨j, hj, rfl, hI⟩ := hrel
    by_cases hlt : j < n
    · have hdec : decide ((j : Int) < (n : Int)) = true := by simp; omega
      have hbw := hI.choose_spec.choose_spec.2.2.2.2.2
      have hcbr : cb < wr.heap.size := by have := hbw.size; omega
      have HT := hid (stretchOfM wr cb (co + j * 2) (n - j) (cap - j) j f m (fun i hi => by
        obtain ⟨q0, q1⟩ := HCD.out.1 (j + i) (by omega)
        refine ⟨?_, ?_⟩
        · rw [show co + j * 2 + i * 2 = co + (j + i) * 2 by omega]
          exact (hbw.cell (p := ⟨cb, co + (j + i) * 2, none⟩) hcb).trans q0
        · rw [show co + j * 2 + i * 2 + 1 = co + (j + i) * 2 + 1 by omega]
          exact (hbw.cell (p := ⟨cb, co + (j + i) * 2 + 1, none⟩) hcb).trans q1) hcbr (by rw [HCD.out.2.2]; omega) (by omega) HCD.out.2.1)
      have HI := hid hI
      have i0 : (0 : Int) ≤ (j : Int) := by omega
      have i1 : (j : Int) < (n : Int) := by omega
      have i2 : (j : Int) ≤ (n : Int) := by omega
      have i3 : (n : Int) ≤ (cap : Int) := by omega
      clear hI hbw HST
      go_wp2_with fail
      refine HT.out.mono ?_
      rintro e w2 ⟨vd, L2, rfl, hsv, hb2, hB2, hbl2⟩
      obtain ⟨cur, L, h1, h2, h3, h4, h5, h6⟩ := HI.out
      have hz := heap_lt h1
      have h1' := (hbl2.block w.heap.size hz).trans h1
      obtain ⟨u0, hu0⟩ : ∃ u, cur[j * 2]? = some u := ⟨_, Array.getElem?_eq_getElem (by omega)⟩
      obtain ⟨u1, hu1⟩ : ∃ u, cur[j * 2 + 1]? = some u := ⟨_, Array.getElem?_eq_getElem (by omega)⟩
      have x0 : w2.cell? ⟨w.heap.size, j * 2, none⟩ = some u0 := (cell_heap h1').trans hu0
      have x1 : w2.cell? ⟨w.heap.size, j * 2 + 1, none⟩ = some u1 := (cell_heap h1').trans hu1
      have z0 : w2.frozen? ⟨w.heap.size, j * 2, none⟩ = false := frozen_heap h1'
      have z1 : w2.frozen? ⟨w.heap.size, j * 2 + 1, none⟩ = false := frozen_heap h1'
      have HN := hid (show SomeMade w f n (j + 1) ((w2.setCell ⟨w.heap.size, j * 2, none⟩ (.int .i64 (mkOf f j).seen)).setCell ⟨w.heap.size, j * 2 + 1, none⟩ vd) from by
        obtain ⟨s1, s2, s3, s4⟩ := set_two h2 hlt (.int .i64 (mkOf f j).seen) vd
        refine ⟨_, L ++ L2, heap_set (heap_set h1' _) _, s1, fun i hi => ?_, fun t ht => ?_, fun t ht => ?_, ((h6.trans (hbl2.mono h6.size)).setCell (Nat.le_refl _) _).setCell (Nat.le_refl _) _⟩
        · by_cases e : i = j
          · subst e
            exact ⟨s2, vd, s3, hsv.mono (fun t ht => List.mem_append.2 (Or.inr ht))⟩
          · obtain ⟨a1, vd', a2, a3⟩ := h3 i (by omega)
            obtain ⟨b1, b2⟩ := s4 i e
            exact ⟨b1.trans a1, vd', b2.trans a2, a3.mono (fun t ht => List.mem_append.2 (Or.inl ht))⟩
        · have hne : t.1 ≠ w.heap.size := by
            rcases List.mem_append.1 ht with ht | ht
            · have := h5 t ht; omega
            · have := hB2 t ht; omega
          refine ((Below.heap_setCell _ _ _ _ hne).trans (Below.heap_setCell _ _ _ _ hne)).trans ?_
          rcases List.mem_append.1 ht with ht | ht
          · exact (hbl2.block t.1 (heap_lt (h4 t ht))).trans (h4 t ht)
          · exact hb2 t ht
        · rcases List.mem_append.1 ht with ht | ht
          · exact h5 t ht
          · have := hB2 t ht; omega)
      obtain ⟨bv, rfl, _⟩ := hsv
      generalize (mkOf f j).seen = sn at *
      clear h1 h1' h2 h3 h4 h5 h6 hb2 hB2 hbl2 hu0 hu1 HT HI
      go_wp2
      exact ⟨⟨j + 1, by omega, by go_num, HN.out⟩, by simp [intOf]; omega⟩
    · have hdec : decide ((j : Int) < (n : Int)) = false := by simp; omega
      obtain rfl : j = n := by omega
      have HQ := hid (show CompE w f (.returned (.slice (some ⟨w.heap.size, 0, none⟩) j j)) wr from by
        obtain ⟨cur, L, h1, h2, h3, h4, h5, h6⟩ := hI
        refine ⟨_, (w.heap.size, cur, 183) :: L, rfl, ⟨w.heap.size, j, cur, by rw [HCD.out.2.2], List.mem_cons_self, fun p hp => ?_⟩, fun t ht => ?_, fun t ht => ?_, h6⟩
        · rw [HCD.out.2.2] at hp
          obtain ⟨a1, vd, a2, a3⟩ := h3 p hp
          exact ⟨a1, vd, a2, a3.mono (fun t ht => List.mem_cons_of_mem _ ht)⟩
        · rcases List.mem_cons.1 ht with rfl | ht
          · exact h1
          · exact h4 t ht
        · rcases List.mem_cons.1 ht with rfl | ht
          · exact Nat.le_refl _
          · have := h5 t ht; omega)
      clear hI
      go_wp2
      go_ret
      exact HQ.out
end Go.Proofs.YtkafkipjedpohaaGreatDoor

/-
  slices.Clone, of values.
-/
namespace Go.Proofs.YtkafkipjedpohaaGreatDoor
open Go.RowKit

/-- A list of values that goes out: new memory. -/
def OutL (w w' : World) (v : Value) (l : List V) : Prop := Row w' w.heap.size (fun _ => 0) 0 43 2 v l.length (vcell l)

def valCells (l : List V) : List Value := (List.range (l.length * 2)).map (vcell l)

set_option maxRecDepth 100000 in
set_option maxHeartbeats 1000000 in
theorem cloneV (w : World) (B : Nat) (tag : Nat → Nat) (c : Nat) (v : Value) (l : List V) (hrow : Row w B tag c 43 2 v l.length (vcell l)) (hl : l.length ≤ 200000) :
    Calls Tryz.prog 63 #[v] w fun e w' => ∃ v', e = .returned v' ∧ Below w.heap.size w w' ∧ OutL w w' v' l := by
  rcases hrow with ⟨rfl, h0⟩ | ⟨b, cap, cur, rfl, hb, ht, hh, hc, hm, hs, hf⟩
  · have hnil := fun wx => Lib.run_eql_slice_nil (P := Tryz.prog) wx 44 43 none 0 0 0 0 Tryz.underlying44
    have HQ : Hid (OutL w w (.slice none 0 0) l) := Or.inl ⟨rfl, h0⟩
    clear h0
    go_enter Tryz.func63, Tryz.ntmps63
    go_wp2
    go_ret
    exact ⟨_, rfl, Below.refl _ _, HQ.out⟩
  · have hnil := fun wx => Lib.run_eql_slice_nil (P := Tryz.prog) wx 44 43 (some ⟨b, 0, none⟩) l.length cap 0 0 Tryz.underlying44
    have hbz := heap_lt hh
    obtain ⟨inf, hi, hz0, hz1, hz2⟩ : ∃ i, Tryz.prog.info? 43 = some i ∧ i.zero = some (.agg #[.int .i64 0, .int .i64 0]) ∧ i.size = 2 ∧ i.bytes = 16 := by
      obtain ⟨i, hi, hzz⟩ := Option.map_eq_some_iff.1 Tryz.info43
      simp only [Prod.mk.injEq] at hzz
      exact ⟨i, hi, hzz.1, hzz.2.1, hzz.2.2⟩
    have hA : Below w.heap.size w (w.alloc (.cells #[] 43)) := (Below.refl _ _).alloc (Nat.le_refl _) _
    by_cases hn : l.length = 0
    · have hrun := run_append_room_src (P := Tryz.prog) (w.alloc (.cells #[] 43)) 44 44 44 43 inf Tryz.underlying44 hi w.heap.size 0 0 0 (.slice (some ⟨b, 0, none⟩) 0 cap) 0 [] (Src.ofSlice _ Tryz.underlying44 ⟨b, 0, none⟩ 0 cap [] (by simp) (by simp) (by simp)) (by omega) (by simp) (by simp)
      have HR := hid hrun
      have HQ : Hid (OutL w (w.alloc (.cells #[] 43)) (.slice (some ⟨w.heap.size, 0, none⟩) 0 0) l) := by
        unfold Hid OutL
        rw [hn]
        exact Or.inr ⟨w.heap.size, 0, #[], rfl, Nat.le_refl _, rfl, Go.Deep.blk_alloc_new _ _, Nat.le_refl _, by unfold maxLen; omega, rfl, fun i hi => by omega⟩
      have HA := hid hA
      clear hrun hA hf hs hm hc hh
      rw [hn] at hnil ⊢
      clear hn
      go_enter Tryz.func63, Tryz.ntmps63
      go_wp2_with (at_builtin; refine wpList_append_run _ rfl _ _ 44 rfl _ _ _ _ rfl rfl HR.out ?_)
      go_ret
      exact ⟨_, rfl, HA.out, HQ.out⟩
    · have hown : (w.alloc (.cells #[] 43)).ownsRow w.heap.size 43 2 (.slice (some ⟨w.heap.size, 0, none⟩) 0 0) 0 [] :=
        ⟨rfl, Or.inr ⟨w.heap.size, 0, #[], rfl, Nat.le_refl _, Go.Deep.blk_alloc_new _ _, Nat.le_refl _, by unfold maxLen; omega, rfl, rfl⟩⟩
      have hnews : ∀ j u, (valCells l)[j]? = some u → (w.alloc (.cells #[] 43)).cell? ((⟨b, 0, none⟩ : Addr).add j) = some u := fun j u hu => by
        have hj : j < l.length * 2 := by have := (List.getElem?_eq_some_iff.1 hu).1; simpa [valCells] using this
        have hu' : vcell l j = u := by simpa [valCells, hj] using hu
        rw [Addr.add_lit, Nat.zero_add, ← hu']
        exact (hA.cell (p := ⟨b, j, none⟩) hbz).trans ((cell_heap hh).trans (hf j hj))
      have HO := hid (And.intro hown (And.intro hnews hA))
      clear hown hnews hA hf hs hm hc hh
      generalize hln : l.length = ln at *
      have HLN := hid hln
      clear hln
      go_enter Tryz.func63, Tryz.ntmps63
      go_wp2_with (at_builtin; refine stopHereM ?_)
      refine ⟨?_, trivial⟩
      refine wpList_append_lies _ rfl _ _ _ rfl w.heap.size 43 inf _ 2 16 Tryz.underlying44 hi hz0 hz1 hz2 rfl (by decide) (.slice (some ⟨w.heap.size, 0, none⟩) 0 0) 0 [] rfl HO.out.1 ⟨b, 0, none⟩ ln cap (valCells l) rfl (by simp [valCells, HLN.out]) HO.out.2.1 (fun u hu => by obtain ⟨j, _, rfl⟩ := List.mem_map.1 hu; exact vcell_one l j) (by omega) (by unfold maxLen; omega) (by omega) (by simp) _ rfl ?_
      intro g cap2 w2 hown2 hgrow hat hlt
      have hB2 : Below w.heap.size w w2 := HO.out.2.2.trans ⟨hgrow.os, hgrow.tape, hgrow.output, hgrow.size, fun k hk => hgrow.block k (by rw [World.size_alloc]; omega) (by intro e; have e' : some k = some w.heap.size := e; injection e' with e'; omega)⟩
      have hQ : OutL w w2 (.slice (some ⟨g, 0, none⟩) ln cap2) l := by
        unfold OutL
        rw [HLN.out]
        have h := Row.of_owns (tag := fun _ => 0) (c := 0) (f := vcell l) hown2 rfl (fun i hi => by
          rw [List.nil_append]
          have hi' : i < l.length * 2 := by rw [HLN.out]; omega
          simp [valCells, hi'])
        rw [Nat.zero_add] at h
        exact h
      have HQ := hid (And.intro hB2 hQ)
      clear hB2 hQ hown2 hgrow hat hlt
      go_wp2
      go_ret
      exact ⟨_, rfl, HQ.out⟩
end Go.Proofs.YtkafkipjedpohaaGreatDoor

/-
  The project's own stacks: List.
-/
namespace Go.Proofs.YtkafkipjedpohaaGreatDoor
open Go.RowKit

/-- A list of frames' addresses: new memory. -/
def OutF (w w' : World) (v : Value) (n : Nat) (FB : Nat → Nat) : Prop := Row w' w.heap.size (fun _ => 0) 0 133 1 v n (pcell FB)

set_option maxRecDepth 100000 in
set_option maxHeartbeats 1000000 in
theorem listF (w : World) (b o B : Nat) (tag : Nat → Nat) (c : Nat) (v : Value) (ln : Nat) (FB : Nat → Nat) (hc : w.cell? ⟨b, o, none⟩ = some v) (hrow : Row w B tag c 133 1 v ln (pcell FB)) (hl : ln ≤ 200000) :
    Calls Tryz.prog 64 #[.pointer (some ⟨b, o, none⟩)] w fun e w' => ∃ v', e = .returned v' ∧ Below w.heap.size w w' ∧ OutF w w' v' ln FB := by
  obtain ⟨inf, hi, hz0, hz1, hz2⟩ : ∃ i, Tryz.prog.info? 133 = some i ∧ i.zero = some (.pointer none) ∧ i.size = 1 ∧ i.bytes = 8 := by
    obtain ⟨i, hi, hzz⟩ := Option.map_eq_some_iff.1 Tryz.infoPtr
    simp only [Prod.mk.injEq] at hzz
    exact ⟨i, hi, hzz.1, hzz.2.1, hzz.2.2⟩
  by_cases hn : ln = 0
  · obtain ⟨p, cp, hv, _⟩ := hrow.any
    rw [hn] at hv
    subst hv
    have HQ : Hid (OutF w w (.slice none 0 0) ln FB) := Or.inl ⟨rfl, hn⟩
    clear hrow hn
    rcases p with _ | ⟨pb, po, pe⟩
    · go_enter Tryz.func64, Tryz.ntmps64
      go_wp2
      go_ret
      exact ⟨_, rfl, Below.refl _ _, HQ.out⟩
    · go_enter Tryz.func64, Tryz.ntmps64
      go_wp2
      go_ret
      exact ⟨_, rfl, Below.refl _ _, HQ.out⟩
  · obtain ⟨sb, scap, hv, _, hsz, _, _⟩ := hrow.form (by omega)
    rw [hv] at hrow
    subst hv
    have hown : w.ownsRow w.heap.size 133 1 (.slice none 0 0) 0 [] := ⟨rfl, Or.inl ⟨rfl, rfl⟩⟩
    have hnews : ∀ j u, ((List.range ln).map (pcell FB))[j]? = some u → w.cell? ((⟨sb, 0, none⟩ : Addr).add j) = some u := fun j u hu => by
      have hj : j < ln := by have := (List.getElem?_eq_some_iff.1 hu).1; simpa using this
      have hu' : pcell FB j = u := by simpa [hj] using hu
      rw [Addr.add_lit, Nat.zero_add, ← hu']
      exact hrow.cell (by omega)
    have HO := hid (And.intro hown hnews)
    clear hown hnews hrow
    go_enter Tryz.func64, Tryz.ntmps64
    go_wp2_with (at_builtin; refine stopHereM ?_)
    refine ⟨?_, trivial⟩
    refine wpList_append_lies _ rfl _ _ _ rfl w.heap.size 133 inf _ 1 8 Tryz.underlying126 hi hz0 hz1 hz2 rfl (by decide) (.slice none 0 0) 0 [] rfl HO.out.1 ⟨sb, 0, none⟩ ln scap ((List.range ln).map (pcell FB)) rfl (by simp) HO.out.2 (fun u hu => by obtain ⟨j, _, rfl⟩ := List.mem_map.1 hu; rfl) (by omega) (by unfold maxLen; omega) (by omega) (Nat.le_refl _) _ rfl ?_
    intro g cap2 w2 hown2 hgrow hat hlt
    have hB2 : Below w.heap.size w w2 := ⟨hgrow.os, hgrow.tape, hgrow.output, hgrow.size, fun k hk => hgrow.block k hk (by intro e; cases e)⟩
    have hQ : OutF w w2 (.slice (some ⟨g, 0, none⟩) ln cap2) ln FB := by
      unfold OutF
      have h := Row.of_owns (tag := fun _ => 0) (c := 0) (f := pcell FB) hown2 rfl (fun i hi => by
        rw [List.nil_append]
        have hi' : i < ln := by omega
        simp [hi'])
      rw [Nat.zero_add] at h
      exact h
    have HQ := hid (And.intro hB2 hQ)
    clear hB2 hQ hown2 hgrow hat hlt
    go_wp2
    go_ret
    exact ⟨_, rfl, HQ.out⟩
end Go.Proofs.YtkafkipjedpohaaGreatDoor
