import Derived.Test.YtkafkipjedpohaaGreatDoorV4

/-
  The project's machine: enter.
-/
namespace Go.Proofs.YtkafkipjedpohaaGreatDoor
open Go.RowKit

set_option maxRecDepth 100000 in
set_option maxHeartbeats 1000000 in
theorem indexOf (w : World) (B : Nat) (v : Value) (l : List Nat) (x : Nat) (hrow : Row w B (fun _ => 0) 0 3 1 v l.length (headCell l)) (hl : l.length ≤ 1000) :
    Calls Tryz.prog 145 #[v, .int .i64 x] w fun e w' => (∃ r, e = .returned (.int .i64 r) ∧ ((0 ≤ r ∧ x ∈ l) ∨ (r = -1 ∧ x ∉ l))) ∧ w' = w := by
  obtain ⟨p, c, hv⟩ : ∃ p c, v = .slice p l.length c := by
    rcases hrow with ⟨h1, h2⟩ | ⟨b, cap, cur, h1, _⟩
    · exact ⟨none, 0, by rw [h1, h2]⟩
    · exact ⟨_, _, h1⟩
  have hcell : ∀ j, j < l.length → ∃ b, p = some ⟨b, 0, none⟩ ∧ w.cell? ⟨b, j, none⟩ = some (.int .i64 (l.getD j 0 : Nat)) := fun j hj => by
    obtain ⟨b, cap, hv2, _⟩ := hrow.form (by omega)
    rw [hv2] at hrow hv
    injection hv with e1 _ _
    exact ⟨b, e1.symm, hrow.cell (i := j) (by omega)⟩
  subst hv
  have HC := hid hcell
  clear hrow hcell
  generalize hln : l.length = ln at *
  have HLN := hid hln
  clear hln
  go_enter Tryz.func145, Tryz.ntmps145
  go_wp2
  go_loopw [8] (fun v wr => ∃ j : Nat, j ≤ ln ∧ v = .int .i64 j ∧ wr = w ∧ ∀ i, i < j → l.getD i 0 ≠ x) (fun v _ => ln - (intOf v).toNat)
  case atStart => exact ⟨0, by omega, rfl, rfl, fun i hi => absurd hi (Nat.not_lt_zero _)⟩
  case round =>
    obtain ⟨j, hj, rfl, hwr, hno⟩ := hrel
    rw [hwr]
    clear hwr wr
    by_cases hlt : j < ln
    · have hdec : decide ((j : Int) < (ln : Int)) = true := by simp; omega
      obtain ⟨b, rfl, y0⟩ := HC.out j hlt
      have i0 : (0 : Int) ≤ (j : Int) := by omega
      have i1 : (j : Int) < (ln : Int) := by omega
      by_cases he : x = l.getD j 0
      · have e1 : ((x : Int) == ((l.getD j 0 : Nat) : Int)) = true := by rw [← he]; simp
        have hmem : x ∈ l := by
          have hjl : j < l.length := by rw [HLN.out]; exact hlt
          rw [he, List.getD_eq_getElem?_getD, List.getElem?_eq_getElem hjl]
          exact List.getElem_mem _
        have HM := hid hmem
        clear hmem he hno
        generalize ((l.getD j 0 : Nat) : Int) = u at *
        go_wp2
        go_ret
        exact ⟨⟨_, rfl, Or.inl ⟨i0, HM.out⟩⟩, rfl⟩
      · have e1 : ((x : Int) == ((l.getD j 0 : Nat) : Int)) = false := by rw [beq_eq_false_iff_ne]; omega
        have HN := hid (show ∀ i, i < j + 1 → l.getD i 0 ≠ x from fun i hi => by
          by_cases e : i = j
          · rw [e]; exact fun h => he h.symm
          · exact hno i (by omega))
        clear he hno
        generalize ((l.getD j 0 : Nat) : Int) = u at *
        go_wp2
        exact ⟨⟨j + 1, by omega, by go_num, by first | trivial | rfl, HN.out⟩, by simp [intOf]; omega⟩
    · have hdec : decide ((j : Int) < (ln : Int)) = false := by simp; omega
      have hnm : x ∉ l := fun hm => by
        obtain ⟨i, hi, e⟩ := List.getElem_of_mem hm
        refine hno i (by rw [HLN.out] at hi; omega) ?_
        rw [List.getD_eq_getElem?_getD, List.getElem?_eq_getElem hi]
        exact e
      have HM := hid hnm
      clear hnm hno
      go_wp2
      go_ret
      exact ⟨⟨_, rfl, Or.inr ⟨by first | trivial | rfl, HM.out⟩⟩, rfl⟩

theorem containsM (w : World) (B : Nat) (v : Value) (l : List Nat) (x : Nat) (hrow : Row w B (fun _ => 0) 0 3 1 v l.length (headCell l)) (hl : l.length ≤ 1000) :
    Calls Tryz.prog 127 #[v, .int .i64 x] w fun e w' => e = .returned (.bool (decide (x ∈ l))) ∧ w' = w := by
  have HI := hid (indexOf w B v l x hrow hl)
  obtain ⟨p, c, hv⟩ : ∃ p c, v = .slice p l.length c := by
    rcases hrow with ⟨h1, h2⟩ | ⟨b, cap, cur, h1, _⟩
    · exact ⟨none, 0, by rw [h1, h2]⟩
    · exact ⟨_, _, h1⟩
  subst hv
  clear hrow
  go_enter Tryz.func127, Tryz.ntmps127
  go_wp2_with fail
  refine HI.out.mono ?_
  rintro e w1 ⟨⟨r, rfl, hr⟩, hw1⟩
  rw [hw1]
  clear hw1 w1 HI
  rcases hr with ⟨h1, h2⟩ | ⟨h1, h2⟩
  · have e1 : decide ((0 : Int) ≤ r) = true := by simpa using h1
    have HM := hid h2
    clear h1 h2
    go_wp2
    go_ret
    exact ⟨by rw [decide_eq_true HM.out]; rfl, rfl⟩
  · subst h1
    have HM := hid h2
    clear h2
    go_wp2
    go_ret
    exact ⟨by rw [decide_eq_false HM.out]; rfl, rfl⟩

theorem head_mem (f : PF) (x : Nat) (hx : x < f.cn) : decide (x ∈ headsTo f f.cn) = headP f x := by
  unfold headsTo
  cases h : headP f x with
  | true => exact decide_eq_true (List.mem_filter.2 ⟨List.mem_range.2 hx, h⟩)
  | false =>
    refine decide_eq_false (fun hm => ?_)
    rw [(List.mem_filter.1 hm).2] at h
    cases h

/-- The frame at hand goes up. -/
theorem RSt.up {w : World} {B mb m : Nat} {F : Nat → PF} {MV : Nat → Value} {A : AdM} {s : Mc} {en : Int} {L : Bxs} {E : List Ev} (h : RSt w B mb m F MV A s en L E) {f : Fr} {rest : List Fr} (hs : s.fr = f :: rest) (hfn : f.fn < m) (hmd : s.made f.fn = true) :
    RGo w B mb m F MV A { s with high := true :: s.high.drop 1, cU := s.cU + 1 } en L E ((w.setCell ⟨A.FB rest.length, 4, none⟩ (MV f.fn)).setCell ⟨mb, 9, none⟩ (.int .i64 ((s.cU : Int) + 1))) := by
  have hM := h.st
  have hlen : s.fr.length = rest.length + 1 := by rw [hs]; rfl
  have hi : rest.length < s.fr.length := by omega
  obtain ⟨l1, c1⟩ := hM.lay.lowered hi (MV f.fn)
  obtain ⟨l2, c2⟩ := l1.counted 9 (by omega) ((s.cU : Int) + 1)
  have hchN : Ch B N5 A.tag A.tag w ((w.setCell ⟨A.FB rest.length, 4, none⟩ (MV f.fn)).setCell ⟨mb, 9, none⟩ (.int .i64 ((s.cU : Int) + 1))) := (c1.mono (q := N5) (fun d hd => by unfold N5; omega)).trans (c2.mono (q := N5) (fun d hd => by unfold N5; omega))
  have hhl := hM.hl
  have e0 : frAt s.fr rest.length = f := by rw [hs]; exact frAt_top _ _
  obtain ⟨b, r, hbr⟩ : ∃ b r, s.high = b :: r := by
    cases hc : s.high with
    | nil => rw [hc] at hhl; simp at hhl; omega
    | cons b r => exact ⟨b, r, rfl⟩
  have hrl : r.length = rest.length := by rw [hbr] at hhl; simp at hhl; omega
  have hat : ∀ j, j < s.fr.length → hiAt (true :: s.high.drop 1) j = if j = rest.length then true else hiAt s.high j := fun j hj => by
    rw [hbr]
    show hiAt (true :: r) j = _
    by_cases e : j = rest.length
    · rw [if_pos e, hiAt_top _ _ (by omega)]
    · rw [if_neg e, hiAt_rest _ _ _ (by omega), hiAt_rest _ _ _ (by omega)]
  refine ⟨_, ⟨hM.ch (l2.like rfl rfl rfl rfl rfl) ?_ (fun j hj => ?_) ⟨?_, ?_, ?_⟩ rfl ⟨rfl, rfl, rfl⟩ hchN, h.bx.keep hchN n55, h.md, fun j hj hj2 => ?_, h.ev.below (hchN.below hM.le), h.cp.below (hchN.below hM.le)⟩, ⟨rfl, rfl, rfl⟩, hchN, fun _ => rfl⟩
  · show (true :: s.high.drop 1).length = s.fr.length
    rw [hbr]
    simp
    omega
  · show CodeV (upd A.g.CV rest.length (MV f.fn) j) (hiAt (true :: s.high.drop 1) j)
    rw [hat j hj]
    by_cases e : j = rest.length
    · subst e
      rw [upd_same, if_pos rfl, ← hmd]
      exact hM.mds f.fn hfn
    · rw [upd_other _ _ _ _ e, if_neg e]
      exact hM.cod j hj
  · show (A.g.hi : Int) = s.cH
    exact hM.cnt.1
  · show ((s.cU : Int) + 1) = ((s.cU + 1 : Nat) : Int)
    omega
  · show (A.g.dn : Int) = s.cD
    exact hM.cnt.2.2
  · show CompV L _ (upd A.g.CV rest.length (MV f.fn) j)
    have hj2' : hiAt (true :: s.high.drop 1) j = true := hj2
    rw [hat j hj] at hj2'
    by_cases e : j = rest.length
    · subst e
      rw [upd_same]
      show CompV L (F (frAt s.fr rest.length).fn) (MV f.fn)
      rw [e0]
      exact h.md f.fn hfn hmd
    · rw [if_neg e] at hj2'
      rw [upd_other _ _ _ _ e]
      exact h.fc j hj hj2'
end Go.Proofs.YtkafkipjedpohaaGreatDoor

/-
  The project's machine: enter, the walk.
-/
namespace Go.Proofs.YtkafkipjedpohaaGreatDoor
open Go.RowKit

theorem RGo.below {w w1 w' : World} {B mb m : Nat} {F : Nat → PF} {MV : Nat → Value} {A : AdM} {s' : Mc} {en : Int} {L : Bxs} {E : List Ev} (hb : Below w.heap.size w w1) (h : RGo w1 B mb m F MV A s' en L E w') : RGo w B mb m F MV A s' en L E w' := by
  obtain ⟨A', h1, h2, h3, h4⟩ := h
  exact ⟨A', h1, h2, (Ch.of_below hb).trans h3, h4⟩

set_option maxRecDepth 100000 in
set_option maxHeartbeats 2000000 in
theorem enterM {w : World} {B mb m : Nat} {F : Nat → PF} {K : Nat → Nat → Bool} {H : Nat → Nat → Int} {MV : Nat → Value} {A : AdM} {s : Mc} {en : Int} {L : Bxs} {E : List Ev} (h : RSt w B mb m F MV A s en L E) (hF : Fine m F K H) {f : Fr} {rest : List Fr} (hs : s.fr = f :: rest) (hfn : f.fn < m) (hpc : f.pc < (F f.fn).cn) (hu : s.cU ≤ 1000000) (n : Int) :
    Calls Tryz.prog 117 #[ptr mb, ptr (A.FB rest.length)] w fun e w' => e = .returned (.tuple #[]) ∧ RGo w B mb m F MV A (comesP F 3 n s) en L E w' := by
  have hff := hF.fn f.fn hfn
  obtain ⟨vb, vcap, hmv, hvB, hvz, hvt, hvc⟩ := h.st.made.form (by omega)
  have x2 : w.cell? ⟨mb, 2, none⟩ = some (.slice (some ⟨vb, 0, none⟩) m vcap) := by rw [cell_heap h.st.lay.run, ← hmv]; rfl
  have hrow := h.st.made
  rw [hmv] at hrow
  have xv := hrow.cell (i := f.fn) (by omega)
  have hmd := h.st.mds f.fn hfn
  obtain ⟨t4, tne, t1, _, t0, _, tz⟩ := h.st.top hs
  have hg := h.st.gear hs
  have heq := fun X => codeEql hg X
  have hnq := fun X => codeNil hmd X
  obtain ⟨p4, n4, c4, hsl4⟩ := codeSlc hg
  obtain ⟨p0, n0, c0, hsl0⟩ := codeSlc hmd
  obtain ⟨pb, po, pc, cb, co, cc, y0, y2, hcap, hcbB, hcode⟩ := h.code hfn hff.cn.1
  have x9 : w.cell? ⟨mb, 9, none⟩ = some (.int .i64 s.cU) := by rw [cell_heap h.st.lay.run, ← h.st.cnt.2.1]; rfl
  have z9 : w.frozen? ⟨mb, 9, none⟩ = false := frozen_heap h.st.lay.run
  have hlen : s.fr.length = rest.length + 1 := by rw [hs]; rfl
  have z4 : w.frozen? ⟨A.FB rest.length, 4, none⟩ = false := frozen_heap (h.st.lay.fb rest.length (by omega)).1
  rw [hsl4] at t4 heq
  rw [hsl0] at xv hnq
  have hle := h.st.le
  have hmz : mb < w.heap.size := heap_lt h.st.lay.run
  have hpz : pb < w.heap.size := World.block_lt_of_cell? w _ y2
  have hcbz : cb < w.heap.size := by omega
  have hcm : comesP F 3 n s = if s.high.headD false = false ∧ s.made f.fn = true ∧ headP (F f.fn) f.pc = true then { s with high := true :: s.high.drop 1, cU := s.cU + 1 } else s := by
    unfold comesP
    rw [if_neg (by decide), if_pos rfl, hs]
  have HC := hid hcm
  have HR := hid h
  have HUp := hid (fun (w' : World) (hb : Below w.heap.size w w') (hm : s.made f.fn = true) => (show RGo w B mb m F MV A { s with high := true :: s.high.drop 1, cU := s.cU + 1 } en L E ((w'.setCell ⟨A.FB rest.length, 4, none⟩ (MV f.fn)).setCell ⟨mb, 9, none⟩ (.int .i64 ((s.cU : Int) + 1))) from RGo.below hb ((h.below hb).up hs hfn hm)))
  rw [hsl0] at HUp
  have HH := hid (fun (w' : World) (hb : Below w.heap.size w w') => heads_any w' cb co cc (F f.fn) (fun i hi => by
    obtain ⟨a, b⟩ := hcode i hi
    exact ⟨(hb.cell (p := ⟨cb, co + i * 2, none⟩) hcbz).trans a, (hb.cell (p := ⟨cb, co + i * 2 + 1, none⟩) hcbz).trans b⟩) (by have := hb.size; omega) hff.cn.2 (fun k hk ho => by
      obtain ⟨a, b⟩ := legal_jump (hff.legal k hk) ho
      exact ⟨a, b⟩))
  have HHM := hid (head_mem (F f.fn) f.pc hpc)
  have HHL := hid (Nat.le_trans (headsTo_len (F f.fn) (F f.fn).cn) hff.cn.2)
  generalize comesP F 3 n s = s' at *
  generalize hfb : A.FB rest.length = fb at *
  have HC0 := hid (fun (w' : World) (hb : Below w.heap.size w w') => (show (w'.cell? ⟨mb, 2, none⟩ = some (.slice (some ⟨vb, 0, none⟩) m vcap) ∧ w'.cell? ⟨vb, f.fn, none⟩ = some (.slice p0 n0 c0) ∧ w'.cell? ⟨fb, 0, none⟩ = some (.int .i64 f.fn)) ∧ w'.cell? ⟨fb, 4, none⟩ = some (.slice p4 n4 c4) ∧ w'.cell? ⟨fb, 1, none⟩ = some (.int .i64 f.pc) ∧ w'.cell? ⟨mb, 0, none⟩ = some (.slice (some ⟨pb, po, none⟩) m pc) ∧ w'.cell? ⟨pb, po + f.fn * 3 + 2, none⟩ = some (.slice (some ⟨cb, co, none⟩) (F f.fn).cn cc) from
    ⟨⟨(hb.cell (p := ⟨mb, 2, none⟩) hmz).trans x2, (hb.cell (p := ⟨vb, f.fn, none⟩) hvz).trans xv, (hb.cell (p := ⟨fb, 0, none⟩) tz).trans t0⟩, (hb.cell (p := ⟨fb, 4, none⟩) tz).trans t4, (hb.cell (p := ⟨fb, 1, none⟩) tz).trans t1, (hb.cell (p := ⟨mb, 0, none⟩) hmz).trans y0, (hb.cell (p := ⟨pb, po + f.fn * 3 + 2, none⟩) hpz).trans y2⟩))
  have HC9 := hid (fun (w' : World) (hb : Below w.heap.size w w') => (show w'.cell? ⟨mb, 9, none⟩ = some (.int .i64 s.cU) ∧ w'.frozen? ⟨mb, 9, none⟩ = false ∧ w'.frozen? ⟨fb, 4, none⟩ = false from ⟨(hb.cell (p := ⟨mb, 9, none⟩) hmz).trans x9, (hb.frozen (p := ⟨mb, 9, none⟩) hmz).trans z9, (hb.frozen (p := ⟨fb, 4, none⟩) tz).trans z4⟩))
  have i0 : (0 : Int) ≤ (f.fn : Int) := by omega
  have i1 : (f.fn : Int) < (m : Int) := by omega
  have e5 : wrap64 ((s.cU : Int) + 1) = (s.cU : Int) + 1 := by unfold wrap64; omega
  clear h hff hrow hmd hg hsl4 hsl0 hcode hcap hcm t4 t1 t0 y0 y2 x2 xv x9 z9 z4 hs hF
  generalize hhd : s.high.headD false = hi at *
  generalize hmk : s.made f.fn = mk at *
  generalize hhp : headP (F f.fn) f.pc = hp at *
  generalize hhl : headsTo (F f.fn) (F f.fn).cn = hl at *
  generalize (F f.fn).cn = cn at *
  generalize hfnl : f.fn = fnl at *
  generalize hpcl : f.pc = pcl at *
  clear hhd hmk hhp hhl hfnl hpcl
  go_enter Tryz.func117, Tryz.ntmps117
  go_wp2_with fail
  refine region_lex (Below w.heap.size w) [(false, 0), (false, 1), (false, 2), (false, 3), (false, 4), (false, 5), (false, 6), (false, 7), (false, 8), (false, 9), (false, 10)] (by kernel_rfl) (by kernel_rfl) (panic_frame _ _ _) (Below.refl _ _).drew ?_
  simp only [lexL, List.getElem?_cons_zero, List.getElem?_cons_succ]
  iterate 11 (refine lexW_free (by rfl) (by intro w' hS'; obtain ⟨⟨q0, q1, q2⟩, _⟩ := HC0.out w' hS'; clear hS'; go_simp; exact rfl) ?_; simp only [Act.put, List.setIfInBounds_toArray, List.set_cons_zero, List.set_cons_succ])
  refine lexW_done ?_
  have hb1 : Below w.heap.size w w.drew := (Below.refl _ _).drew
  have HB1 := hid hb1
  clear hb1
  generalize w.drew = w1 at *
  go_wp2_with fail
  cases hi with
  | true =>
    simp only [Bool.not_true] at heq
    refine region_lex (Below w.heap.size w) [(false, 0), (false, 1), (false, 2), (false, 3), (false, 4), (false, 5), (false, 6), (false, 7), (false, 8), (false, 9), (false, 10), (false, 11), (false, 12), (false, 13), (false, 14), (false, 15), (false, 16), (false, 17), (false, 18), (false, 19), (false, 20), (false, 21), (false, 22), (false, 23), (false, 24), (false, 25), (false, 26), (false, 27)] (by kernel_rfl) (by kernel_rfl) (panic_frame _ _ _) HB1.out.drew ?_
    simp only [lexL, List.getElem?_cons_zero, List.getElem?_cons_succ]
    iterate 6 (refine lexW_free (by rfl) (by intro w' hS'; obtain ⟨_, q4, _⟩ := HC0.out w' hS'; clear hS'; go_simp; exact rfl) ?_; simp only [Act.put, List.setIfInBounds_toArray, List.set_cons_zero, List.set_cons_succ])
    iterate 2 (refine lexW_skip (by rfl) ?_; simp only [Act.put, List.setIfInBounds_toArray, List.set_cons_zero, List.set_cons_succ])
    iterate 2 (refine lexW_free (by rfl) (by intro w' hS'; clear hS'; go_simp; exact rfl) ?_; simp only [Act.put, List.setIfInBounds_toArray, List.set_cons_zero, List.set_cons_succ])
    iterate 17 (refine lexW_skip (by rfl) ?_; simp only [Act.put, List.setIfInBounds_toArray, List.set_cons_zero, List.set_cons_succ])
    refine lexW_free (by rfl) (by intro w' hS'; clear hS'; go_simp; exact rfl) ?_
    simp only [Act.put, List.setIfInBounds_toArray, List.set_cons_zero, List.set_cons_succ]
    refine lexW_done ?_
    have HQ := hid (show RGo w B mb m F MV A s' en L E w1.drew from by
      rw [HC.out, if_neg (fun h => by cases h.1)]
      exact ⟨A, HR.out.below HB1.out.drew, SameG.refl _, Ch.of_below HB1.out.drew, fun _ => rfl⟩)
    go_wp2
    go_end0
    exact ⟨rfl, HQ.out⟩
  | false =>
    simp only [Bool.not_false] at heq
    cases mk with
    | false =>
      refine region_lex (Below w.heap.size w) [(false, 0), (false, 1), (false, 2), (false, 3), (false, 4), (false, 5), (false, 6), (false, 7), (false, 8), (false, 9), (false, 10), (false, 11), (false, 12), (false, 13), (false, 14), (false, 15), (false, 16), (false, 17), (false, 18), (false, 19), (false, 20), (false, 21), (false, 22), (false, 23), (false, 24), (false, 25), (false, 26), (false, 27)] (by kernel_rfl) (by kernel_rfl) (panic_frame _ _ _) HB1.out.drew ?_
      simp only [lexL, List.getElem?_cons_zero, List.getElem?_cons_succ]
      iterate 10 (refine lexW_free (by rfl) (by intro w' hS'; obtain ⟨_, q4, _⟩ := HC0.out w' hS'; clear hS'; go_simp; exact rfl) ?_; simp only [Act.put, List.setIfInBounds_toArray, List.set_cons_zero, List.set_cons_succ])
      iterate 17 (refine lexW_skip (by rfl) ?_; simp only [Act.put, List.setIfInBounds_toArray, List.set_cons_zero, List.set_cons_succ])
      refine lexW_free (by rfl) (by intro w' hS'; clear hS'; go_simp; exact rfl) ?_
      simp only [Act.put, List.setIfInBounds_toArray, List.set_cons_zero, List.set_cons_succ]
      refine lexW_done ?_
      have HQ := hid (show RGo w B mb m F MV A s' en L E w1.drew from by
        rw [HC.out, if_neg (fun h => by cases h.2.1)]
        exact ⟨A, HR.out.below HB1.out.drew, SameG.refl _, Ch.of_below HB1.out.drew, fun _ => rfl⟩)
      go_wp2
      go_end0
      exact ⟨rfl, HQ.out⟩
    | true =>
      refine region_lex (Below w.heap.size w) [(false, 0), (false, 1), (false, 2), (false, 3), (false, 4), (false, 5), (false, 6), (false, 7), (false, 8), (false, 9), (false, 10), (false, 11), (false, 12), (false, 13), (false, 14), (false, 15), (false, 16), (false, 17), (false, 18), (false, 19), (false, 20), (false, 22), (false, 23), (false, 24), (false, 25), (true, 21), (true, 26), (false, 27)] (by kernel_rfl) (by kernel_rfl) (panic_frame _ _ _) HB1.out.drew ?_
      simp only [lexL, List.getElem?_cons_zero, List.getElem?_cons_succ]
      iterate 25 (refine lexW_free (by rfl) (by intro w' hS'; obtain ⟨⟨_, _, q2⟩, q4, q5, q6, q7⟩ := HC0.out w' hS'; clear hS'; go_simp; exact rfl) ?_; simp only [Act.put, List.setIfInBounds_toArray, List.set_cons_zero, List.set_cons_succ])
      have HB2 := hid HB1.out.drew
      generalize w1.drew = w2 at *
      refine lexW_sole (fun K hK => ?_)
      go_simp
      refine (HH.out w2 HB2.out).mono ?_
      rintro e w3 ⟨v, rfl, hrw, hb3⟩
      have HB3 := hid (HB2.out.trans (hb3.mono HB2.out.size))
      have HRW := hid hrw
      refine hK.out _ _ HB3.out ?_
      clear hK K hrw hb3 HH
      refine lexW_sole (fun K hK => ?_)
      obtain ⟨pv3, cv3, hv3⟩ : ∃ p c, v = .slice p hl.length c := by
        rcases HRW.out with ⟨h1, h2⟩ | ⟨b, cap, cur, h1, _⟩
        · exact ⟨none, 0, by rw [h1, h2]⟩
        · exact ⟨_, _, h1⟩
      subst hv3
      go_simp
      refine (containsM w3 _ _ hl pcl HRW.out (by have := HHL.out; omega)).mono ?_
      rintro e w4 ⟨rfl, hw4⟩
      rw [hw4]
      clear hw4 w4
      have hdm := HHM.out
      rw [hdm]
      refine hK.out _ _ HB3.out ?_
      clear hK K hdm
      refine lexW_free (by rfl) (by intro w' hS'; clear hS'; go_simp; exact rfl) ?_
      simp only [Act.put, List.setIfInBounds_toArray, List.set_cons_zero, List.set_cons_succ]
      refine lexW_done ?_
      cases hp with
      | false =>
        have HQ := hid (show RGo w B mb m F MV A s' en L E w3 from by
          rw [HC.out, if_neg (fun h => by cases h.2.2)]
          exact ⟨A, HR.out.below HB3.out, SameG.refl _, Ch.of_below HB3.out, fun _ => rfl⟩)
        go_wp2
        go_end0
        exact ⟨rfl, HQ.out⟩
      | true =>
        have HQ := hid (show RGo w B mb m F MV A s' en L E ((w3.setCell ⟨fb, 4, none⟩ (.slice p0 n0 c0)).setCell ⟨mb, 9, none⟩ (.int .i64 ((s.cU : Int) + 1))) from by
          rw [HC.out, if_pos ⟨rfl, rfl, rfl⟩]
          exact HUp.out w3 HB3.out rfl)
        obtain ⟨r9, r9z, r4z⟩ := HC9.out w3 HB3.out
        obtain ⟨_, r4, _⟩ := HC0.out w3 HB3.out
        go_wp2
        go_end0
        exact ⟨rfl, HQ.out⟩
end Go.Proofs.YtkafkipjedpohaaGreatDoor

/-
  The project's machine: come.
-/
namespace Go.Proofs.YtkafkipjedpohaaGreatDoor
open Go.RowKit

theorem ComeE.below {w w1 w' : World} {B mb m : Nat} {F : Nat → PF} {A : AdM} {s' : Mc} {en : Int} {L : Bxs} {E : List Ev} (hb : Below w.heap.size w w1) (h : ComeE w1 B mb m F A s' en L E w') : ComeE w B mb m F A s' en L E w' := by
  obtain ⟨A', MV', L', h1, h2, h3, h4, h5⟩ := h
  exact ⟨A', MV', L', h1, h2, (Ch.of_below hb).trans h3, h4, h5⟩

set_option maxRecDepth 100000 in
set_option maxHeartbeats 1000000 in
theorem comeM {w : World} {B mb m : Nat} {F : Nat → PF} {K : Nat → Nat → Bool} {H : Nat → Nat → Int} {MV : Nat → Value} {A : AdM} {s : Mc} {en : Int} {L : Bxs} {E : List Ev} (h : RSt w B mb m F MV A s en L E) (hF : Fine m F K H) (hI : Inv m F K H s) (hd : s.cD ≤ 900000) (hu : s.cU ≤ 900000) (ev : Ev) (hok : EvOk m ev) :
    Calls Tryz.prog 102 #[ptr mb, .agg #[.int .i64 ev.st, .int .i64 ev.k, .int .i64 ev.n]] w fun e w' => e = .returned (.tuple #[]) ∧ ComeE w B mb m F A (comesP F ev.k ev.n s) en L E w' := by
  obtain ⟨f, rest, hs, hf, _, hr24⟩ := hI.top
  have hlen : s.fr.length = rest.length + 1 := by rw [hs]; rfl
  have hbl : Below w.heap.size w (w.alloc (.cells #[.int .i64 ev.st, .int .i64 ev.k, .int .i64 ev.n] 65)) := (Below.refl _ _).alloc (Nat.le_refl _) _
  have hR := h.below hbl
  obtain ⟨st, k, n⟩ := ev
  obtain ⟨_, hk, hn⟩ := hok
  simp only at hk hn hbl hR ⊢
  have hdn : ∀ (kd : Int) (w' : World), ComeE (w.alloc (.cells #[.int .i64 st, .int .i64 kd, .int .i64 n] 65)) B mb m F A (comesP F kd n s) en L E w' → k = kd → ComeE w B mb m F A (comesP F k n s) en L E w' := fun kd w' hc e => by
    subst e
    exact ComeE.below hbl hc
  have HD := hid hdn
  clear hdn
  rcases hk with rfl | rfl | rfl | rfl
  · obtain ⟨fn, rfl⟩ : ∃ fn : Nat, n = fn := ⟨n.toNat, by have := hn (by decide); omega⟩
    have HT := hid (compileM hR hF fn (by have := hn (by decide); omega))
    clear h hR hF hI hf hs hbl hn
    go_enter Tryz.func102, Tryz.ntmps102
    go_wp2_with fail
    refine HT.out.mono ?_
    rintro e w1 ⟨rfl, h1⟩
    have HQ := hid (HD.out 1 w1 h1 rfl)
    clear h1 HT HD
    go_wp2
    go_end0
    exact ⟨rfl, HQ.out⟩
  · obtain ⟨fn, rfl⟩ : ∃ fn : Nat, n = fn := ⟨n.toNat, by have := hn (by decide); omega⟩
    have HT := hid (dropM hR (by omega) (by omega) hd fn (by have := hn (by decide); omega))
    clear h hR hF hI hf hs hbl hn
    go_enter Tryz.func102, Tryz.ntmps102
    go_wp2_with fail
    refine HT.out.mono ?_
    rintro e w1 ⟨rfl, h1⟩
    have HQ := hid (HD.out 2 w1 h1 rfl)
    clear h1 HT HD
    go_wp2
    go_end0
    exact ⟨rfl, HQ.out⟩
  · have hfrow := hR.st.lay.fr
    rw [hlen] at hfrow
    obtain ⟨gb, gcap, hgv, _, _, _, _⟩ := hfrow.form (by omega)
    rw [hgv] at hfrow
    have x3 : (w.alloc (.cells #[.int .i64 st, .int .i64 3, .int .i64 n] 65)).cell? ⟨mb, 3, none⟩ = some (.slice (some ⟨gb, 0, none⟩) (rest.length + 1) gcap) := by rw [cell_heap hR.st.lay.run, ← hgv]; rfl
    have q0 : (w.alloc (.cells #[.int .i64 st, .int .i64 3, .int .i64 n] 65)).cell? ⟨gb, rest.length, none⟩ = some (.pointer (some ⟨A.FB rest.length, 0, none⟩)) := hfrow.cell (i := rest.length) (by omega)
    have HTop := hid (topF _ mb 3 rest.length gb gcap _ x3 q0 (by omega))
    have HT := hid (fun (w1 : World) (hb : Below (w.alloc (.cells #[.int .i64 st, .int .i64 3, .int .i64 n] 65)).heap.size (w.alloc (.cells #[.int .i64 st, .int .i64 3, .int .i64 n] 65)) w1) => enterM (hR.below hb) hF hs hf.fn hf.pc (by omega) n)
    clear h hR hF hI hf hs hbl hn hfrow hgv x3 q0
    generalize A.FB rest.length = fb at *
    go_enter Tryz.func102, Tryz.ntmps102
    go_wp2_with fail
    generalize hWW : w.alloc (.cells #[.int .i64 st, .int .i64 3, .int .i64 n] 65) = W at *
    refine HTop.out.mono ?_
    rintro e w1 ⟨rfl, kq, hw1⟩
    have hb1 : Below W.heap.size W w1 := by rw [hw1]; exact below_drewN (Below.refl _ _) _
    have HT1 := hid (HT.out w1 hb1)
    have HB1 := hid hb1
    clear hw1 hb1 HT HTop
    go_wp2_with fail
    refine HT1.out.mono ?_
    rintro e w2 ⟨rfl, h2⟩
    have HQ := hid (HD.out 3 w2 (by rw [hWW]; exact (RGo.below HB1.out h2).come) rfl)
    clear h2 HT1 HD
    go_wp2
    go_end0
    exact ⟨rfl, HQ.out⟩
  · have HT := hid (exitM hR (by omega) (by omega) hd n)
    clear h hR hF hI hf hs hbl hn
    go_enter Tryz.func102, Tryz.ntmps102
    go_wp2_with fail
    refine HT.out.mono ?_
    rintro e w1 ⟨rfl, h1⟩
    have HQ := hid (HD.out 4 w1 h1.come rfl)
    clear h1 HT HD
    go_wp2
    go_end0
    exact ⟨rfl, HQ.out⟩
end Go.Proofs.YtkafkipjedpohaaGreatDoor
