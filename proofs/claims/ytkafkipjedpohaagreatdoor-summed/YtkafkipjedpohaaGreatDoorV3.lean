import Derived.Test.YtkafkipjedpohaaGreatDoorXl
import Derived.Test.YtkafkipjedpohaaGreatDoorM9
import Derived.Test.YtkafkipjedpohaaGreatDoorA6
import Derived.Test.YtkafkipjedpohaaGreatDoorM2
import Derived.Laws.AppendOwn

/-
  The project's machine: drop.
-/
namespace Go.Proofs.YtkafkipjedpohaaGreatDoor
open Go.RowKit

/-- What turns, but no box. -/
def No5 (d : Nat) : Prop := d ≠ 5
theorem no5_of {d : Nat} (h : N5 d) : No5 d := h.1
theorem nno5 : ¬ No5 5 := fun h => h rfl

/-- What an event leaves. -/
def ComeE (w : World) (B mb m : Nat) (F : Nat → PF) (A : AdM) (s' : Mc) (en : Int) (L : Bxs) (E : List Ev) (w' : World) : Prop :=
  ∃ (A' : AdM) (MV' : Nat → Value) (L' : Bxs), RSt w' B mb m F MV' A' s' en L' E ∧ SameG A A' ∧ Ch B No5 A.tag A'.tag w w' ∧ (∀ t, t ∈ L → t ∈ L') ∧ ∀ i, A'.FB i = A.FB i
theorem RGo.come {w w' : World} {B mb m : Nat} {F : Nat → PF} {MV : Nat → Value} {A : AdM} {s' : Mc} {en : Int} {L : Bxs} {E : List Ev} (h : RGo w B mb m F MV A s' en L E w') : ComeE w B mb m F A s' en L E w' := by
  obtain ⟨A', h1, h2, h3, h4⟩ := h
  exact ⟨A', MV, L, h1, h2, h3.mono (fun _ => no5_of), fun t ht => ht, h4⟩

/-- What is made of a function is set. -/
theorem RSt.setMade {w : World} {B mb m : Nat} {F : Nat → PF} {MV : Nat → Value} {A : AdM} {s : Mc} {en : Int} {L : Bxs} {E : List Ev} (h : RSt w B mb m F MV A s en L E) {vb vcap fn : Nat} (hfn : fn < m) (hmv : A.g.mv = .slice (some ⟨vb, 0, none⟩) m vcap) (v : Value) (b : Bool) (hv : CodeV v b) (hc : b = true → CompV L (F fn) v) :
    RSt (w.setCell ⟨vb, fn, none⟩ v) B mb m F (upd MV fn v) A { s with made := upd s.made fn b } en L E ∧ Ch B (fun d => d = 6) A.tag A.tag w (w.setCell ⟨vb, fn, none⟩ v) := by
  have hM := h.st
  have hrow := hM.made
  obtain ⟨vb', vcap', hmv', hvB, _, hvt, _⟩ := hrow.form (by omega)
  rw [hmv] at hmv' hrow
  injection hmv' with e1 _ e2
  injection e1 with e1
  injection e1 with e1 _
  subst e1 e2
  have hch : Ch B (fun d => d = 6) A.tag A.tag w (w.setCell ⟨vb, fn, none⟩ v) := Ch.set w _ _ _ hvB hvt
  have hl2 : LayM (w.setCell ⟨vb, fn, none⟩ v) B mb A s en := by
    have h := hM.lay
    obtain ⟨r1, r2⟩ := blk_keep h.run hch (by rw [h.own.2]; omega)
    refine ⟨r1, h.own, h.fr.keep hch (by omega), fun j hj => ?_, h.ar.keep hch (by omega), h.out.keep hch (by omega), fun j hj => (h.loc j hj).keep hch (by omega), fun j hj => (h.stk j hj).keep hch (by omega), fun j hj => (h.arr j hj).keep hch (by omega)⟩
    obtain ⟨k1, k2, k3⟩ := h.fb j hj
    exact ⟨(blk_keep k1 hch (by rw [k3]; omega)).1, k2, k3⟩
  refine ⟨⟨⟨hl2.like rfl rfl rfl rfl rfl, hM.hl, hM.cod, hM.cnt, ?_, fun k hk => ?_, hM.pg.below (hch.below hM.le), by have := hch.size; have := hM.le; omega⟩, h.bx.keep hch (by omega), fun k hk hk2 => ?_, h.fc, h.ev.below (hch.below hM.le), h.cp.below (hch.below hM.le)⟩, hch⟩
  · rw [hmv]
    exact hrow.set fn v
  · show CodeV (upd MV fn v k) (upd s.made fn b k)
    by_cases e : k = fn
    · subst e
      rw [upd_same, upd_same]
      exact hv
    · rw [upd_other _ _ _ _ e, upd_other _ _ _ _ e]
      exact hM.mds k hk
  · show CompV L (F k) (upd MV fn v k)
    have hk2' : upd s.made fn b k = true := hk2
    by_cases e : k = fn
    · subst e
      rw [upd_same] at hk2' ⊢
      exact hc hk2'
    · rw [upd_other _ _ _ _ e] at hk2' ⊢
      exact h.md k hk hk2'

set_option maxRecDepth 100000 in
set_option maxHeartbeats 1000000 in
theorem dropM {w : World} {B mb m : Nat} {F : Nat → PF} {MV : Nat → Value} {A : AdM} {s : Mc} {en : Int} {L : Bxs} {E : List Ev} (h : RSt w B mb m F MV A s en L E) (hne : 1 ≤ s.fr.length) (hfl : s.fr.length ≤ 100) (hd : s.cD ≤ 900000) (fn : Nat) (hfn : fn < m) :
    Calls Tryz.prog 116 #[ptr mb, .int .i64 fn] w fun e w' => e = .returned (.tuple #[]) ∧ ComeE w B mb m F A (comesP F 2 fn s) en L E w' := by
  obtain ⟨vb, vcap, hmv, hvB, hvz, hvt, hvc⟩ := h.st.made.form (by omega)
  obtain ⟨h1, c1⟩ := h.setMade hfn hmv (.slice none 0 0) false (Or.inl ⟨rfl, rfl⟩) (fun e => by cases e)
  have x2 : w.cell? ⟨mb, 2, none⟩ = some (.slice (some ⟨vb, 0, none⟩) m vcap) := by rw [cell_heap h.st.lay.run, ← hmv]; rfl
  have hrow := h.st.made
  rw [hmv] at hrow
  have xv := hrow.cell (i := fn) (by omega)
  have zv := hrow.frozen fn
  obtain ⟨p0, n0, c0, hsl⟩ := codeSlc (h.st.mds fn hfn)
  rw [hsl] at xv
  have hmb : ¬ mb = vb := fun e => by have := h.st.lay.own.2; rw [e, hvt] at this; omega
  have x3 : (w.setCell ⟨vb, fn, none⟩ (.slice none 0 0)).cell? ⟨mb, 3, none⟩ = some A.fv := (cell_heap h1.st.lay.run).trans rfl
  have HL := hid (listF (w.setCell ⟨vb, fn, none⟩ (.slice none 0 0)) mb 3 B A.tag 1 A.fv s.fr.length A.FB x3 h1.st.lay.fr (by omega))
  have hcm : comesP F 2 fn s = { s with high := lowTo false fn s.fr s.high s.fr.length, cD := s.cD + lowCnt false fn s.fr s.high s.fr.length, made := upd s.made fn false } := by
    unfold comesP
    rw [if_neg (by decide), if_neg (by decide)]
    show ({ s with high := (downs false fn s.fr s.high).1, cD := s.cD + (downs false fn s.fr s.high).2, made := upd s.made (fn : Int).toNat false } : Mc) = _
    rw [downs_is false fn s.fr s.high h.st.hl]
    rfl
  have HC := hid hcm
  generalize comesP F 2 fn s = s' at *
  have HR := hid (And.intro h1 c1)
  have HFR := hid (show ∀ j, j < s.fr.length → ∀ wr A', RSt wr B mb m F (upd MV fn (.slice none 0 0)) A' { s with high := lowTo false fn s.fr s.high j, cD := s.cD + lowCnt false fn s.fr s.high j, made := upd s.made fn false } en L E → (∀ i, A'.FB i = A.FB i) → wr.cell? ⟨A.FB j, 0, none⟩ = some (.int .i64 (frAt s.fr j).fn) from fun j hj wr A' hr hf => by
    obtain ⟨g1, _, _⟩ := hr.st.lay.fb j hj
    rw [hf] at g1
    exact (cell_heap g1).trans rfl)
  have i0 : (0 : Int) ≤ (fn : Int) := by omega
  have i1 : (fn : Int) < (m : Int) := by omega
  clear h h1 c1 hcm hrow hsl x3
  generalize hfl' : s.fr.length = fl at *
  have HFN := hid hfl'
  clear hfl'
  go_enter Tryz.func116, Tryz.ntmps116
  go_wp2_with fail
  clear x2 xv zv
  generalize hW : w.setCell ⟨vb, fn, none⟩ (.slice none 0 0) = W at *
  refine HL.out.mono ?_
  rintro e w1 ⟨v, rfl, hb, ho⟩
  have HN : Hid (({ s with made := upd s.made fn false } : Mc).fr.length = fl) := HFN
  rw [← HN.out] at ho
  obtain ⟨lb, cap, cur, hv, hcur, hI⟩ := low_start HR.out.1 (by rw [HN.out]; exact hne) hb ho false fn
  rw [HN.out] at hv hcur
  subst hv
  have HI := hid (And.intro hcur hI)
  clear hcur hI ho hb HL
  go_wp2
  go_loopw [17] (fun v wr => ∃ j : Nat, j ≤ fl ∧ v = .int .i64 j ∧ LowAt W B mb m F (upd MV fn (.slice none 0 0)) A { s with made := upd s.made fn false } en L E false fn lb cur j wr) (fun v _ => fl - (intOf v).toNat)
  case atStart => exact ⟨0, by omega, rfl, HI.out.2⟩
  case round =>
    obtain ⟨j, hj, rfl, hI⟩ := hrel
    by_cases hlt : j < fl
    · have hdec : decide ((j : Int) < (fl : Int)) = true := by simp; omega
      have y0 : wr.cell? ⟨lb, j, none⟩ = some (.pointer (some ⟨A.FB j, 0, none⟩)) ∧ wr.cell? ⟨A.FB j, 0, none⟩ = some (.int .i64 (frAt s.fr j).fn) := by
        obtain ⟨A', h1, _, _, h4, h5, _⟩ := hI
        exact ⟨(cell_heap h5).trans (HI.out.1 j hlt), HFR.out j hlt wr A' h1 h4⟩
      obtain ⟨y0, y1⟩ := y0
      have i2 : (0 : Int) ≤ (j : Int) := by omega
      have i3 : (j : Int) < (fl : Int) := by omega
      by_cases hgd : ((frAt s.fr j).fn : Int) = (fn : Int)
      · have HT := hid (hI.next (by rw [HN.out]; exact hlt) (by show s.cD + _ ≤ _; rw [HN.out]; omega) (by show goesDown false fn (frAt s.fr j) = true; simp [goesDown]; omega))
        have e1 : (((frAt s.fr j).fn : Int) == (fn : Int)) = true := by simpa using hgd
        clear hI hgd
        generalize A.FB j = fbj at *
        go_wp2_with fail
        refine HT.out.mono ?_
        rintro e w2 ⟨rfl, h2⟩
        have HQ := hid h2
        clear h2 HT y0 y1
        go_wp2
        exact ⟨⟨j + 1, by omega, by go_num, HQ.out⟩, by simp [intOf]; omega⟩
      · have hsk := lowTo_skip (all := false) (n := (fn : Int)) (fr := s.fr) (hs := s.high) (j := j) (by simp [goesDown]; omega)
        have HQ := hid (show LowAt W B mb m F (upd MV fn (.slice none 0 0)) A { s with made := upd s.made fn false } en L E false fn lb cur (j + 1) wr from by
          obtain ⟨A', h1, h2, h3, h4, h5, h6⟩ := hI
          refine ⟨A', ?_, h2, h3, h4, h5, h6⟩
          show RSt wr B mb m F _ A' { s with high := lowTo false fn s.fr s.high (j + 1), cD := s.cD + lowCnt false fn s.fr s.high (j + 1), made := upd s.made fn false } en L E
          rw [hsk.1, hsk.2]
          exact h1)
        have e1 : (((frAt s.fr j).fn : Int) == (fn : Int)) = false := by simpa using hgd
        clear hI hgd hsk
        generalize A.FB j = fbj at *
        go_wp2
        exact ⟨⟨j + 1, by omega, by go_num, HQ.out⟩, by simp [intOf]; omega⟩
    · have hdec : decide ((j : Int) < (fl : Int)) = false := by simp; omega
      obtain rfl : j = fl := by omega
      have HQ := hid (show ComeE w B mb m F A s' en L E wr from by
        obtain ⟨A', h1, h2, h3, h4, _, _⟩ := hI
        rw [HC.out]
        exact ⟨A', _, L, h1, h2, (HR.out.2.mono (q := No5) (fun d hd => by unfold No5; omega)).trans (h3.mono (fun _ => no5_of)), fun t ht => ht, h4⟩)
      clear hI
      go_wp2
      go_end0
      exact ⟨rfl, HQ.out⟩
end Go.Proofs.YtkafkipjedpohaaGreatDoor

/-
  The project's machine: compile.
-/
namespace Go.Proofs.YtkafkipjedpohaaGreatDoor
open Go.RowKit

theorem codeEql {v : Value} {b : Bool} (h : CodeV v b) (X : World) : (binOp .eql 136 v (.slice none 0 0)).run Tryz.prog X = .ok (.bool (!b)) X := by
  rcases h with ⟨rfl, rfl⟩ | ⟨rfl, a, n, c, rfl⟩
  · exact Lib.run_eql_slice_nil (P := Tryz.prog) X 136 183 none 0 0 0 0 Tryz.underlying136
  · exact Lib.run_eql_slice_nil (P := Tryz.prog) X 136 183 (some a) n c 0 0 Tryz.underlying136

/-- The code of a function, as it is read. -/
theorem RSt.code {w : World} {B mb m : Nat} {F : Nat → PF} {MV : Nat → Value} {A : AdM} {s : Mc} {en : Int} {L : Bxs} {E : List Ev} (h : RSt w B mb m F MV A s en L E) {fn : Nat} (hfn : fn < m) (hcn : 1 ≤ (F fn).cn) :
    ∃ pb po pc cb co cc, w.cell? ⟨mb, 0, none⟩ = some (.slice (some ⟨pb, po, none⟩) m pc) ∧ w.cell? ⟨pb, po + fn * 3 + 2, none⟩ = some (.slice (some ⟨cb, co, none⟩) (F fn).cn cc) ∧ (F fn).cn ≤ cc ∧ cb < B ∧ CodeAt w cb co (F fn).cn (F fn).op (F fn).ar := by
  obtain ⟨pb, po, pc, CA, CC, hpv, hPA, hpb, hcbs⟩ := h.st.pg.at_
  obtain ⟨pb', po', pc', hpv', _, hcp⟩ := h.cp
  rw [hpv] at hpv'
  injection hpv' with e1 _ e2
  injection e1 with e1
  injection e1 with e1 e3
  subst e1 e2 e3
  have s2 := (hPA.fn fn hfn).slice
  obtain ⟨cb, co, hca, hcb, hcode⟩ := (hPA.fn fn hfn).code hcn
  rw [hca] at s2
  obtain ⟨ca, cc, h4, h5⟩ := hcp fn hfn
  rw [s2] at h4
  injection h4 with h4
  injection h4 with _ _ h6
  subst h6
  exact ⟨pb, po, pc, cb, co, _, by rw [cell_heap h.st.lay.run, ← hpv]; rfl, s2, h5, hcbs fn hfn cb co hca hcn, hcode⟩

/-- More boxes: code that is new. -/
theorem RSt.more {w w' : World} {B mb m : Nat} {F : Nat → PF} {MV : Nat → Value} {A : AdM} {s : Mc} {en : Int} {L L2 : Bxs} {E : List Ev} (h : RSt w B mb m F MV A s en L E) (hb : Below w.heap.size w w') (hL : Hb L2 w') (hB : ∀ t, t ∈ L2 → w.heap.size ≤ t.1) :
    ∃ A' : AdM, RSt w' B mb m F MV A' s en (L ++ L2) E ∧ A'.g = A.g ∧ Ch B (fun _ => False) A.tag A'.tag w w' := by
  have hk : Ch B (fun _ => False) A.tag (fun b => if b < w.heap.size then A.tag b else 5) w w' := Ch.of_tags hb (fun b hb => if_pos hb)
  have h1 := h.keep hk
  refine ⟨_, ⟨h1.st, fun t ht => ?_, fun k hk hk2 => (h1.md k hk hk2).mono (fun t ht => List.mem_append.2 (Or.inl ht)), fun i hi hi2 => (h1.fc i hi hi2).mono (fun t ht => List.mem_append.2 (Or.inl ht)), h1.ev, h1.cp⟩, rfl, hk⟩
  rcases List.mem_append.1 ht with ht | ht
  · exact h1.bx t ht
  · exact ⟨hL t ht, if_neg (by have := hB t ht; omega)⟩

set_option maxRecDepth 100000 in
set_option maxHeartbeats 1000000 in
theorem compileM {w : World} {B mb m : Nat} {F : Nat → PF} {K : Nat → Nat → Bool} {H : Nat → Nat → Int} {MV : Nat → Value} {A : AdM} {s : Mc} {en : Int} {L : Bxs} {E : List Ev} (h : RSt w B mb m F MV A s en L E) (hF : Fine m F K H) (fn : Nat) (hfn : fn < m) :
    Calls Tryz.prog 115 #[ptr mb, .int .i64 fn] w fun e w' => e = .returned (.tuple #[]) ∧ ComeE w B mb m F A (comesP F 1 fn s) en L E w' := by
  obtain ⟨vb, vcap, hmv, hvB, hvz, hvt, hvc⟩ := h.st.made.form (by omega)
  have x2 : w.cell? ⟨mb, 2, none⟩ = some (.slice (some ⟨vb, 0, none⟩) m vcap) := by rw [cell_heap h.st.lay.run, ← hmv]; rfl
  have hrow := h.st.made
  rw [hmv] at hrow
  have xv := hrow.cell (i := fn) (by omega)
  have zv := hrow.frozen fn
  have hmd := h.st.mds fn hfn
  have heq := fun X => codeEql hmd X
  obtain ⟨p0, n0, c0, hsl⟩ := codeSlc hmd
  rw [hsl] at xv heq
  have i0 : (0 : Int) ≤ (fn : Int) := by omega
  have i1 : (fn : Int) < (m : Int) := by omega
  have hff := hF.fn fn hfn
  have hcm : comesP F 1 fn s = { s with made := upd s.made fn true } := by
    unfold comesP
    rw [if_pos rfl]
    rfl
  have HC := hid hcm
  generalize comesP F 1 fn s = s' at *
  cases hb : s.made fn with
  | true =>
    rw [hb] at heq
    have HQ := hid (show ComeE w B mb m F A s' en L E w from by
      have e : upd s.made fn true = s.made := by
        funext k
        by_cases e : k = fn
        · rw [e, upd_same, hb]
        · exact upd_other _ _ _ _ e
      rw [HC.out, e]
      exact ⟨A, MV, L, h, SameG.refl _, Ch.refl _ _ _ _, fun t ht => ht, fun _ => rfl⟩)
    simp only [Bool.not_true] at heq
    clear h hmd hsl hrow hff hcm
    go_enter Tryz.func115, Tryz.ntmps115
    go_wp2
    go_end0
    exact ⟨rfl, HQ.out⟩
  | false =>
    rw [hb] at heq
    simp only [Bool.not_false] at heq
    obtain ⟨pb, po, pc, cb, co, cc, y0, y2, hcap, hcbB, hcode⟩ := h.code hfn hff.cn.1
    have hle := h.st.le
    have HCD := hid (And.intro hcode (And.intro hcbB (And.intro hcap hff)))
    have HR := hid h
    have HMV := hid (And.intro hmv hvt)
    have hmz : mb < w.heap.size := heap_lt h.st.lay.run
    have hpz : pb < w.heap.size := World.block_lt_of_cell? w _ y2
    have hmb : ¬ mb = vb := fun e => by have := h.st.lay.own.2; rw [e, hvt] at this; omega
    have HC0 := hid (fun (w' : World) (hb : Below w.heap.size w w') => (show w'.cell? ⟨mb, 2, none⟩ = some (.slice (some ⟨vb, 0, none⟩) m vcap) ∧ w'.cell? ⟨mb, 0, none⟩ = some (.slice (some ⟨pb, po, none⟩) m pc) ∧ w'.cell? ⟨pb, po + fn * 3 + 2, none⟩ = some (.slice (some ⟨cb, co, none⟩) (F fn).cn cc) from ⟨(hb.cell (p := ⟨mb, 2, none⟩) hmz).trans x2, (hb.cell (p := ⟨mb, 0, none⟩) hmz).trans y0, (hb.cell (p := ⟨pb, po + fn * 3 + 2, none⟩) hpz).trans y2⟩))
    clear h hmd hsl hrow hff hcm hmv hvt hcode hcap
    generalize hcn : (F fn).cn = cn at *
    have HCN := hid hcn
    clear hcn
    go_enter Tryz.func115, Tryz.ntmps115
    go_wp2_with fail
    clear heq
    refine region_lex (fun w' => w'.cell? ⟨mb, 2, none⟩ = some (.slice (some ⟨vb, 0, none⟩) m vcap) ∧ w'.cell? ⟨mb, 0, none⟩ = some (.slice (some ⟨pb, po, none⟩) m pc) ∧ w'.cell? ⟨pb, po + fn * 3 + 2, none⟩ = some (.slice (some ⟨cb, co, none⟩) cn cc)) [(false, 0), (false, 1), (false, 2), (false, 3), (false, 4), (false, 5), (false, 6), (false, 7), (false, 8), (false, 9), (false, 10), (false, 11), (false, 12), (true, 13), (true, 14), (true, 15)] (by kernel_rfl) (by kernel_rfl) (panic_body _ _) (HC0.out _ (Below.refl _ _).drew) ?_
    simp only [lexL, List.getElem?_cons_zero, List.getElem?_cons_succ]
    iterate 13 (refine lexW_free (by rfl) (by intro w' hS'; obtain ⟨q0, q1, q2⟩ := hS'; go_simp; exact rfl) ?_; simp only [Act.put, List.setIfInBounds_toArray, List.set_cons_zero, List.set_cons_succ])
    have HD := hid ((Below.refl w.heap.size w).drew)
    have hzd : w.drew.heap.size = w.heap.size := rfl
    generalize w.drew = wd at *
    have hcon := compiledM wd cb co cc cn (F fn) m HCN.out (fun i hi => by
      obtain ⟨a, b⟩ := HCD.out.1 i hi
      exact ⟨(HD.out.cell (p := ⟨cb, co + i * 2, none⟩) (by show cb < _; omega)).trans a, (HD.out.cell (p := ⟨cb, co + i * 2 + 1, none⟩) (by show cb < _; omega)).trans b⟩) (by rw [hzd]; omega) (by have := HCD.out.2.2.2.cn; rw [HCN.out] at this; omega) (by have := HCD.out.2.2.1; omega) HCD.out.2.2.2.legal
    have HT := hid hcon
    clear hcon
    refine lexW_sole (fun K hK => ?_)
    go_simp
    refine HT.out.mono ?_
    rintro e w3 ⟨v, L2, rfl, hcv, hL2, hB2, hbl⟩
    have hbw : Below w.heap.size w w3 := HD.out.trans (by rw [hzd] at hbl; exact hbl)
    rw [hzd] at hB2
    obtain ⟨A3, r3, g3, c3⟩ := HR.out.more hbw hL2 hB2
    have H3 := hid (And.intro r3 (And.intro g3 (And.intro c3 hcv)))
    refine hK.out _ _ (HC0.out w3 hbw) ?_
    clear hK K hcv hL2 hB2 hbl r3 g3 c3 HT
    refine lexW_sole (fun K hK => ?_)
    obtain ⟨q2, _, _⟩ := HC0.out w3 hbw
    go_simp
    refine hK.out _ _ (HC0.out w3 hbw) ?_
    clear hK K q2
    obtain ⟨vb3, vcap3, arr3, hv3, _, _⟩ := H3.out.2.2.2
    have hmv3 : A3.g.mv = .slice (some ⟨vb, 0, none⟩) m vcap := by rw [H3.out.2.1]; exact HMV.out.1
    have hrow3 := H3.out.1.st.made
    rw [hmv3] at hrow3
    have xv3 := hrow3.cell (i := fn) (by omega)
    have zv3 := hrow3.frozen fn
    obtain ⟨p1, n1, c1, hsl1⟩ := codeSlc (H3.out.1.st.mds fn hfn)
    rw [hsl1] at xv3
    obtain ⟨h5, c5⟩ := H3.out.1.setMade hfn hmv3 v true (Or.inr ⟨rfl, ⟨vb3, 0, none⟩, _, vcap3, hv3⟩) (fun _ => H3.out.2.2.2.mono (fun t ht => List.mem_append.2 (Or.inr ht)))
    have HQ := hid (show ComeE w B mb m F A s' en L E (w3.setCell ⟨vb, fn, none⟩ v) from by
      rw [HC.out]
      refine ⟨A3, _, _, h5, SameG.of H3.out.2.1, (H3.out.2.2.1.mono (q := No5) (fun _ h => h.elim)).trans (c5.mono (q := No5) (fun d hd => by unfold No5; omega)), fun t ht => List.mem_append.2 (Or.inl ht), fun i => fb_of H3.out.2.1 i⟩)
    have hne2 : ¬ vb = mb := fun e => hmb e.symm
    have hnp : ¬ vb = pb := by
      have hpbB : pb < B := by
        obtain ⟨pb', po', pc', hpv', hpl, _⟩ := H3.out.1.cp
        have e2 : w3.cell? ⟨mb, 0, none⟩ = some A3.g.pv := (cell_heap H3.out.1.st.lay.run).trans rfl
        rw [(HC0.out w3 hbw).2.1, hpv'] at e2
        injection e2 with e2
        injection e2 with e2 _ _
        injection e2 with e2
        injection e2 with e2 _
        omega
      omega
    have HS5 := hid (show (w3.setCell ⟨vb, fn, none⟩ v).cell? ⟨mb, 2, none⟩ = some (.slice (some ⟨vb, 0, none⟩) m vcap) ∧ (w3.setCell ⟨vb, fn, none⟩ v).cell? ⟨mb, 0, none⟩ = some (.slice (some ⟨pb, po, none⟩) m pc) ∧ (w3.setCell ⟨vb, fn, none⟩ v).cell? ⟨pb, po + fn * 3 + 2, none⟩ = some (.slice (some ⟨cb, co, none⟩) cn cc) from by
      obtain ⟨a1, a2, a3⟩ := HC0.out w3 hbw
      exact ⟨by rw [World.cell?_setCell_far _ _ _ _ hne2]; exact a1, by rw [World.cell?_setCell_far _ _ _ _ hne2]; exact a2, by rw [World.cell?_setCell_far _ _ _ _ hnp]; exact a3⟩)
    clear h5 c5 hrow3 hsl1 hmv3 H3 HC0 HR
    subst hv3
    refine lexW_sole (fun K hK => ?_)
    go_simp
    refine hK.out _ _ HS5.out ?_
    clear hK K
    refine lexW_done ?_
    go_wp2
    go_end0
    exact ⟨rfl, HQ.out⟩
end Go.Proofs.YtkafkipjedpohaaGreatDoor

/-
  upshiftref's returns.
-/
namespace Go.Proofs.YtkafkipjedpohaaGreatDoor
open Go.RowKit

/-- What upshiftref's calls that turn the frames leave of a run. -/
def AfterF (w w' : World) (B rb : Nat) (A : Ad) (s' : Mc) : Prop := ∃ A', LayA w' B rb A' s' ∧ A'.pv = A.pv ∧ Ch B Five A.tag A'.tag w w'
end Go.Proofs.YtkafkipjedpohaaGreatDoor

/-
  upshiftref's Head.
-/
namespace Go.Proofs.YtkafkipjedpohaaGreatDoor
open Go.RowKit

def jumpsTo (f : PF) (i k : Nat) : Bool := (f.op k == 10 || f.op k == 11) && f.ar k == (i : Int)
end Go.Proofs.YtkafkipjedpohaaGreatDoor

/-
  upshiftref's Headers.
-/
namespace Go.Proofs.YtkafkipjedpohaaGreatDoor
open Go.RowKit

/-- The heads of a function below an instruction. -/
def headsTo (f : PF) (k : Nat) : List Nat := (List.range k).filter (headP f)
theorem headsTo_succ (f : PF) (k : Nat) : headsTo f (k + 1) = headsTo f k ++ (if headP f k = true then [k] else []) := by
  unfold headsTo
  rw [List.range_succ, List.filter_append]
  cases h : headP f k <;> simp [h]
theorem headsTo_len (f : PF) (k : Nat) : (headsTo f k).length ≤ k := by
  unfold headsTo
  have h := List.length_filter_le (headP f) (List.range k)
  simpa using h
theorem Row.untag {w : World} {B : Nat} {tag : Nat → Nat} {c : Nat} {e : TypeId} {sz : Nat} {v : Value} {n : Nat} {f : Nat → Value} (h : Row w B tag c e sz v n f) : Row w B (fun _ => 0) 0 e sz v n f := by
  rcases h with h | ⟨b, cap, cur, hv, hb, ht, hh, hc⟩
  · exact Or.inl h
  · exact Or.inr ⟨b, cap, cur, hv, hb, rfl, hh, hc⟩
def headCell (l : List Nat) : Nat → Value := fun i => .int .i64 ((l.getD i 0 : Nat) : Int)

theorem headCell_snoc (l : List Nat) (j i : Nat) (hi : i < l.length + 1) : (if i < l.length * 1 then headCell l i else [Value.int .i64 (j : Int)].getD (i - l.length * 1) (.bool false)) = headCell (l ++ [j]) i := by
  unfold headCell
  by_cases h : i < l.length
  · rw [if_pos (by omega), List.getD_eq_getElem?_getD, List.getD_eq_getElem?_getD, List.getElem?_append_left h]
  · obtain rfl : i = l.length := by omega
    rw [if_neg (by omega)]
    simp [List.getD_eq_getElem?_getD]

theorem Tryz.infoInt : (Tryz.prog.info? 3).map (fun i => (i.zero, i.size, i.bytes)) = some (some (.int .i64 0), 1, 8) := by kernel_rfl

end Go.Proofs.YtkafkipjedpohaaGreatDoor

/-
  Lists that are held: append to a row, the row itself still there; marks stay.
-/
namespace Go.Proofs.YtkafkipjedpohaaGreatDoor
open Go.RowKit

end Go.Proofs.YtkafkipjedpohaaGreatDoor
