import Derived.Test.YtkafkipjedpohaaGreatDoorM19

/-
  The project's machine: branch; turn: Jump, Branch, Call, Return.
-/
namespace Go.Proofs.YtkafkipjedpohaaGreatDoor
open Go.RowKit

theorem lexW_skip {P : Program} {ops : Array Oper} {Q : Exit → Act → World → Prop} {S : World → Prop} {i : Nat} {o : Oper} {r : List (Bool × Nat × Oper)} {a : Act} {w : World} (hw : Region.wanted o (yielded ops a.tmps) = false)
    (h : LexG P ops Q S r (a.put o.dst undef) w) : LexG P ops Q S ((false, i, o) :: r) a w := ⟨fun hall => ⟨o, undef, hall _ List.mem_cons_self, Or.inr ⟨hw, rfl⟩, h.out (fun t ht => hall t (List.mem_cons_of_mem _ ht))⟩⟩

theorem cell4_set {w : World} {b : Nat} {x : Value} (h : w.cell? ⟨b, 4, none⟩ = some x) (v : Value) : (w.setCell ⟨b, 1, none⟩ v).cell? ⟨b, 4, none⟩ = some x :=
  (World.cell?_setCell_other w _ _ v (by simp)).trans h

theorem zero_is {v : V} (h0 : v.k = 0 → v.n = 0) : zeroP v = (decide (v.k = 0 ∧ v.n = 0) || decide (v.k = 1 ∧ v.n = 0)) := by
  unfold zeroP
  by_cases h : v.k = 0
  · simp [h, h0 h]
  · simp [h]

theorem MSt.like {w : World} {B mb m : Nat} {F : Nat → PF} {MV : Nat → Value} {A : AdM} {s s' : Mc} {en : Int} (h : MSt w B mb m F MV A s en) (e1 : s'.fr = s.fr) (e2 : s'.arr = s.arr) (e3 : s'.out = s.out) (e4 : s'.gives = s.gives) (e5 : s'.steps = s.steps) (e6 : s'.high = s.high) (e7 : s'.made = s.made) (e8 : s'.cH = s.cH) (e9 : s'.cU = s.cU) (e10 : s'.cD = s.cD) : MSt w B mb m F MV A s' en :=
  ⟨h.lay.like e1 e2 e3 e4 e5, by rw [e1, e6]; exact h.hl, by rw [e1, e6]; exact h.cod, by rw [e8, e9, e10]; exact h.cnt, h.made, by rw [e7]; exact h.mds, h.pg, h.le⟩
theorem Goes.like {w w' : World} {B mb m n0 : Nat} {F : Nat → PF} {MV : Nat → Value} {A : AdM} {s s' : Mc} {en : Int} (h : Goes w B mb m F MV n0 A s en w') (e1 : s'.fr = s.fr) (e2 : s'.arr = s.arr) (e3 : s'.out = s.out) (e4 : s'.gives = s.gives) (e5 : s'.steps = s.steps) (e6 : s'.high = s.high) (e7 : s'.made = s.made) (e8 : s'.cH = s.cH) (e9 : s'.cU = s.cU) (e10 : s'.cD = s.cD) : Goes w B mb m F MV n0 A s' en w' := by
  obtain ⟨A3, m3, s3, c3, f3, v3⟩ := h
  exact ⟨A3, m3.like e1 e2 e3 e4 e5 e6 e7 e8 e9 e10, s3, c3, by rw [e1]; exact f3, by rw [e1]; exact v3⟩
theorem MSt.box {w : World} {B mb m : Nat} {F : Nat → PF} {MV : Nat → Value} {A : AdM} {s : Mc} {en : Int} (hM : MSt w B mb m F MV A s en) (c : Array Value) (t : TypeId) : ∃ A1 : AdM, MSt (w.alloc (.cells c t)) B mb m F MV A1 s en ∧ A1.g = A.g ∧ A1.tag w.heap.size = 5 ∧ Ch B N5 A.tag A1.tag w (w.alloc (.cells c t)) := by
  have hbl : Below w.heap.size w (w.alloc (.cells c t)) := (Below.refl _ _).alloc (Nat.le_refl _) _
  have hc : Ch B N5 A.tag (upd A.tag w.heap.size 5) w (w.alloc (.cells c t)) := Ch.of_tags hbl (fun b hb => upd_other _ _ _ _ (by omega))
  exact ⟨_, hM.same (hM.lay.box _) rfl hc ⟨rfl, rfl, rfl, rfl, rfl, rfl⟩, rfl, upd_same _ _ _, hc⟩
theorem MSt.below {w w' : World} {B mb m : Nat} {F : Nat → PF} {MV : Nat → Value} {A : AdM} {s : Mc} {en : Int} (hM : MSt w B mb m F MV A s en) (h : Below w.heap.size w w') : MSt w' B mb m F MV A s en := hM.same (hM.lay.below h) rfl (Ch.of_below h) ⟨rfl, rfl, rfl, rfl, rfl, rfl⟩

set_option maxRecDepth 100000 in
set_option maxHeartbeats 1000000 in
theorem MSt.branch {w : World} {B mb m : Nat} {F : Nat → PF} {MV : Nat → Value} {A : AdM} {s : Mc} {en : Int} (hM : MSt w B mb m F MV A s en) {f : Fr} {rest : List Fr} (hs : s.fr = f :: rest) (v : V) (h0 : v.k = 0 → v.n = 0) (to : Nat) (hpc : f.pc ≤ 1000) :
    Calls Tryz.prog 128 #[.pointer (some ⟨A.FB rest.length, 0, none⟩), .agg #[.int .i64 v.k, .int .i64 v.n], .int .i64 to] w fun e w' => e = .returned (.tuple #[]) ∧ Goes w B mb m F MV s.fr.length A { s with fr := { f with pc := if zeroP v = true then to else f.pc + 1 } :: rest } en w' ∧ w'.cell? ⟨A.FB rest.length, 4, none⟩ = some (A.g.CV rest.length) := by
  obtain ⟨A1, hM1, hg1, ht1, hc1⟩ := hM.box #[.int .i64 v.k, .int .i64 v.n] 43
  have hfb1 : A1.FB rest.length = A.FB rest.length := by unfold AdM.FB; rw [hg1]
  have hz := zero_is h0
  generalize hz1 : decide (v.k = 0 ∧ v.n = 0) = z1 at hz
  generalize hz2 : decide (v.k = 1 ∧ v.n = 0) = z2 at hz
  have heq1 := eqlVal v ⟨0, 0⟩ z1 (by rw [← hz1])
  have heq2 := eqlVal v ⟨1, 0⟩ z2 (by rw [← hz2])
  rw [hz]
  have HG := hid (fun (X : World) (hX : Below (w.alloc (.cells #[.int .i64 v.k, .int .i64 v.n] 43)).heap.size (w.alloc (.cells #[.int .i64 v.k, .int .i64 v.n] 43)) X) (pc : Nat) => (show Goes w B mb m F MV s.fr.length A { s with fr := { f with pc := pc } :: rest } en (X.setCell ⟨A.FB rest.length, 1, none⟩ (.int .i64 pc)) ∧ (X.setCell ⟨A.FB rest.length, 1, none⟩ (.int .i64 pc)).cell? ⟨A.FB rest.length, 4, none⟩ = some (A.g.CV rest.length) from by
    have := (hM1.below hX).goto hs pc
    have h4 := ((hM1.below hX).top hs).1
    rw [hfb1] at this h4
    rw [hg1] at h4
    exact ⟨Goes.on hg1 (hc1.trans' hX) this, cell4_set h4 _⟩))
  have HT := hid (fun (X : World) (hX : Below (w.alloc (.cells #[.int .i64 v.k, .int .i64 v.n] 43)).heap.size (w.alloc (.cells #[.int .i64 v.k, .int .i64 v.n] 43)) X) => (show X.cell? ⟨A.FB rest.length, 1, none⟩ = some (.int .i64 f.pc) ∧ X.frozen? ⟨A.FB rest.length, 1, none⟩ = false from by
    obtain ⟨_, _, u3, u4, _⟩ := (hM1.below hX).top hs
    rw [hfb1] at u3 u4
    exact ⟨u3, u4⟩))
  have hb : (w.alloc (.cells #[.int .i64 v.k, .int .i64 v.n] 43)).heap[w.heap.size]? = some (.cells #[.int .i64 v.k, .int .i64 v.n] 43 (0, 0)) := Go.Deep.blk_alloc_new _ _
  have HB := hid hb
  clear hM hM1 hg1 ht1 hc1 hfb1 hz hz1 hz2 hb
  generalize A.FB rest.length = fb at *
  generalize A.g.CV rest.length = cvt at *
  generalize hn0 : s.fr.length = n0 at *
  clear hn0
  have hp0 : 0 ≤ (f.pc : Int) ∧ (f.pc : Int) ≤ 1000 := by omega
  have epc : ((f.pc + 1 : Nat) : Int) = (f.pc : Int) + 1 := by omega
  have e5 : wrap64 ((f.pc : Int) + 1) = (f.pc : Int) + 1 := by unfold wrap64; omega
  go_enter Tryz.func128, Tryz.ntmps128
  go_wp2_with fail
  generalize w.alloc (.cells #[.int .i64 v.k, .int .i64 v.n] 43) = W at *
  have hS0 : Hb [(w.heap.size, #[Value.int .i64 v.k, Value.int .i64 v.n], 43)] W.drew := fun t ht => by
    obtain rfl : t = (w.heap.size, #[Value.int .i64 v.k, Value.int .i64 v.n], 43) := by simpa using ht
    exact HB.out
  cases z1
  · refine region_lex (Hb [(w.heap.size, #[Value.int .i64 v.k, Value.int .i64 v.n], 43)]) [(false, 0), (false, 1), (false, 2), (false, 3), (false, 4), (true, 5), (false, 6), (false, 7)] (by kernel_rfl) (by kernel_rfl) (panic_frame _ _ _) hS0 ?_
    have S0 := hid hS0
    clear hS0
    simp only [lexL, List.getElem?_cons_zero, List.getElem?_cons_succ]
    iterate 5 (refine lexW_free (by rfl) (by intro w' hS'; obtain ⟨y0, y1, _, _⟩ := hS'.two List.mem_cons_self; clear hS'; go_simp; exact rfl) ?_; simp only [Act.put, List.setIfInBounds_toArray, List.set_cons_zero, List.set_cons_succ])
    refine lexW_sole (fun K hK => ?_)
    go_simp
    refine (numberB _ _).mono ?_
    rintro e w2 ⟨rfl, k2⟩
    have hX : Below W.heap.size W w2 := (Below.refl _ _).drew.trans k2
    have HX := hid hX
    refine hK.out _ _ (S0.out.below k2) ?_
    clear hK K k2 hX
    iterate 2 (refine lexW_free (by rfl) (by intro w' hS'; clear hS'; go_simp; exact rfl) ?_; simp only [Act.put, List.setIfInBounds_toArray, List.set_cons_zero, List.set_cons_succ])
    refine lexW_done ?_
    obtain ⟨u3, u4⟩ := HT.out w2 HX.out
    cases z2
    · have HQ := hid (HG.out w2 HX.out (f.pc + 1))
      rw [epc] at HQ
      go_wp2
      go_end0
      exact ⟨rfl, HQ.out⟩
    · have HQ := hid (HG.out w2 HX.out to)
      go_wp2
      go_end0
      exact ⟨rfl, HQ.out⟩
  · refine region_lex (Hb [(w.heap.size, #[Value.int .i64 v.k, Value.int .i64 v.n], 43)]) [(false, 0), (false, 1), (false, 2), (false, 3), (false, 4), (false, 5), (false, 6), (false, 7)] (by kernel_rfl) (by kernel_rfl) (panic_frame _ _ _) hS0 ?_
    clear hS0
    simp only [lexL, List.getElem?_cons_zero, List.getElem?_cons_succ]
    iterate 4 (refine lexW_free (by rfl) (by intro w' hS'; obtain ⟨y0, y1, _, _⟩ := hS'.two List.mem_cons_self; clear hS'; go_simp; exact rfl) ?_; simp only [Act.put, List.setIfInBounds_toArray, List.set_cons_zero, List.set_cons_succ])
    iterate 3 (refine lexW_skip (by rfl) ?_; simp only [Act.put, List.setIfInBounds_toArray, List.set_cons_zero, List.set_cons_succ])
    refine lexW_free (by rfl) (by intro w' hS'; clear hS'; go_simp; exact rfl) ?_
    simp only [Act.put, List.setIfInBounds_toArray, List.set_cons_zero, List.set_cons_succ]
    refine lexW_done ?_
    have hX : Below W.heap.size W W.drew := (Below.refl _ _).drew
    obtain ⟨u3, u4⟩ := HT.out W.drew hX
    have HQ := hid (HG.out W.drew hX to)
    clear hX
    go_wp2
    go_end0
    exact ⟨rfl, HQ.out⟩

/-- What turn leaves. -/
def TurnE (w : World) (B mb m : Nat) (F : Nat → PF) (MV : Nat → Value) (n0 : Nat) (A : AdM) (k : Nat) (s' : Mc) (en : Int) (e : Ending) (w' : World) : Prop :=
  e = .returned (.tuple #[]) ∧ Goes w B mb m F MV n0 A s' en w' ∧ w'.cell? ⟨A.FB k, 4, none⟩ = some (A.g.CV k)

set_option maxRecDepth 100000 in
set_option maxHeartbeats 1000000 in
theorem turn_jump {w : World} {B mb m : Nat} {F : Nat → PF} {MV : Nat → Value} {A : AdM} {s : Mc} {en : Int} (hM : MSt w B mb m F MV A s en) {f : Fr} {rest : List Fr} (hs : s.fr = f :: rest) (to : Nat) :
    Calls Tryz.prog 120 #[.pointer (some ⟨mb, 0, none⟩), .pointer (some ⟨A.FB rest.length, 0, none⟩), .agg #[.int .i64 10, .int .i64 to]] w (TurnE w B mb m F MV s.fr.length A rest.length { s with fr := { f with pc := to } :: rest } en) := by
  obtain ⟨A1, hM1, hg1, ht1, hc1⟩ := hM.box #[.int .i64 10, .int .i64 to] 33
  have hfb1 : A1.FB rest.length = A.FB rest.length := fb_of hg1 _
  have hgo := hM1.goto hs to
  obtain ⟨h4, _, u3, u4, _⟩ := hM1.top hs
  rw [hfb1] at hgo h4 u3 u4
  rw [hg1] at h4
  have HQ := hid (And.intro (Goes.on hg1 hc1 hgo) (cell4_set h4 (.int .i64 to)))
  clear hM hM1 hg1 ht1 hc1 hfb1 hgo h4
  unfold TurnE
  generalize A.FB rest.length = fb at *
  generalize A.g.CV rest.length = cvt at *
  generalize hn0 : s.fr.length = n0 at *
  clear hn0
  go_enter Tryz.func120, Tryz.ntmps120
  go_wp2
  go_end0
  exact ⟨rfl, HQ.out⟩

set_option maxRecDepth 100000 in
set_option maxHeartbeats 1000000 in
theorem turn_branch {w : World} {B mb m : Nat} {F : Nat → PF} {MV : Nat → Value} {A : AdM} {s : Mc} {en : Int} (hM : MSt w B mb m F MV A s en) {f : Fr} {rest : List Fr} (hs : s.fr = f :: rest) {v : V} {st : List V} (hst : f.stk = v :: st) (hn : st.length ≤ 60) (h0 : v.k = 0 → v.n = 0) (to : Nat) (hpc : f.pc ≤ 1000) :
    Calls Tryz.prog 120 #[.pointer (some ⟨mb, 0, none⟩), .pointer (some ⟨A.FB rest.length, 0, none⟩), .agg #[.int .i64 11, .int .i64 to]] w (TurnE w B mb m F MV s.fr.length A rest.length { s with fr := { f with stk := st, pc := if zeroP v = true then to else f.pc + 1 } :: rest } en) := by
  have H0 := hid ((Cur.start hM.lay hM.le).box #[.int .i64 11, .int .i64 to] 33)
  have HM := hid hM
  generalize hfb : A.FB rest.length = fb
  have HF := hid hfb
  clear hM hfb
  generalize hS' : ({ s with fr := { f with stk := st, pc := if zeroP v = true then to else f.pc + 1 } :: rest } : Mc) = s'
  generalize hn0 : s.fr.length = n0
  have HN0 := hid hn0
  clear hn0
  have HS := hid hS'
  clear hS'
  go_enter Tryz.func120, Tryz.ntmps120
  go_wp2_with fail
  generalize w.alloc (.cells #[.int .i64 11, .int .i64 to] 33) = W at *
  have H1 := hid H0.out.drew
  clear H0
  refine region_lex (Hb [(w.heap.size, #[Value.int .i64 11, Value.int .i64 to], 33)]) [(false, 0), (false, 1), (false, 2), (false, 3), (false, 5), (false, 6), (true, 4), (true, 7)] (by kernel_rfl) (by kernel_rfl) (panic_block _ _ _) H1.out.hb ?_
  simp only [lexL, List.getElem?_cons_zero, List.getElem?_cons_succ]
  iterate 6 (refine lexW_free (by rfl) (by intro w' hS'; obtain ⟨y0, y1, _, _⟩ := hS'.two List.mem_cons_self; clear hS'; go_simp; exact rfl) ?_; simp only [Act.put, List.setIfInBounds_toArray, List.set_cons_zero, List.set_cons_succ])
  generalize W.drew = w1 at H1 ⊢
  refine lexW_sole (fun K hK => ?_)
  go_simp
  have hp := H1.out.pop hs hst (by omega)
  rw [HF.out] at hp
  refine hp.mono ?_
  rintro e w2 ⟨rfl, c2⟩
  have H2 := hid c2
  refine hK.out _ _ c2.hb ?_
  clear hK K hp c2 H1
  refine lexW_sole (fun K hK => ?_)
  go_simp
  obtain ⟨_, A2, l2, g2, c2, b2⟩ := H2.out
  have hM2 : MSt w2 B mb m F MV A2 { s with fr := { f with stk := st } :: rest } en := HM.out.same l2 g2 c2 ⟨by rw [hs]; rfl, rfl, rfl, rfl, rfl, rfl⟩
  have hbr := hM2.branch (f := { f with stk := st }) (rest := rest) rfl v h0 to hpc
  have hfb2 : A2.FB rest.length = fb := (fb_of g2 _).trans HF.out
  rw [hfb2] at hbr
  refine hbr.mono ?_
  rintro e w3 ⟨rfl, g3, k3⟩
  have HQ := hid (show TurnE w B mb m F MV n0 A rest.length s' en (.returned (.tuple #[])) w3 from by
    rw [← HS.out, ← HN0.out, hs]
    rw [g2] at k3
    exact ⟨rfl, Goes.on g2 c2 g3, by rw [HF.out]; exact k3⟩)
  obtain ⟨A3, m3, _, c3, _⟩ := g3
  have hb3 : Hb [(w.heap.size, #[Value.int .i64 11, Value.int .i64 to], 33)] w3 := fun t ht => (b2.keep c3 n55 t ht).1
  refine hK.out _ _ hb3 ?_
  clear hK K hbr l2 g2 c2 b2 hM2 m3 c3 hb3 k3
  refine lexW_done ?_
  go_wp2
  go_end0
  exact HQ.out

set_option maxRecDepth 100000 in
set_option maxHeartbeats 1000000 in
theorem turn_return {w : World} {B mb m : Nat} {F : Nat → PF} {MV : Nat → Value} {A : AdM} {s : Mc} {en : Int} (hM : MSt w B mb m F MV A s en) {f : Fr} {rest : List Fr} (hs : s.fr = f :: rest) {v : V} {st : List V} (hst : f.stk = v :: st) (hn : st.length ≤ 60) (hg : ∀ g, g ∈ rest → g.stk.length ≤ 60) (hr : rest.length ≤ 60) (n : Int) :
    Calls Tryz.prog 120 #[.pointer (some ⟨mb, 0, none⟩), .pointer (some ⟨A.FB rest.length, 0, none⟩), .agg #[.int .i64 14, .int .i64 n]] w (TurnE w B mb m F MV s.fr.length A rest.length (returnP f rest s) en) := by
  have H0 := hid ((Cur.start hM.lay hM.le).box #[.int .i64 14, .int .i64 n] 33)
  have HM := hid hM
  generalize hfb : A.FB rest.length = fb
  have HF := hid hfb
  clear hM hfb
  generalize hS' : returnP f rest s = s'
  generalize hn0 : s.fr.length = n0
  have HN0 := hid hn0
  clear hn0
  have HS := hid hS'
  clear hS'
  go_enter Tryz.func120, Tryz.ntmps120
  go_wp2_with fail
  generalize w.alloc (.cells #[.int .i64 14, .int .i64 n] 33) = W at *
  have hp := H0.out.pop hs hst (by omega)
  rw [HF.out] at hp
  refine hp.mono ?_
  rintro e w2 ⟨rfl, _, A2, l2, g2, c2, b2⟩
  have hM2 : MSt w2 B mb m F MV A2 { s with fr := { f with stk := st } :: rest } en := HM.out.same l2 g2 c2 ⟨by rw [hs]; rfl, rfl, rfl, rfl, rfl, rfl⟩
  have hfb2 : A2.FB rest.length = fb := (fb_of g2 _).trans HF.out
  have h4 := (hM2.top rfl).1
  rw [hfb2, g2] at h4
  have H2 := hid (And.intro hM2 (And.intro g2 (And.intro c2 h4)))
  have HF2 := hid hfb2
  clear l2 g2 c2 b2 hM2 hp H0 h4 hfb2
  cases rest with
  | nil =>
    have hrp : returnP f [] s = { s with fr := [], high := s.high.drop 1, gives := v, fin := 1 } := by simp [returnP, hst]
    have HR := hid (hrp.symm.trans HS.out)
    clear hrp
    have HG := hid (giveBackEnd w2 B mb m F MV A2 _ en { f with stk := st } v H2.out.1 rfl)
    clear hst
    go_wp2_with fail
    refine HG.out.mono ?_
    rintro e w3 ⟨rfl, g3, k3⟩
    obtain ⟨A3, m3, s3, c3, f3, v3⟩ := Goes.on H2.out.2.1 H2.out.2.2.1 g3
    have k4 : w3.cell? ⟨fb, 4, none⟩ = some (A.g.CV 0) := by
      have e := HF2.out
      simp only [List.length_nil] at e
      rw [e] at k3
      exact k3.trans H2.out.2.2.2
    have HQ := hid (show TurnE w B mb m F MV n0 A ([] : List Fr).length s' en (.returned (.tuple #[])) w3 from by
      rw [← HR.out, ← HN0.out, hs]
      refine ⟨rfl, ⟨A3, m3.like rfl rfl rfl rfl rfl rfl rfl rfl rfl rfl, s3, c3, f3, v3⟩, ?_⟩
      rw [HF.out]
      exact k4)
    clear g3 k3 k4 m3 c3 f3 v3
    go_wp2
    go_end0
    exact HQ.out
  | cons g r =>
    have hrp : returnP f (g :: r) s = { s with fr := { g with stk := v :: g.stk } :: r, high := s.high.drop 1 } := by simp [returnP, hst]
    have HR := hid (hrp.symm.trans HS.out)
    clear hrp
    have HG := hid (giveBackMid w2 B mb m F MV A2 _ en { f with stk := st } g r v H2.out.1 rfl (hg g List.mem_cons_self) (by simp at hr; omega))
    clear hst
    go_wp2_with fail
    refine HG.out.mono ?_
    rintro e w3 ⟨rfl, g3, k3⟩
    obtain ⟨A3, m3, s3, c3, f3, v3⟩ := Goes.on H2.out.2.1 H2.out.2.2.1 g3
    have k4 : w3.cell? ⟨fb, 4, none⟩ = some (A.g.CV (r.length + 1)) := by
      have e := HF2.out
      simp only [List.length_cons] at e
      rw [e] at k3
      exact k3.trans H2.out.2.2.2
    have HQ := hid (show TurnE w B mb m F MV n0 A (g :: r).length s' en (.returned (.tuple #[])) w3 from by
      rw [← HR.out, ← HN0.out, hs]
      refine ⟨rfl, ⟨A3, m3.like rfl rfl rfl rfl rfl rfl rfl rfl rfl rfl, s3, c3, f3, v3⟩, ?_⟩
      rw [HF.out]
      exact k4)
    clear g3 k3 k4 m3 c3 f3 v3
    go_wp2
    go_end0
    exact HQ.out
end Go.Proofs.YtkafkipjedpohaaGreatDoor
