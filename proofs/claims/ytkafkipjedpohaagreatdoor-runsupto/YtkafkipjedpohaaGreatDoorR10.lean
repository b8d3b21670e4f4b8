import Derived.Test.YtkafkipjedpohaaGreatDoorR7
import Derived.Test.YtkafkipjedpohaaGreatDoorA5

/-
  upshiftref's returns.
-/
namespace Go.Proofs.YtkafkipjedpohaaGreatDoor
open Go.RowKit

/-- What upshiftref's calls that turn the frames leave of a run. -/
def AfterF (w w' : World) (B rb : Nat) (A : Ad) (s' : Mc) : Prop := ∃ A', LayA w' B rb A' s' ∧ A'.pv = A.pv ∧ Ch B Five A.tag A'.tag w w'
theorem After.frames {w w' : World} {B rb : Nat} {A : Ad} {s' : Mc} (h : After w w' B rb A s') : AfterF w w' B rb A s' := by
  obtain ⟨A', h1, h2, _, h4⟩ := h
  exact ⟨A', h1, h2, h4⟩

/-- The frame at hand is gone. -/
theorem LayA.cut {w : World} {B rb : Nat} {A : Ad} {s : Mc} {f : Fr} {rest : List Fr} {b0 : Bool} {hs' : List Bool} (h : LayA w B rb A s) (hs : s.fr = f :: rest) (hh : s.high = b0 :: hs') (hlen : hs'.length = rest.length) {fb fcap hb hcap : Nat}
    (hfv : A.fv = .slice (some ⟨fb, 0, none⟩) (rest.length + 1) fcap) (hhv : A.hv = .slice (some ⟨hb, 0, none⟩) (rest.length + 1) hcap) :
    LayA ((w.setCell ⟨rb, 1, none⟩ (.slice (some ⟨fb, 0, none⟩) rest.length fcap)).setCell ⟨rb, 8, none⟩ (.slice (some ⟨hb, 0, none⟩) rest.length hcap)) B rb { A with fv := .slice (some ⟨fb, 0, none⟩) rest.length fcap, hv := .slice (some ⟨hb, 0, none⟩) rest.length hcap } { s with fr := rest, high := hs' } ∧
      Ch B (fun c => c = 0) A.tag A.tag w ((w.setCell ⟨rb, 1, none⟩ (.slice (some ⟨fb, 0, none⟩) rest.length fcap)).setCell ⟨rb, 8, none⟩ (.slice (some ⟨hb, 0, none⟩) rest.length hcap)) := by
  have hc : Ch B (fun c => c = 0) A.tag A.tag w ((w.setCell ⟨rb, 1, none⟩ (.slice (some ⟨fb, 0, none⟩) rest.length fcap)).setCell ⟨rb, 8, none⟩ (.slice (some ⟨hb, 0, none⟩) rest.length hcap)) :=
    ((Ch.refl B _ A.tag w).setOld (a := ⟨rb, _, none⟩) h.own.1 (fun _ => h.own.2) _).setOld (a := ⟨rb, _, none⟩) h.own.1 (fun _ => h.own.2) _
  have hfr := h.fr
  rw [hs, List.length_cons, hfv] at hfr
  have hhi := h.hi
  rw [hh, List.length_cons, hlen, hhv] at hhi
  refine ⟨⟨block_set (block_set h.run _) _, h.own, ?_, h.ar.keep hc (by omega), h.out.keep hc (by omega), ?_, fun i hi => ?_, fun i hi => ?_, fun j hj => (h.arr j hj).keep hc (by omega)⟩, hc⟩
  · refine ((hfr.take rest.length (by omega)).keep hc (by omega)).congr (fun i hi => ?_)
    show fcell (f :: rest) A.LV A.SV i = fcell rest A.LV A.SV i
    unfold fcell
    rw [frAt_rest _ _ _ (by omega)]
  · show Row _ B A.tag 4 _ 1 _ hs'.length _
    rw [hlen]
    refine ((hhi.take rest.length (by omega)).keep hc (by omega)).congr (fun i hi => ?_)
    show Value.bool ((b0 :: hs').reverse.getD i false) = Value.bool (hs'.reverse.getD i false)
    rw [List.reverse_cons, List.getD_eq_getElem?_getD, List.getD_eq_getElem?_getD, List.getElem?_append_left (by simp; omega)]
  · have hi' : i < rest.length := hi
    have h2 := h.loc i (by rw [hs]; simp; omega)
    rw [hs, frAt_rest _ _ _ hi'] at h2
    exact h2.keep hc (by omega)
  · have hi' : i < rest.length := hi
    have h2 := h.stk i (by rw [hs]; simp; omega)
    rw [hs, frAt_rest _ _ _ hi'] at h2
    exact h2.keep hc (by omega)

/-- A store into the run's own block that turns none of its rows. -/
theorem LayA.ownset {w : World} {B rb : Nat} {A : Ad} {s : Mc} (h : LayA w B rb A s) (i : Nat) (v : Value) {s' : Mc} (hr : (rcells A.pv A.fv A.av A.ov A.hv s).setIfInBounds i v = rcells A.pv A.fv A.av A.ov A.hv s') (h1 : s'.fr = s.fr) (h2 : s'.arr = s.arr) (h3 : s'.out = s.out) (h4 : s'.high = s.high) :
    LayA (w.setCell ⟨rb, i, none⟩ v) B rb A s' ∧ Ch B (fun c => c = 0) A.tag A.tag w (w.setCell ⟨rb, i, none⟩ v) := by
  have hc : Ch B (fun c => c = 0) A.tag A.tag w (w.setCell ⟨rb, i, none⟩ v) := (Ch.refl B _ A.tag w).setOld (a := ⟨rb, _, none⟩) h.own.1 (fun _ => h.own.2) _
  refine ⟨⟨?_, h.own, ?_, ?_, ?_, ?_, fun i hi => ?_, fun i hi => ?_, fun j hj => ?_⟩, hc⟩
  · rw [← hr]; exact block_set h.run _
  · rw [h1]; exact h.fr.keep hc (by omega)
  · rw [h2]; exact h.ar.keep hc (by omega)
  · rw [h3]; exact h.out.keep hc (by omega)
  · rw [h4]; exact h.hi.keep hc (by omega)
  · rw [h1] at hi ⊢; exact (h.loc i hi).keep hc (by omega)
  · rw [h1] at hi ⊢; exact (h.stk i hi).keep hc (by omega)
  · rw [h2] at hj ⊢; exact (h.arr j hj).keep hc (by omega)

theorem returnP_nil (f : Fr) (s : Mc) (v : V) (st : List V) (h : f.stk = v :: st) : returnP f [] s = { s with fr := [], high := s.high.drop 1, gives := v, fin := 1 } := by simp [returnP, h]
theorem returnP_cons (f g : Fr) (r : List Fr) (s : Mc) (v : V) (st : List V) (h : f.stk = v :: st) : returnP f (g :: r) s = { s with fr := { g with stk := v :: g.stk } :: r, high := s.high.drop 1 } := by simp [returnP, h]

set_option maxRecDepth 100000 in
set_option maxHeartbeats 2000000 in
theorem returns_any (w : World) (B rb : Nat) (A : Ad) (s : Mc) (f : Fr) (rest : List Fr) (v : V) (st : List V) (b0 : Bool) (hs' : List Bool) (hL : LayA w B rb A s) (hs : s.fr = f :: rest) (hst : f.stk = v :: st) (hh : s.high = b0 :: hs') (hlen : hs'.length = rest.length) (hB : B ≤ w.heap.size) (hn : st.length ≤ 60) (hr : rest.length ≤ 60) (hg : ∀ g, g ∈ rest → g.stk.length ≤ 60) :
    Calls Tryz.prog 100 #[.pointer (some ⟨rb, 0, none⟩)] w fun e w' => e = .returned (.tuple #[]) ∧ AfterF w w' B rb A (returnP f rest s) := by
  have hcon := pop_A w B rb A s f rest v st hL hs hst hB (by omega) (by omega)
  have HC := hid hcon
  clear hcon
  go_enter Tryz.func100, Tryz.ntmps100
  go_wp2_with fail
  refine HC.out.mono ?_
  rintro e w1 ⟨rfl, A1, h1, p1, f1, _, _, _, ch1⟩
  have hfr := Lay.fr h1
  have hhi := Lay.hi h1
  obtain ⟨fb, fcap, hfv, hfb, hfz, hft, hfc⟩ := hfr.form (by simp)
  obtain ⟨hb, hcap, hhv, hhb, hhz, hht, hhc⟩ := hhi.form (by show 1 ≤ s.high.length; rw [hh]; simp)
  have hfv' : A1.fv = .slice (some ⟨fb, 0, none⟩) (rest.length + 1) fcap := by rw [hfv]; simp
  have hhv' : A1.hv = .slice (some ⟨hb, 0, none⟩) (rest.length + 1) hcap := by
    rw [hhv]
    show Value.slice _ s.high.length _ = _
    rw [hh, List.length_cons, hlen]
  have hcut := LayA.cut h1 rfl hh hlen hfv' hhv'
  have HCut := hid hcut
  have HP1 := hid (And.intro p1 (ch1.mono five_stack))
  have HS := hid hst
  have HB := hid (boxed (A := { A with fv := .slice (some ⟨fb, 0, none⟩) rest.length fcap }) v hcut.1 p1 rfl ((ch1.mono five_stack).trans (hcut.2.mono (fun c hc => by intro h; omega))))
  have r1 : w1.cell? ⟨rb, 1, none⟩ = some (.slice (some ⟨fb, 0, none⟩) (rest.length + 1) fcap) := by rw [Lay.cell h1 1]; show some A1.fv = _; rw [hfv']
  have r8 : w1.cell? ⟨rb, 8, none⟩ = some (.slice (some ⟨hb, 0, none⟩) (rest.length + 1) hcap) := by rw [Lay.cell h1 8]; show some A1.hv = _; rw [hhv']
  have r4 : w1.cell? ⟨rb, 4, none⟩ = some (.int .i64 s.gives.k) := Lay.cell h1 4
  have r5 : w1.cell? ⟨rb, 5, none⟩ = some (.int .i64 s.gives.n) := Lay.cell h1 5
  have r7 : w1.cell? ⟨rb, 7, none⟩ = some (.int .i64 s.fin) := Lay.cell h1 7
  have z1 := Lay.frozen h1 1
  have z8 := Lay.frozen h1 8
  have z4 := Lay.frozen h1 4
  have z5 := Lay.frozen h1 5
  have z7 := Lay.frozen h1 7
  have hrbz : rb < w1.heap.size := Lay.lt h1
  have hbr : ¬ w1.heap.size = rb := by omega
  have hbr' : ¬ rb = w1.heap.size := by omega
  have hfcap : rest.length + 1 ≤ fcap := by simpa using hfc
  have hhcap : rest.length + 1 ≤ hcap := by
    have : s.high.length ≤ hcap := hhc
    rw [hh, List.length_cons, hlen] at this
    exact this
  clear hfr hhi hfv hhv hcut hfc hhc hL hst h1 p1 f1 ch1 HC
  generalize hk : rest.length = k at *
  have Hk := hid hk
  clear hk
  by_cases hk0 : k = 0
  · have hrest : rest = [] := List.eq_nil_of_length_eq_zero (Hk.out.trans hk0)
    have hfin : Hid (AfterF w ((((((w1.setCell ⟨rb, 1, none⟩ (.slice (some ⟨fb, 0, none⟩) k fcap)).setCell ⟨rb, 8, none⟩ (.slice (some ⟨hb, 0, none⟩) k hcap)).setCell ⟨rb, 4, none⟩ (.int .i64 v.k)).setCell ⟨rb, 5, none⟩ (.int .i64 v.n)).setCell ⟨rb, 7, none⟩ (.int .i64 1)).alloc (.cells #[.int .i64 v.k, .int .i64 v.n] 43)) B rb A (returnP f rest s)) := by
      rw [hrest, returnP_nil f s v st HS.out, hh]
      have g1 := HCut.out.1.ownset 4 (.int .i64 v.k) (s' := { s with fr := rest, high := hs', gives := ⟨v.k, s.gives.n⟩ }) rfl rfl rfl rfl rfl
      have g2 := g1.1.ownset 5 (.int .i64 v.n) (s' := { s with fr := rest, high := hs', gives := v }) rfl rfl rfl rfl rfl
      have g3 := g2.1.ownset 7 (.int .i64 1) (s' := { s with fr := rest, high := hs', gives := v, fin := 1 }) rfl rfl rfl rfl rfl
      have g4 := LayA.below g3.1 ((Below.refl _ _).alloc (Nat.le_refl _) (.cells #[.int .i64 v.k, .int .i64 v.n] 43))
      refine ⟨{ A1 with fv := .slice (some ⟨fb, 0, none⟩) k fcap, hv := .slice (some ⟨hb, 0, none⟩) k hcap }, ?_, HP1.out.1, (HP1.out.2.trans ((((HCut.out.2.trans g1.2).trans g2.2).trans g3.2).mono (fun c hc => by intro h; omega))).alloc _⟩
      rw [hrest] at g4
      exact g4
    clear HCut HB hh hs hg
    have hkb : ((k : Int) == 0) = true := by simp [hk0]
    clear hrest hk0
    go_wp2_with fail
    refine bodyPost_ret (results_none rfl _ _ _) rfl ?_
    exact ⟨rfl, hfin.out⟩
  · have hkb : ((k : Int) == 0) = false := by simpa using hk0
    obtain ⟨g, r, hrest⟩ : ∃ g r, rest = g :: r := by
      cases hr' : rest with
      | nil => exact absurd (by rw [← Hk.out, hr']; rfl) hk0
      | cons g r => exact ⟨g, r, rfl⟩
    have hgl : g.stk.length ≤ 60 := hg g (by rw [hrest]; simp)
    have hrl : r.length ≤ 60 := by have := Hk.out; rw [hrest, List.length_cons] at this; omega
    go_wp2_with fail
    refine (push_A _ B rb _ { s with fr := rest, high := hs' } g r v HB.out.lay hrest ?_ (by omega) (by omega)).mono ?_
    · have h1 : B ≤ w1.heap.size := by have := HP1.out.2.size; omega
      simp [World.setCell]
      omega
    rintro e w7 ⟨rfl, A7, g1, g2, g3, g4, g5, g6, g7⟩
    have hfin : Hid (AfterF w w7 B rb A (returnP f rest s)) := by
      unfold Hid
      rw [hrest, returnP_cons f g r s v st HS.out, hh]
      exact ⟨A7, g1, g2.trans HB.out.pv, HB.out.ch.trans (g7.mono five_stack)⟩
    clear g1 g7
    go_wp2_with fail
    go_end0
    exact ⟨rfl, hfin.out⟩
end Go.Proofs.YtkafkipjedpohaaGreatDoor

/-
  upshiftref's Head.
-/
namespace Go.Proofs.YtkafkipjedpohaaGreatDoor
open Go.RowKit

def jumpsTo (f : PF) (i k : Nat) : Bool := (f.op k == 10 || f.op k == 11) && f.ar k == (i : Int)
theorem headP_true {f : PF} {i k : Nat} (h1 : i ≤ k) (h2 : k < f.cn) (h3 : jumpsTo f i k = true) : headP f i = true := by
  unfold headP
  rw [List.any_eq_true]
  refine ⟨k, by simpa using h2, ?_⟩
  simp [jumpsTo] at h3
  simp [h1, h3]
theorem headP_false {f : PF} {i : Nat} (h : ∀ k, i ≤ k → k < f.cn → jumpsTo f i k = false) : headP f i = false := by
  unfold headP
  rw [List.any_eq_false]
  intro k hk
  simp only [List.mem_range] at hk
  intro hd
  simp only [decide_eq_true_eq] at hd
  have h4 := h k hd.1 hk
  have h5 : jumpsTo f i k = true := by unfold jumpsTo; rcases hd.2.1 with e | e <;> simp [e, hd.2.2]
  rw [h5] at h4
  cases h4

set_option maxHeartbeats 1000000 in
theorem head_any (w : World) (cb co cc : Nat) (f : PF) (i : Nat) (hc : CodeAt w cb co f.cn f.op f.ar) (hi : i < f.cn) (hn : f.cn ≤ 64) :
    Calls Tryz.prog 79 #[.slice (some ⟨cb, co, none⟩) f.cn cc, .int .i64 i] w fun e w' => e = .returned (.bool (headP f i)) ∧ w' = w := by
  go_enter Tryz.func79, Tryz.ntmps79
  go_wp2
  go_loop [5] (fun v => ∃ k : Nat, i ≤ k ∧ k ≤ f.cn ∧ v = .int .i64 k ∧ ∀ j, i ≤ j → j < k → jumpsTo f i j = false) (fun v => f.cn - (intOf v).toNat)
  case atStart => exact ⟨i, Nat.le_refl _, Nat.le_of_lt hi, rfl, fun j h1 h2 => absurd h2 (by omega)⟩
  case round =>
    obtain ⟨k, hik, hk, rfl, hno⟩ := hrel
    by_cases hlt : k < f.cn
    · obtain ⟨c0, c1⟩ := hc k hlt
      have HN := hid hno
      clear hno
      have HJ : Hid (jumpsTo f i k = ((f.op k == 10 || f.op k == 11) && f.ar k == (i : Int))) := hid rfl
      generalize f.op k = op at *
      generalize f.ar k = ar at *
      have hnext : Hid (jumpsTo f i k = false → ∃ k1 : Nat, i ≤ k1 ∧ k1 ≤ f.cn ∧ Value.int IntKind.i64 ((k : Int) + 1) = .int .i64 k1 ∧ ∀ j, i ≤ j → j < k1 → jumpsTo f i j = false) := fun hf => ⟨k + 1, by omega, by omega, by simp, fun j h1 h2 => by
        by_cases e : j = k
        · rw [e]; exact hf
        · exact HN.out j h1 (by omega)⟩
      have hyes : Hid (jumpsTo f i k = true → headP f i = true) := fun h => headP_true hik hlt h
      cases h10 : (op == 10 : Bool) <;> cases h11 : (op == 11 : Bool) <;> cases hA : (ar == (i : Int) : Bool) <;> rw [h10, h11, hA] at HJ
      all_goals go_wp2
      all_goals
        first
        | (go_ret; exact ⟨by rw [hyes.out HJ.out]; rfl, rfl⟩)
        | exact ⟨hnext.out HJ.out, by simp [intOf]; omega⟩
    · obtain rfl : k = f.cn := by omega
      have HN := hid (headP_false (f := f) (i := i) (fun j h1 h2 => hno j h1 h2))
      clear hno
      go_wp2
      go_ret
      exact ⟨by rw [HN.out]; rfl, rfl⟩
end Go.Proofs.YtkafkipjedpohaaGreatDoor

/-
  upshiftref's Headers.
-/
namespace Go.Proofs.YtkafkipjedpohaaGreatDoor
open Go.RowKit

/-- The heads of a function below an instruction. -/
def headsTo (f : PF) (k : Nat) : List Nat := (List.range k).filter (headP f)
theorem headsTo_succ (f : PF) (k : Nat) : headsTo f (k + 1) = headsTo f k ++ (if headP f k = true then [k] else []) := by
  unfold headsTo
  rw [List.range_succ, List.filter_append]
  cases h : headP f k <;> simp [h]
theorem headsTo_len (f : PF) (k : Nat) : (headsTo f k).length ≤ k := by
  unfold headsTo
  have h := List.length_filter_le (headP f) (List.range k)
  simpa using h
theorem Row.untag {w : World} {B : Nat} {tag : Nat → Nat} {c : Nat} {e : TypeId} {sz : Nat} {v : Value} {n : Nat} {f : Nat → Value} (h : Row w B tag c e sz v n f) : Row w B (fun _ => 0) 0 e sz v n f := by
  rcases h with h | ⟨b, cap, cur, hv, hb, ht, hh, hc⟩
  · exact Or.inl h
  · exact Or.inr ⟨b, cap, cur, hv, hb, rfl, hh, hc⟩
def headCell (l : List Nat) : Nat → Value := fun i => .int .i64 ((l.getD i 0 : Nat) : Int)

theorem headCell_snoc (l : List Nat) (j i : Nat) (hi : i < l.length + 1) : (if i < l.length * 1 then headCell l i else [Value.int .i64 (j : Int)].getD (i - l.length * 1) (.bool false)) = headCell (l ++ [j]) i := by
  unfold headCell
  by_cases h : i < l.length
  · rw [if_pos (by omega), List.getD_eq_getElem?_getD, List.getD_eq_getElem?_getD, List.getElem?_append_left h]
  · obtain rfl : i = l.length := by omega
    rw [if_neg (by omega)]
    simp [List.getD_eq_getElem?_getD]

theorem Tryz.infoInt : (Tryz.prog.info? 3).map (fun i => (i.zero, i.size, i.bytes)) = some (some (.int .i64 0), 1, 8) := by kernel_rfl

set_option maxHeartbeats 1000000 in
theorem headers_any (w : World) (pb po pc m k : Nat) (f : PF) (ca : Option Addr) (cc : Nat) (hf : FunAt w pb po k f ca cc) (hpb : pb < w.heap.size) (hk : k < m) (_hm : m ≤ 8) (hn : f.cn ≤ 64) :
    Calls Tryz.prog 54 #[.slice (some ⟨pb, po, none⟩) m pc, .int .i64 k] w fun e w' => ∃ v, e = .returned v ∧ Row w' w.heap.size (fun _ => 0) 0 3 1 v (headsTo f f.cn).length (headCell (headsTo f f.cn)) ∧ Below w.heap.size w w' := by
  obtain ⟨c0, c1, c2, hcode⟩ := hf
  have HCd := hid hcode
  clear hcode
  go_enter Tryz.func54, Tryz.ntmps54
  have hk1 : (k : Int) < m := by omega
  have e1 : decide ((k : Int) < 0) = false := by simp
  have e2 : decide (m ≤ k) = false := by simp; omega
  go_wp2
  try simp only [e1, e2, Bool.or_false]
  go_loopw [5, 6] (fun o v wr => ∃ j : Nat, j ≤ f.cn ∧ v = .int .i64 j ∧ Below w.heap.size w wr ∧ Row wr w.heap.size (fun _ => 0) 0 3 1 o (headsTo f j).length (headCell (headsTo f j))) (fun _ v _ => f.cn - (intOf v).toNat)
  case atStart => exact ⟨0, Nat.zero_le _, rfl, Below.refl _ _, Row.nil _ _ _ _ _ _ _⟩
  case round =>
    obtain ⟨j, hj, rfl, hB, hR⟩ := hrel
    have d2 := (hB.cell (p := ⟨pb, po + k * 3 + 2, none⟩) hpb).trans c2
    have HR := hid hR
    have HBB := hid hB
    clear hR hB
    by_cases hlt : j < f.cn
    · obtain ⟨cb, co, rfl, hcb, hcd⟩ := HCd.out (by omega)
      have hhead := head_any wr cb co cc f j (hcd.below HBB.out hcb) hlt hn
      have HH := hid hhead
      clear hhead hcd
      go_wp2_with fail
      refine HH.out.mono ?_
      rintro e w2 ⟨rfl, rfl⟩
      cases hd : headP f j with
      | true =>
        have hsucc : Hid (headsTo f (j + 1) = headsTo f j ++ [j]) := by unfold Hid; rw [headsTo_succ, hd]; rfl
        clear hd
        obtain ⟨inf, hi, hz0, hz1, hz2⟩ : ∃ i, Tryz.prog.info? 3 = some i ∧ i.zero = some (.int .i64 0) ∧ i.size = 1 ∧ i.bytes = 8 := by
          obtain ⟨i, hi, hzz⟩ := Option.map_eq_some_iff.1 Tryz.infoInt
          simp only [Prod.mk.injEq] at hzz
          exact ⟨i, hi, hzz.1, hzz.2.1, hzz.2.2⟩
        have hl := headsTo_len f j
        have hwb : w.heap.size ≤ w2.heap.size := HBB.out.size
        go_wp2_with (at_builtin; refine wpList_append_lies _ rfl _ _ _ rfl w.heap.size 3 inf _ 1 8 Tryz.underlying66 hi hz0 hz1 hz2 rfl (by decide) _ (headsTo f j).length _ rfl (HR.out.owns.alloc _) ⟨w2.heap.size, 0, none⟩ 1 1 [.int .i64 j] rfl rfl (World.news_of_block (Go.Deep.blk_alloc_new w2 _)) (by intro u hu; simp at hu; subst hu; rfl) (by omega) (by unfold maxLen; omega) (by omega) (by simp; omega) (w2.heap.size + 1) (by simp) ?_; intro g cap w3 hown hgrow hat hlt3)
        have hX : Ch w.heap.size (fun _ => False) (fun _ => 0) (fun _ => 0) w2 (w2.alloc (.cells #[.int .i64 j] 3)) := Ch.of_below ((Below.refl _ _).alloc (Nat.le_refl _) _)
        obtain ⟨tag', hst, hgc⟩ := (HR.out.keep hX (fun h => h)).grew hown hgrow (by rcases hat with h | h; exact Or.inl h; right; rw [h]; simp) rfl
        have HN : Hid (Row w3 w.heap.size (fun _ => 0) 0 3 1 (.slice (some ⟨g, 0, none⟩) ((headsTo f j).length + 1) cap) ((headsTo f j).length + 1) (headCell (headsTo f j ++ [j]))) := hst.untag.congr (fun i hi => headCell_snoc _ _ i (by omega))
        have HB3 : Hid (Below w.heap.size w w3) := (HBB.out.alloc hwb _).trans (hgc.below (by simp; omega))
        clear hX hst hgc hown hgrow
        go_roundw
        case rel => exact ⟨j + 1, by omega, by go_num, HB3.out, by rw [hsucc.out, List.length_append]; exact HN.out⟩
        case measure => simp [intOf]; omega
      | false =>
        have hsucc : Hid (headsTo f (j + 1) = headsTo f j) := by unfold Hid; rw [headsTo_succ, hd]; simp
        go_wp2
        go_roundw
        case rel => exact ⟨j + 1, by omega, by go_num, HBB.out, by rw [hsucc.out]; exact HR.out⟩
        case measure => simp [intOf]; omega
    · obtain rfl : j = f.cn := by omega
      go_wp2
      go_ret
      exact ⟨_, rfl, HR.out, HBB.out⟩
end Go.Proofs.YtkafkipjedpohaaGreatDoor
