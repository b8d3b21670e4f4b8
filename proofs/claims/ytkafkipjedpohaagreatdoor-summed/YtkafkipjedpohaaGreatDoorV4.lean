import Derived.Test.YtkafkipjedpohaaGreatDoorV2
import Derived.Test.YtkafkipjedpohaaGreatDoorM9
import Derived.Test.YtkafkipjedpohaaGreatDoorA6
import Derived.Test.YtkafkipjedpohaaGreatDoorM1
import Derived.Laws.AppendOwn
import Derived.Test.YtkafkipjedpohaaGreatDoorC3

/-
  The project's machine: compile.
-/
namespace Go.Proofs.YtkafkipjedpohaaGreatDoor
open Go.RowKit

theorem codeEql {v : Value} {b : Bool} (h : CodeV v b) (X : World) : (binOp .eql 136 v (.slice none 0 0)).run Tryz.prog X = .ok (.bool (!b)) X := by
  rcases h with ⟨rfl, rfl⟩ | ⟨rfl, a, n, c, rfl⟩
  · exact Lib.run_eql_slice_nil (P := Tryz.prog) X 136 183 none 0 0 0 0 Tryz.underlying136
  · exact Lib.run_eql_slice_nil (P := Tryz.prog) X 136 183 (some a) n c 0 0 Tryz.underlying136

/-- The code of a function, as it is read. -/
theorem RSt.code {w : World} {B mb m : Nat} {F : Nat → PF} {MV : Nat → Value} {A : AdM} {s : Mc} {en : Int} {L : Bxs} {E : List Ev} (h : RSt w B mb m F MV A s en L E) {fn : Nat} (hfn : fn < m) (hcn : 1 ≤ (F fn).cn) :
    ∃ pb po pc cb co cc, w.cell? ⟨mb, 0, none⟩ = some (.slice (some ⟨pb, po, none⟩) m pc) ∧ w.cell? ⟨pb, po + fn * 3 + 2, none⟩ = some (.slice (some ⟨cb, co, none⟩) (F fn).cn cc) ∧ (F fn).cn ≤ cc ∧ cb < B ∧ CodeAt w cb co (F fn).cn (F fn).op (F fn).ar := by
  obtain ⟨pb, po, pc, CA, CC, hpv, hPA, hpb, hcbs⟩ := h.st.pg.at_
  obtain ⟨pb', po', pc', hpv', _, hcp⟩ := h.cp
  rw [hpv] at hpv'
  injection hpv' with e1 _ e2
  injection e1 with e1
  injection e1 with e1 e3
  subst e1 e2 e3
  have s2 := (hPA.fn fn hfn).slice
  obtain ⟨cb, co, hca, hcb, hcode⟩ := (hPA.fn fn hfn).code hcn
  rw [hca] at s2
  obtain ⟨ca, cc, h4, h5⟩ := hcp fn hfn
  rw [s2] at h4
  injection h4 with h4
  injection h4 with _ _ h6
  subst h6
  exact ⟨pb, po, pc, cb, co, _, by rw [cell_heap h.st.lay.run, ← hpv]; rfl, s2, h5, hcbs fn hfn cb co hca hcn, hcode⟩

/-- More boxes: code that is new. -/
theorem RSt.more {w w' : World} {B mb m : Nat} {F : Nat → PF} {MV : Nat → Value} {A : AdM} {s : Mc} {en : Int} {L L2 : Bxs} {E : List Ev} (h : RSt w B mb m F MV A s en L E) (hb : Below w.heap.size w w') (hL : Hb L2 w') (hB : ∀ t, t ∈ L2 → w.heap.size ≤ t.1) :
    ∃ A' : AdM, RSt w' B mb m F MV A' s en (L ++ L2) E ∧ A'.g = A.g ∧ Ch B (fun _ => False) A.tag A'.tag w w' := by
  have hk : Ch B (fun _ => False) A.tag (fun b => if b < w.heap.size then A.tag b else 5) w w' := Ch.of_tags hb (fun b hb => if_pos hb)
  have h1 := h.keep hk
  refine ⟨_, ⟨h1.st, fun t ht => ?_, fun k hk hk2 => (h1.md k hk hk2).mono (fun t ht => List.mem_append.2 (Or.inl ht)), fun i hi hi2 => (h1.fc i hi hi2).mono (fun t ht => List.mem_append.2 (Or.inl ht)), h1.ev, h1.cp⟩, rfl, hk⟩
  rcases List.mem_append.1 ht with ht | ht
  · exact h1.bx t ht
  · exact ⟨hL t ht, if_neg (by have := hB t ht; omega)⟩

set_option maxRecDepth 100000 in
set_option maxHeartbeats 1000000 in
theorem compileM {w : World} {B mb m : Nat} {F : Nat → PF} {K : Nat → Nat → Bool} {H : Nat → Nat → Int} {MV : Nat → Value} {A : AdM} {s : Mc} {en : Int} {L : Bxs} {E : List Ev} (h : RSt w B mb m F MV A s en L E) (hF : Fine m F K H) (fn : Nat) (hfn : fn < m) :
    Calls Tryz.prog 115 #[ptr mb, .int .i64 fn] w fun e w' => e = .returned (.tuple #[]) ∧ ComeE w B mb m F A (comesP F 1 fn s) en L E w' := by
  obtain ⟨vb, vcap, hmv, hvB, hvz, hvt, hvc⟩ := h.st.made.form (by omega)
  have x2 : w.cell? ⟨mb, 2, none⟩ = some (.slice (some ⟨vb, 0, none⟩) m vcap) := by rw [cell_heap h.st.lay.run, ← hmv]; rfl
  have hrow := h.st.made
  rw [hmv] at hrow
  have xv := hrow.cell (i := fn) (by omega)
  have zv := hrow.frozen fn
  have hmd := h.st.mds fn hfn
  have heq := fun X => codeEql hmd X
  obtain ⟨p0, n0, c0, hsl⟩ := codeSlc hmd
  rw [hsl] at xv heq
  have i0 : (0 : Int) ≤ (fn : Int) := by omega
  have i1 : (fn : Int) < (m : Int) := by omega
  have hff := hF.fn fn hfn
  have hcm : comesP F 1 fn s = { s with made := upd s.made fn true } := by
    unfold comesP
    rw [if_pos rfl]
    rfl
  have HC := hid hcm
  generalize comesP F 1 fn s = s' at *
  cases hb : s.made fn with
  | true =>
    rw [hb] at heq
    have HQ := hid (show ComeE w B mb m F A s' en L E w from by
      have e : upd s.made fn true = s.made := by
        funext k
        by_cases e : k = fn
        · rw [e, upd_same, hb]
        · exact upd_other _ _ _ _ e
      rw [HC.out, e]
      exact ⟨A, MV, L, h, SameG.refl _, Ch.refl _ _ _ _, fun t ht => ht, fun _ => rfl⟩)
    simp only [Bool.not_true] at heq
    clear h hmd hsl hrow hff hcm
    go_enter Tryz.func115, Tryz.ntmps115
    go_wp2
    go_end0
    exact ⟨rfl, HQ.out⟩
  | false =>
    rw [hb] at heq
    simp only [Bool.not_false] at heq
    obtain ⟨pb, po, pc, cb, co, cc, y0, y2, hcap, hcbB, hcode⟩ := h.code hfn hff.cn.1
    have hle := h.st.le
    have HCD := hid (And.intro hcode (And.intro hcbB (And.intro hcap hff)))
    have HR := hid h
    have HMV := hid (And.intro hmv hvt)
    have hmz : mb < w.heap.size := heap_lt h.st.lay.run
    have hpz : pb < w.heap.size := World.block_lt_of_cell? w _ y2
    have hmb : ¬ mb = vb := fun e => by have := h.st.lay.own.2; rw [e, hvt] at this; omega
    have HC0 := hid (fun (w' : World) (hb : Below w.heap.size w w') => (show w'.cell? ⟨mb, 2, none⟩ = some (.slice (some ⟨vb, 0, none⟩) m vcap) ∧ w'.cell? ⟨mb, 0, none⟩ = some (.slice (some ⟨pb, po, none⟩) m pc) ∧ w'.cell? ⟨pb, po + fn * 3 + 2, none⟩ = some (.slice (some ⟨cb, co, none⟩) (F fn).cn cc) from ⟨(hb.cell (p := ⟨mb, 2, none⟩) hmz).trans x2, (hb.cell (p := ⟨mb, 0, none⟩) hmz).trans y0, (hb.cell (p := ⟨pb, po + fn * 3 + 2, none⟩) hpz).trans y2⟩))
    clear h hmd hsl hrow hff hcm hmv hvt hcode hcap
    generalize hcn : (F fn).cn = cn at *
    have HCN := hid hcn
    clear hcn
    go_enter Tryz.func115, Tryz.ntmps115
    go_wp2_with fail
    clear heq
    refine region_lex (fun w' => w'.cell? ⟨mb, 2, none⟩ = some (.slice (some ⟨vb, 0, none⟩) m vcap) ∧ w'.cell? ⟨mb, 0, none⟩ = some (.slice (some ⟨pb, po, none⟩) m pc) ∧ w'.cell? ⟨pb, po + fn * 3 + 2, none⟩ = some (.slice (some ⟨cb, co, none⟩) cn cc)) [(false, 0), (false, 1), (false, 2), (false, 3), (false, 4), (false, 5), (false, 6), (false, 7), (false, 8), (false, 9), (false, 10), (false, 11), (false, 12), (true, 13), (true, 14), (true, 15)] (by kernel_rfl) (by kernel_rfl) (panic_body _ _) (HC0.out _ (Below.refl _ _).drew) ?_
    simp only [lexL, List.getElem?_cons_zero, List.getElem?_cons_succ]
    iterate 13 (refine lexW_free (by rfl) (by intro w' hS'; obtain ⟨q0, q1, q2⟩ := hS'; go_simp; exact rfl) ?_; simp only [Act.put, List.setIfInBounds_toArray, List.set_cons_zero, List.set_cons_succ])
    have HD := hid ((Below.refl w.heap.size w).drew)
    have hzd : w.drew.heap.size = w.heap.size := rfl
    generalize w.drew = wd at *
    have hcon := compiledM wd cb co cc cn (F fn) m HCN.out (fun i hi => by
      obtain ⟨a, b⟩ := HCD.out.1 i hi
      exact ⟨(HD.out.cell (p := ⟨cb, co + i * 2, none⟩) (by show cb < _; omega)).trans a, (HD.out.cell (p := ⟨cb, co + i * 2 + 1, none⟩) (by show cb < _; omega)).trans b⟩) (by rw [hzd]; omega) (by have := HCD.out.2.2.2.cn; rw [HCN.out] at this; omega) (by have := HCD.out.2.2.1; omega) HCD.out.2.2.2.legal
    have HT := hid hcon
    clear hcon
    refine lexW_sole (fun K hK => ?_)
    go_simp
    refine HT.out.mono ?_
    rintro e w3 ⟨v, L2, rfl, hcv, hL2, hB2, hbl⟩
    have hbw : Below w.heap.size w w3 := HD.out.trans (by rw [hzd] at hbl; exact hbl)
    rw [hzd] at hB2
    obtain ⟨A3, r3, g3, c3⟩ := HR.out.more hbw hL2 hB2
    have H3 := hid (And.intro r3 (And.intro g3 (And.intro c3 hcv)))
    refine hK.out _ _ (HC0.out w3 hbw) ?_
    clear hK K hcv hL2 hB2 hbl r3 g3 c3 HT
    refine lexW_sole (fun K hK => ?_)
    obtain ⟨q2, _, _⟩ := HC0.out w3 hbw
    go_simp
    refine hK.out _ _ (HC0.out w3 hbw) ?_
    clear hK K q2
    obtain ⟨vb3, vcap3, arr3, hv3, _, _⟩ := H3.out.2.2.2
    have hmv3 : A3.g.mv = .slice (some ⟨vb, 0, none⟩) m vcap := by rw [H3.out.2.1]; exact HMV.out.1
    have hrow3 := H3.out.1.st.made
    rw [hmv3] at hrow3
    have xv3 := hrow3.cell (i := fn) (by omega)
    have zv3 := hrow3.frozen fn
    obtain ⟨p1, n1, c1, hsl1⟩ := codeSlc (H3.out.1.st.mds fn hfn)
    rw [hsl1] at xv3
    obtain ⟨h5, c5⟩ := H3.out.1.setMade hfn hmv3 v true (Or.inr ⟨rfl, ⟨vb3, 0, none⟩, _, vcap3, hv3⟩) (fun _ => H3.out.2.2.2.mono (fun t ht => List.mem_append.2 (Or.inr ht)))
    have HQ := hid (show ComeE w B mb m F A s' en L E (w3.setCell ⟨vb, fn, none⟩ v) from by
      rw [HC.out]
      refine ⟨A3, _, _, h5, SameG.of H3.out.2.1, (H3.out.2.2.1.mono (q := No5) (fun _ h => h.elim)).trans (c5.mono (q := No5) (fun d hd => by unfold No5; omega)), fun t ht => List.mem_append.2 (Or.inl ht), fun i => fb_of H3.out.2.1 i⟩)
    have hne2 : ¬ vb = mb := fun e => hmb e.symm
    have hnp : ¬ vb = pb := by
      have hpbB : pb < B := by
        obtain ⟨pb', po', pc', hpv', hpl, _⟩ := H3.out.1.cp
        have e2 : w3.cell? ⟨mb, 0, none⟩ = some A3.g.pv := (cell_heap H3.out.1.st.lay.run).trans rfl
        rw [(HC0.out w3 hbw).2.1, hpv'] at e2
        injection e2 with e2
        injection e2 with e2 _ _
        injection e2 with e2
        injection e2 with e2 _
        omega
      omega
    have HS5 := hid (show (w3.setCell ⟨vb, fn, none⟩ v).cell? ⟨mb, 2, none⟩ = some (.slice (some ⟨vb, 0, none⟩) m vcap) ∧ (w3.setCell ⟨vb, fn, none⟩ v).cell? ⟨mb, 0, none⟩ = some (.slice (some ⟨pb, po, none⟩) m pc) ∧ (w3.setCell ⟨vb, fn, none⟩ v).cell? ⟨pb, po + fn * 3 + 2, none⟩ = some (.slice (some ⟨cb, co, none⟩) cn cc) from by
      obtain ⟨a1, a2, a3⟩ := HC0.out w3 hbw
      exact ⟨by rw [World.cell?_setCell_far _ _ _ _ hne2]; exact a1, by rw [World.cell?_setCell_far _ _ _ _ hne2]; exact a2, by rw [World.cell?_setCell_far _ _ _ _ hnp]; exact a3⟩)
    clear h5 c5 hrow3 hsl1 hmv3 H3 HC0 HR
    subst hv3
    refine lexW_sole (fun K hK => ?_)
    go_simp
    refine hK.out _ _ HS5.out ?_
    clear hK K
    refine lexW_done ?_
    go_wp2
    go_end0
    exact ⟨rfl, HQ.out⟩
end Go.Proofs.YtkafkipjedpohaaGreatDoor

/-
  upshiftref's returns.
-/
namespace Go.Proofs.YtkafkipjedpohaaGreatDoor
open Go.RowKit

/-- What upshiftref's calls that turn the frames leave of a run. -/
def AfterF (w w' : World) (B rb : Nat) (A : Ad) (s' : Mc) : Prop := ∃ A', LayA w' B rb A' s' ∧ A'.pv = A.pv ∧ Ch B Five A.tag A'.tag w w'
end Go.Proofs.YtkafkipjedpohaaGreatDoor

/-
  upshiftref's Head.
-/
namespace Go.Proofs.YtkafkipjedpohaaGreatDoor
open Go.RowKit

def jumpsTo (f : PF) (i k : Nat) : Bool := (f.op k == 10 || f.op k == 11) && f.ar k == (i : Int)
end Go.Proofs.YtkafkipjedpohaaGreatDoor

/-
  upshiftref's Headers.
-/
namespace Go.Proofs.YtkafkipjedpohaaGreatDoor
open Go.RowKit

/-- The heads of a function below an instruction. -/
def headsTo (f : PF) (k : Nat) : List Nat := (List.range k).filter (headP f)
theorem headsTo_succ (f : PF) (k : Nat) : headsTo f (k + 1) = headsTo f k ++ (if headP f k = true then [k] else []) := by
  unfold headsTo
  rw [List.range_succ, List.filter_append]
  cases h : headP f k <;> simp [h]
theorem headsTo_len (f : PF) (k : Nat) : (headsTo f k).length ≤ k := by
  unfold headsTo
  have h := List.length_filter_le (headP f) (List.range k)
  simpa using h
theorem Row.untag {w : World} {B : Nat} {tag : Nat → Nat} {c : Nat} {e : TypeId} {sz : Nat} {v : Value} {n : Nat} {f : Nat → Value} (h : Row w B tag c e sz v n f) : Row w B (fun _ => 0) 0 e sz v n f := by
  rcases h with h | ⟨b, cap, cur, hv, hb, ht, hh, hc⟩
  · exact Or.inl h
  · exact Or.inr ⟨b, cap, cur, hv, hb, rfl, hh, hc⟩
def headCell (l : List Nat) : Nat → Value := fun i => .int .i64 ((l.getD i 0 : Nat) : Int)

theorem headCell_snoc (l : List Nat) (j i : Nat) (hi : i < l.length + 1) : (if i < l.length * 1 then headCell l i else [Value.int .i64 (j : Int)].getD (i - l.length * 1) (.bool false)) = headCell (l ++ [j]) i := by
  unfold headCell
  by_cases h : i < l.length
  · rw [if_pos (by omega), List.getD_eq_getElem?_getD, List.getD_eq_getElem?_getD, List.getElem?_append_left h]
  · obtain rfl : i = l.length := by omega
    rw [if_neg (by omega)]
    simp [List.getD_eq_getElem?_getD]

theorem Tryz.infoInt : (Tryz.prog.info? 3).map (fun i => (i.zero, i.size, i.bytes)) = some (some (.int .i64 0), 1, 8) := by kernel_rfl

end Go.Proofs.YtkafkipjedpohaaGreatDoor

/-
  Lists that are held: append to a row, the row itself still there; marks stay.
-/
namespace Go.Proofs.YtkafkipjedpohaaGreatDoor
open Go.RowKit

end Go.Proofs.YtkafkipjedpohaaGreatDoor

/-
  upshiftlaw's World and Hold in memory: the lists that came out, full of their marks.
-/
namespace Go.Proofs.YtkafkipjedpohaaGreatDoor
open Go.RowKit

/-- A list whose n elements are all of the same cells g, in a block that the tags let stand (or none). -/
def Full (w : World) (B : Nat) (tag : Nat → Nat) (Kd : Nat → Prop) (sz : Nat) (v : Value) (g : Nat → Value) : Prop :=
  ∃ p n cap, v = .slice p n cap ∧ n ≤ 200003 ∧ (0 < n → ∃ b, p = some ⟨b, 0, none⟩ ∧ B ≤ b ∧ Kd (tag b) ∧ b < w.heap.size ∧ ∀ j, j < n * sz → w.cell? ⟨b, j, none⟩ = some (g (j % sz)))

/-- The mark of the q-th list of a kind. -/
def mrk (q : Nat) : Int := -1000 - (q : Int)
def vmark (q : Nat) : Nat → Value := fun i => if i = 0 then .int .i64 (mrk q) else .int .i64 0
def fmark (q : Nat) : Nat → Value := fun i => if i = 0 then .int .i64 (mrk q) else if i = 1 then .int .i64 0 else .slice none 0 0
def imark (q : Nat) : Nat → Value := fun _ => .int .i64 (mrk q)

/-- The four kinds of lists that are held: of values, of frames, of arrays, of numbers: the type of an entry, how many cells an element has, its mark. -/
def hT : Nat → TypeId
  | 0 => 44
  | 1 => 50
  | 2 => 51
  | _ => 66
def hsz : Nat → Nat
  | 0 => 2
  | 1 => 4
  | _ => 1
def hmark (XB : Nat → Nat) : Nat → Nat → Nat → Value
  | 0, q => vmark q
  | 1, q => fmark q
  | 2, q => fun _ => .slice (some ⟨XB q, 0, none⟩) 1 1
  | _, q => imark q

/-- Where the parts of a World lie. -/
structure AdH where
  tag : Nat → Nat
  cv : Value
  pv : Value
  hv : Nat → Value
  HV : Nat → Nat → Value
  XB : Nat → Nat

def wcells (A : AdH) : Array Value := #[A.cv, A.pv, A.hv 0, A.hv 1, A.hv 2, A.hv 3]

/-- Tags that no list that came out may bear. -/
def Wt (d : Nat) : Prop := d = 0 ∨ d = 3 ∨ d = 4 ∨ d = 5 ∨ d = 6 ∨ d = 7 ∨ d = 8

/-- A World; of each kind k n k lists are held. -/
structure HoldAt (w : World) (B wb : Nat) (A : AdH) (Kd : Nat → Prop) (n : Nat → Nat) : Prop where
  blk : w.heap[wb]? = some (.cells (wcells A) 96 (0, 0))
  own : B ≤ wb ∧ A.tag wb = 0
  le : B ≤ w.heap.size
  kd : ∀ d, Kd d → ¬ Wt d
  row : ∀ k, k < 4 → Row w B A.tag (5 + k) (hT k) 1 (A.hv k) (n k) (A.HV k)
  ent : ∀ k, k < 4 → ∀ i, i < n k → Full w B A.tag Kd (hsz k) (A.HV k i) (hmark A.XB k (i / 4))
  ex : ∀ i, i < n 2 → A.XB (i / 4) < w.heap.size ∧ B ≤ A.XB (i / 4) ∧ Kd (A.tag (A.XB (i / 4))) ∧ w.cell? ⟨A.XB (i / 4), 0, none⟩ = some (.int .i64 (mrk (i / 4))) ∧ w.cell? ⟨A.XB (i / 4), 1, none⟩ = some (.int .i64 0)

end Go.Proofs.YtkafkipjedpohaaGreatDoor

/-
  Lists that are held: the appends of keep, and of the hold's own rows.
-/
namespace Go.Proofs.YtkafkipjedpohaaGreatDoor
open Go.RowKit

/-- A list that is full of marks, and others that were made of it. -/
structure KS (w : World) (B : Nat) (t : Nat → Nat) (c : Nat) (e : TypeId) (sz : Nat) (lv : Value) (nl : Nat) (g : Nat → Value) (vs : List Value) : Prop where
  row : Row w B t c e sz lv nl (fun i => g (i % sz))
  full : ∀ v, v ∈ vs → Full w B t (fun d => d = c) sz v g

/-- The types of the hold's own rows. -/
def hS : Nat → TypeId
  | 0 => 51
  | 1 => 90
  | 2 => 91
  | _ => 92
end Go.Proofs.YtkafkipjedpohaaGreatDoor
