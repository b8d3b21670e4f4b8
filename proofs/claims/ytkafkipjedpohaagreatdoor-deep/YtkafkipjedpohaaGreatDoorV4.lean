import Derived.Test.YtkafkipjedpohaaGreatDoorV1
import Derived.Test.YtkafkipjedpohaaGreatDoorM9
import Derived.Test.YtkafkipjedpohaaGreatDoorA6
import Derived.Test.YtkafkipjedpohaaGreatDoorM2
import Derived.Laws.AppendOwn
import Derived.Test.YtkafkipjedpohaaGreatDoorM16

/-
  The project's machine: compile.
-/
namespace Go.Proofs.YtkafkipjedpohaaGreatDoor
open Go.RowKit

theorem codeEql {v : Value} {b : Bool} (h : CodeV v b) (X : World) : (binOp .eql 136 v (.slice none 0 0)).run Tryz.prog X = .ok (.bool (!b)) X := by
  rcases h with ⟨rfl, rfl⟩ | ⟨rfl, a, n, c, rfl⟩
  · exact Lib.run_eql_slice_nil (P := Tryz.prog) X 136 183 none 0 0 0 0 Tryz.underlying136
  · exact Lib.run_eql_slice_nil (P := Tryz.prog) X 136 183 (some a) n c 0 0 Tryz.underlying136

/-- The code of a function, as it is read. -/
theorem RSt.code {w : World} {B mb m : Nat} {F : Nat → PF} {MV : Nat → Value} {A : AdM} {s : Mc} {en : Int} {L : Bxs} {E : List Ev} (h : RSt w B mb m F MV A s en L E) {fn : Nat} (hfn : fn < m) (hcn : 1 ≤ (F fn).cn) :
    ∃ pb po pc cb co cc, w.cell? ⟨mb, 0, none⟩ = some (.slice (some ⟨pb, po, none⟩) m pc) ∧ w.cell? ⟨pb, po + fn * 3 + 2, none⟩ = some (.slice (some ⟨cb, co, none⟩) (F fn).cn cc) ∧ (F fn).cn ≤ cc ∧ cb < B ∧ CodeAt w cb co (F fn).cn (F fn).op (F fn).ar := by
  obtain ⟨pb, po, pc, CA, CC, hpv, hPA, hpb, hcbs⟩ := h.st.pg.at_
  obtain ⟨pb', po', pc', hpv', _, hcp⟩ := h.cp
  rw [hpv] at hpv'
  injection hpv' with e1 _ e2
  injection e1 with e1
  injection e1 with e1 e3
  subst e1 e2 e3
  have s2 := (hPA.fn fn hfn).slice
  obtain ⟨cb, co, hca, hcb, hcode⟩ := (hPA.fn fn hfn).code hcn
  rw [hca] at s2
  obtain ⟨ca, cc, h4, h5⟩ := hcp fn hfn
  rw [s2] at h4
  injection h4 with h4
  injection h4 with _ _ h6
  subst h6
  exact ⟨pb, po, pc, cb, co, _, by rw [cell_heap h.st.lay.run, ← hpv]; rfl, s2, h5, hcbs fn hfn cb co hca hcn, hcode⟩

/-- More boxes: code that is new. -/
theorem RSt.more {w w' : World} {B mb m : Nat} {F : Nat → PF} {MV : Nat → Value} {A : AdM} {s : Mc} {en : Int} {L L2 : Bxs} {E : List Ev} (h : RSt w B mb m F MV A s en L E) (hb : Below w.heap.size w w') (hL : Hb L2 w') (hB : ∀ t, t ∈ L2 → w.heap.size ≤ t.1) :
    ∃ A' : AdM, RSt w' B mb m F MV A' s en (L ++ L2) E ∧ A'.g = A.g ∧ Ch B (fun _ => False) A.tag A'.tag w w' := by
  have hk : Ch B (fun _ => False) A.tag (fun b => if b < w.heap.size then A.tag b else 5) w w' := Ch.of_tags hb (fun b hb => if_pos hb)
  have h1 := h.keep hk
  refine ⟨_, ⟨h1.st, fun t ht => ?_, fun k hk hk2 => (h1.md k hk hk2).mono (fun t ht => List.mem_append.2 (Or.inl ht)), fun i hi hi2 => (h1.fc i hi hi2).mono (fun t ht => List.mem_append.2 (Or.inl ht)), h1.ev, h1.cp⟩, rfl, hk⟩
  rcases List.mem_append.1 ht with ht | ht
  · exact h1.bx t ht
  · exact ⟨hL t ht, if_neg (by have := hB t ht; omega)⟩

set_option maxRecDepth 100000 in
set_option maxHeartbeats 1000000 in
theorem compileM {w : World} {B mb m : Nat} {F : Nat → PF} {K : Nat → Nat → Bool} {H : Nat → Nat → Int} {MV : Nat → Value} {A : AdM} {s : Mc} {en : Int} {L : Bxs} {E : List Ev} (h : RSt w B mb m F MV A s en L E) (hF : Fine m F K H) (fn : Nat) (hfn : fn < m) :
    Calls Tryz.prog 115 #[ptr mb, .int .i64 fn] w fun e w' => e = .returned (.tuple #[]) ∧ ComeE w B mb m F A (comesP F 1 fn s) en L E w' := by
  obtain ⟨vb, vcap, hmv, hvB, hvz, hvt, hvc⟩ := h.st.made.form (by omega)
  have x2 : w.cell? ⟨mb, 2, none⟩ = some (.slice (some ⟨vb, 0, none⟩) m vcap) := by rw [cell_heap h.st.lay.run, ← hmv]; rfl
  have hrow := h.st.made
  rw [hmv] at hrow
  have xv := hrow.cell (i := fn) (by omega)
  have zv := hrow.frozen fn
  have hmd := h.st.mds fn hfn
  have heq := fun X => codeEql hmd X
  obtain ⟨p0, n0, c0, hsl⟩ := codeSlc hmd
  rw [hsl] at xv heq
  have i0 : (0 : Int) ≤ (fn : Int) := by omega
  have i1 : (fn : Int) < (m : Int) := by omega
  have hff := hF.fn fn hfn
  have hcm : comesP F 1 fn s = { s with made := upd s.made fn true } := by
    unfold comesP
    rw [if_pos rfl]
    rfl
  have HC := hid hcm
  generalize comesP F 1 fn s = s' at *
  cases hb : s.made fn with
  | true =>
    rw [hb] at heq
    have HQ := hid (show ComeE w B mb m F A s' en L E w from by
      have e : upd s.made fn true = s.made := by
        funext k
        by_cases e : k = fn
        · rw [e, upd_same, hb]
        · exact upd_other _ _ _ _ e
      rw [HC.out, e]
      exact ⟨A, MV, L, h, SameG.refl _, Ch.refl _ _ _ _, fun t ht => ht, fun _ => rfl⟩)
    simp only [Bool.not_true] at heq
    clear h hmd hsl hrow hff hcm
    go_enter Tryz.func115, Tryz.ntmps115
    go_wp2
    go_end0
    exact ⟨rfl, HQ.out⟩
  | false =>
    rw [hb] at heq
    simp only [Bool.not_false] at heq
    obtain ⟨pb, po, pc, cb, co, cc, y0, y2, hcap, hcbB, hcode⟩ := h.code hfn hff.cn.1
    have hle := h.st.le
    have HCD := hid (And.intro hcode (And.intro hcbB (And.intro hcap hff)))
    have HR := hid h
    have HMV := hid (And.intro hmv hvt)
    have hmz : mb < w.heap.size := heap_lt h.st.lay.run
    have hpz : pb < w.heap.size := World.block_lt_of_cell? w _ y2
    have hmb : ¬ mb = vb := fun e => by have := h.st.lay.own.2; rw [e, hvt] at this; omega
    have HC0 := hid (fun (w' : World) (hb : Below w.heap.size w w') => (show w'.cell? ⟨mb, 2, none⟩ = some (.slice (some ⟨vb, 0, none⟩) m vcap) ∧ w'.cell? ⟨mb, 0, none⟩ = some (.slice (some ⟨pb, po, none⟩) m pc) ∧ w'.cell? ⟨pb, po + fn * 3 + 2, none⟩ = some (.slice (some ⟨cb, co, none⟩) (F fn).cn cc) from ⟨(hb.cell (p := ⟨mb, 2, none⟩) hmz).trans x2, (hb.cell (p := ⟨mb, 0, none⟩) hmz).trans y0, (hb.cell (p := ⟨pb, po + fn * 3 + 2, none⟩) hpz).trans y2⟩))
    clear h hmd hsl hrow hff hcm hmv hvt hcode hcap
    generalize hcn : (F fn).cn = cn at *
    have HCN := hid hcn
    clear hcn
    go_enter Tryz.func115, Tryz.ntmps115
    go_wp2_with fail
    clear heq
    refine region_lex (fun w' => w'.cell? ⟨mb, 2, none⟩ = some (.slice (some ⟨vb, 0, none⟩) m vcap) ∧ w'.cell? ⟨mb, 0, none⟩ = some (.slice (some ⟨pb, po, none⟩) m pc) ∧ w'.cell? ⟨pb, po + fn * 3 + 2, none⟩ = some (.slice (some ⟨cb, co, none⟩) cn cc)) [(false, 0), (false, 1), (false, 2), (false, 3), (false, 4), (false, 5), (false, 6), (false, 7), (false, 8), (false, 9), (false, 10), (false, 11), (false, 12), (true, 13), (true, 14), (true, 15)] (by kernel_rfl) (by kernel_rfl) (panic_body _ _) (HC0.out _ (Below.refl _ _).drew) ?_
    simp only [lexL, List.getElem?_cons_zero, List.getElem?_cons_succ]
    iterate 13 (refine lexW_free (by rfl) (by intro w' hS'; obtain ⟨q0, q1, q2⟩ := hS'; go_simp; exact rfl) ?_; simp only [Act.put, List.setIfInBounds_toArray, List.set_cons_zero, List.set_cons_succ])
    have HD := hid ((Below.refl w.heap.size w).drew)
    have hzd : w.drew.heap.size = w.heap.size := rfl
    generalize w.drew = wd at *
    have hcon := compiledM wd cb co cc cn (F fn) m HCN.out (fun i hi => by
      obtain ⟨a, b⟩ := HCD.out.1 i hi
      exact ⟨(HD.out.cell (p := ⟨cb, co + i * 2, none⟩) (by show cb < _; omega)).trans a, (HD.out.cell (p := ⟨cb, co + i * 2 + 1, none⟩) (by show cb < _; omega)).trans b⟩) (by rw [hzd]; omega) (by have := HCD.out.2.2.2.cn; rw [HCN.out] at this; omega) (by have := HCD.out.2.2.1; omega) HCD.out.2.2.2.legal
    have HT := hid hcon
    clear hcon
    refine lexW_sole (fun K hK => ?_)
    go_simp
    refine HT.out.mono ?_
    rintro e w3 ⟨v, L2, rfl, hcv, hL2, hB2, hbl⟩
    have hbw : Below w.heap.size w w3 := HD.out.trans (by rw [hzd] at hbl; exact hbl)
    rw [hzd] at hB2
    obtain ⟨A3, r3, g3, c3⟩ := HR.out.more hbw hL2 hB2
    have H3 := hid (And.intro r3 (And.intro g3 (And.intro c3 hcv)))
    refine hK.out _ _ (HC0.out w3 hbw) ?_
    clear hK K hcv hL2 hB2 hbl r3 g3 c3 HT
    refine lexW_sole (fun K hK => ?_)
    obtain ⟨q2, _, _⟩ := HC0.out w3 hbw
    go_simp
    refine hK.out _ _ (HC0.out w3 hbw) ?_
    clear hK K q2
    obtain ⟨vb3, vcap3, arr3, hv3, _, _⟩ := H3.out.2.2.2
    have hmv3 : A3.g.mv = .slice (some ⟨vb, 0, none⟩) m vcap := by rw [H3.out.2.1]; exact HMV.out.1
    have hrow3 := H3.out.1.st.made
    rw [hmv3] at hrow3
    have xv3 := hrow3.cell (i := fn) (by omega)
    have zv3 := hrow3.frozen fn
    obtain ⟨p1, n1, c1, hsl1⟩ := codeSlc (H3.out.1.st.mds fn hfn)
    rw [hsl1] at xv3
    obtain ⟨h5, c5⟩ := H3.out.1.setMade hfn hmv3 v true (Or.inr ⟨rfl, ⟨vb3, 0, none⟩, _, vcap3, hv3⟩) (fun _ => H3.out.2.2.2.mono (fun t ht => List.mem_append.2 (Or.inr ht)))
    have HQ := hid (show ComeE w B mb m F A s' en L E (w3.setCell ⟨vb, fn, none⟩ v) from by
      rw [HC.out]
      refine ⟨A3, _, _, h5, SameG.of H3.out.2.1, (H3.out.2.2.1.mono (q := No5) (fun _ h => h.elim)).trans (c5.mono (q := No5) (fun d hd => by unfold No5; omega)), fun t ht => List.mem_append.2 (Or.inl ht), fun i => fb_of H3.out.2.1 i⟩)
    have hne2 : ¬ vb = mb := fun e => hmb e.symm
    have hnp : ¬ vb = pb := by
      have hpbB : pb < B := by
        obtain ⟨pb', po', pc', hpv', hpl, _⟩ := H3.out.1.cp
        have e2 : w3.cell? ⟨mb, 0, none⟩ = some A3.g.pv := (cell_heap H3.out.1.st.lay.run).trans rfl
        rw [(HC0.out w3 hbw).2.1, hpv'] at e2
        injection e2 with e2
        injection e2 with e2 _ _
        injection e2 with e2
        injection e2 with e2 _
        omega
      omega
    have HS5 := hid (show (w3.setCell ⟨vb, fn, none⟩ v).cell? ⟨mb, 2, none⟩ = some (.slice (some ⟨vb, 0, none⟩) m vcap) ∧ (w3.setCell ⟨vb, fn, none⟩ v).cell? ⟨mb, 0, none⟩ = some (.slice (some ⟨pb, po, none⟩) m pc) ∧ (w3.setCell ⟨vb, fn, none⟩ v).cell? ⟨pb, po + fn * 3 + 2, none⟩ = some (.slice (some ⟨cb, co, none⟩) cn cc) from by
      obtain ⟨a1, a2, a3⟩ := HC0.out w3 hbw
      exact ⟨by rw [World.cell?_setCell_far _ _ _ _ hne2]; exact a1, by rw [World.cell?_setCell_far _ _ _ _ hne2]; exact a2, by rw [World.cell?_setCell_far _ _ _ _ hnp]; exact a3⟩)
    clear h5 c5 hrow3 hsl1 hmv3 H3 HC0 HR
    subst hv3
    refine lexW_sole (fun K hK => ?_)
    go_simp
    refine hK.out _ _ HS5.out ?_
    clear hK K
    refine lexW_done ?_
    go_wp2
    go_end0
    exact ⟨rfl, HQ.out⟩
end Go.Proofs.YtkafkipjedpohaaGreatDoor

/-
  upshiftref's returns.
-/
namespace Go.Proofs.YtkafkipjedpohaaGreatDoor
open Go.RowKit

/-- What upshiftref's calls that turn the frames leave of a run. -/
def AfterF (w w' : World) (B rb : Nat) (A : Ad) (s' : Mc) : Prop := ∃ A', LayA w' B rb A' s' ∧ A'.pv = A.pv ∧ Ch B Five A.tag A'.tag w w'
end Go.Proofs.YtkafkipjedpohaaGreatDoor

/-
  upshiftref's Head.
-/
namespace Go.Proofs.YtkafkipjedpohaaGreatDoor
open Go.RowKit

def jumpsTo (f : PF) (i k : Nat) : Bool := (f.op k == 10 || f.op k == 11) && f.ar k == (i : Int)
end Go.Proofs.YtkafkipjedpohaaGreatDoor

/-
  upshiftref's Headers.
-/
namespace Go.Proofs.YtkafkipjedpohaaGreatDoor
open Go.RowKit

/-- The heads of a function below an instruction. -/
def headsTo (f : PF) (k : Nat) : List Nat := (List.range k).filter (headP f)
theorem headsTo_succ (f : PF) (k : Nat) : headsTo f (k + 1) = headsTo f k ++ (if headP f k = true then [k] else []) := by
  unfold headsTo
  rw [List.range_succ, List.filter_append]
  cases h : headP f k <;> simp [h]
theorem headsTo_len (f : PF) (k : Nat) : (headsTo f k).length ≤ k := by
  unfold headsTo
  have h := List.length_filter_le (headP f) (List.range k)
  simpa using h
theorem Row.untag {w : World} {B : Nat} {tag : Nat → Nat} {c : Nat} {e : TypeId} {sz : Nat} {v : Value} {n : Nat} {f : Nat → Value} (h : Row w B tag c e sz v n f) : Row w B (fun _ => 0) 0 e sz v n f := by
  rcases h with h | ⟨b, cap, cur, hv, hb, ht, hh, hc⟩
  · exact Or.inl h
  · exact Or.inr ⟨b, cap, cur, hv, hb, rfl, hh, hc⟩
def headCell (l : List Nat) : Nat → Value := fun i => .int .i64 ((l.getD i 0 : Nat) : Int)

theorem headCell_snoc (l : List Nat) (j i : Nat) (hi : i < l.length + 1) : (if i < l.length * 1 then headCell l i else [Value.int .i64 (j : Int)].getD (i - l.length * 1) (.bool false)) = headCell (l ++ [j]) i := by
  unfold headCell
  by_cases h : i < l.length
  · rw [if_pos (by omega), List.getD_eq_getElem?_getD, List.getD_eq_getElem?_getD, List.getElem?_append_left h]
  · obtain rfl : i = l.length := by omega
    rw [if_neg (by omega)]
    simp [List.getD_eq_getElem?_getD]

theorem Tryz.infoInt : (Tryz.prog.info? 3).map (fun i => (i.zero, i.size, i.bytes)) = some (some (.int .i64 0), 1, 8) := by kernel_rfl

end Go.Proofs.YtkafkipjedpohaaGreatDoor

/-
  Lists that are held: append to a row, the row itself still there; marks stay.
-/
namespace Go.Proofs.YtkafkipjedpohaaGreatDoor
open Go.RowKit

end Go.Proofs.YtkafkipjedpohaaGreatDoor

/-
  upshiftlaw's World and Hold in memory: the lists that came out, full of their marks.
-/
namespace Go.Proofs.YtkafkipjedpohaaGreatDoor
open Go.RowKit

/-- A list whose n elements are all of the same cells g, in a block that the tags let stand (or none). -/
def Full (w : World) (B : Nat) (tag : Nat → Nat) (Kd : Nat → Prop) (sz : Nat) (v : Value) (g : Nat → Value) : Prop :=
  ∃ p n cap, v = .slice p n cap ∧ n ≤ 200003 ∧ (0 < n → ∃ b, p = some ⟨b, 0, none⟩ ∧ B ≤ b ∧ Kd (tag b) ∧ b < w.heap.size ∧ ∀ j, j < n * sz → w.cell? ⟨b, j, none⟩ = some (g (j % sz)))

/-- The mark of the q-th list of a kind. -/
def mrk (q : Nat) : Int := -1000 - (q : Int)
def vmark (q : Nat) : Nat → Value := fun i => if i = 0 then .int .i64 (mrk q) else .int .i64 0
def fmark (q : Nat) : Nat → Value := fun i => if i = 0 then .int .i64 (mrk q) else if i = 1 then .int .i64 0 else .slice none 0 0
def imark (q : Nat) : Nat → Value := fun _ => .int .i64 (mrk q)

/-- The four kinds of lists that are held: of values, of frames, of arrays, of numbers: the type of an entry, how many cells an element has, its mark. -/
def hT : Nat → TypeId
  | 0 => 44
  | 1 => 50
  | 2 => 51
  | _ => 66
def hsz : Nat → Nat
  | 0 => 2
  | 1 => 4
  | _ => 1
def hmark (XB : Nat → Nat) : Nat → Nat → Nat → Value
  | 0, q => vmark q
  | 1, q => fmark q
  | 2, q => fun _ => .slice (some ⟨XB q, 0, none⟩) 1 1
  | _, q => imark q

/-- Where the parts of a World lie. -/
structure AdH where
  tag : Nat → Nat
  cv : Value
  pv : Value
  hv : Nat → Value
  HV : Nat → Nat → Value
  XB : Nat → Nat

def wcells (A : AdH) : Array Value := #[A.cv, A.pv, A.hv 0, A.hv 1, A.hv 2, A.hv 3]

/-- Tags that no list that came out may bear. -/
def Wt (d : Nat) : Prop := d = 0 ∨ d = 3 ∨ d = 4 ∨ d = 5 ∨ d = 6 ∨ d = 7 ∨ d = 8

/-- A World; of each kind k n k lists are held. -/
structure HoldAt (w : World) (B wb : Nat) (A : AdH) (Kd : Nat → Prop) (n : Nat → Nat) : Prop where
  blk : w.heap[wb]? = some (.cells (wcells A) 96 (0, 0))
  own : B ≤ wb ∧ A.tag wb = 0
  le : B ≤ w.heap.size
  kd : ∀ d, Kd d → ¬ Wt d
  row : ∀ k, k < 4 → Row w B A.tag (5 + k) (hT k) 1 (A.hv k) (n k) (A.HV k)
  ent : ∀ k, k < 4 → ∀ i, i < n k → Full w B A.tag Kd (hsz k) (A.HV k i) (hmark A.XB k (i / 4))
  ex : ∀ i, i < n 2 → A.XB (i / 4) < w.heap.size ∧ B ≤ A.XB (i / 4) ∧ Kd (A.tag (A.XB (i / 4))) ∧ w.cell? ⟨A.XB (i / 4), 0, none⟩ = some (.int .i64 (mrk (i / 4))) ∧ w.cell? ⟨A.XB (i / 4), 1, none⟩ = some (.int .i64 0)

end Go.Proofs.YtkafkipjedpohaaGreatDoor

/-
  Lists that are held: the appends of keep, and of the hold's own rows.
-/
namespace Go.Proofs.YtkafkipjedpohaaGreatDoor
open Go.RowKit

/-- A list that is full of marks, and others that were made of it. -/
structure KS (w : World) (B : Nat) (t : Nat → Nat) (c : Nat) (e : TypeId) (sz : Nat) (lv : Value) (nl : Nat) (g : Nat → Value) (vs : List Value) : Prop where
  row : Row w B t c e sz lv nl (fun i => g (i % sz))
  full : ∀ v, v ∈ vs → Full w B t (fun d => d = c) sz v g

/-- The types of the hold's own rows. -/
def hS : Nat → TypeId
  | 0 => 51
  | 1 => 90
  | 2 => 91
  | _ => 92
end Go.Proofs.YtkafkipjedpohaaGreatDoor

/-
  loop.Heads, and the project's Headers.
-/
namespace Go.Proofs.YtkafkipjedpohaaGreatDoor
open Go.RowKit

/-- Marked by the first n instructions. -/
def mkTo (f : PF) (n i : Nat) : Bool := (List.range n).any fun k => decide (i ≤ k) && jumpsTo f i k
theorem mkTo_succ (f : PF) (n i : Nat) : mkTo f (n + 1) i = (mkTo f n i || (decide (i ≤ n) && jumpsTo f i n)) := by
  unfold mkTo
  rw [List.range_succ, List.any_append]
  simp
theorem mkTo_all (f : PF) (i : Nat) : mkTo f f.cn i = headP f i := by
  unfold mkTo headP
  congr 1
  funext k
  unfold jumpsTo
  by_cases h1 : i ≤ k
  · by_cases h2 : f.op k = 10 ∨ f.op k = 11
    · by_cases h3 : f.ar k = (i : Int)
      · have h2' : (f.op k == 10 || f.op k == 11) = true := by simpa using h2
        simp [h1, h2, h3, h2']
      · simp [h1, h3]
    · have h2' : (f.op k == 10 || f.op k == 11) = false := by simpa using h2
      simp [h2, h2']
  · simp [h1]

theorem loopTurns (op : Int) (w : World) : Calls Tryz.prog 69 #[.int .i64 op] w fun e w' => e = .returned (.bool (op == 10 || op == 11)) ∧ w' = w := by
  cases h10 : (op == 10 : Bool)
  · cases h11 : (op == 11 : Bool)
    · go_enter Tryz.func69, Tryz.ntmps69
      go_wp2
      go_ret
      exact ⟨rfl, rfl⟩
    · go_enter Tryz.func69, Tryz.ntmps69
      go_wp2
      go_ret
      exact ⟨rfl, rfl⟩
  · go_enter Tryz.func69, Tryz.ntmps69
    go_wp2
    go_ret
    exact ⟨rfl, rfl⟩

/-- Marks in memory. -/
def MkAt (w wr : World) (f : PF) (n : Nat) : Prop :=
  Below w.heap.size w wr ∧ ∃ cur : Array Value, wr.heap[w.heap.size]? = some (.cells cur 4 (0, 0)) ∧ cur.size = f.cn ∧ ∀ i, i < f.cn → cur[i]? = some (.bool (mkTo f n i))

theorem MkAt.box {w wr : World} {f : PF} {n : Nat} (h : MkAt w wr f n) (o : Obj) : MkAt w (wr.alloc o) f n := by
  obtain ⟨hB, cur, h1, h2⟩ := h
  exact ⟨hB.alloc hB.size o, cur, (Below.heap_alloc _ _ _ (heap_lt h1)).trans h1, h2⟩
theorem MkAt.skip {w wr : World} {f : PF} {n : Nat} (h : MkAt w wr f n) (hno : ∀ i, i < f.cn → (decide (i ≤ n) && jumpsTo f i n) = false) : MkAt w wr f (n + 1) := by
  obtain ⟨hB, cur, h1, h2, h3⟩ := h
  exact ⟨hB, cur, h1, h2, fun i hi => by rw [h3 i hi, mkTo_succ, hno i hi, Bool.or_false]⟩
theorem MkAt.mark {w wr : World} {f : PF} {n a : Nat} (h : MkAt w wr f n) (ha : f.ar n = (a : Int)) (hj : (f.op n == 10 || f.op n == 11) = true) (hle : a ≤ n) : MkAt w (wr.setCell ⟨w.heap.size, a, none⟩ (.bool true)) f (n + 1) := by
  obtain ⟨hB, cur, h1, h2, h3⟩ := h
  refine ⟨hB.setCell (Nat.le_refl _) _, cur.setIfInBounds a (.bool true), heap_set h1 _, by simpa using h2, fun i hi => ?_⟩
  rw [Array.getElem?_setIfInBounds]
  by_cases e : a = i
  · subst e
    rw [if_pos rfl, if_pos (by omega), mkTo_succ]
    have : (decide (a ≤ n) && jumpsTo f a n) = true := by unfold jumpsTo; rw [hj, ha]; simp [hle]
    rw [this, Bool.or_true]
  · rw [if_neg e, h3 i hi, mkTo_succ]
    have : (decide (i ≤ n) && jumpsTo f i n) = false := by
      unfold jumpsTo
      have : (f.ar n == (i : Int)) = false := by rw [ha]; simp; omega
      rw [this]; simp
    rw [this, Bool.or_false]

set_option maxRecDepth 100000 in
set_option maxHeartbeats 1000000 in
theorem heads_any (w : World) (cb co cc : Nat) (f : PF) (hc : CodeAt w cb co f.cn f.op f.ar) (hcb : cb < w.heap.size) (hn : f.cn ≤ 64) (hleg : ∀ k, k < f.cn → (f.op k = 10 ∨ f.op k = 11) → 0 ≤ f.ar k ∧ f.ar k < f.cn) :
    Calls Tryz.prog 47 #[.slice (some ⟨cb, co, none⟩) f.cn cc] w fun e w' => ∃ v, e = .returned v ∧ Row w' w.heap.size (fun _ => 0) 0 3 1 v (headsTo f f.cn).length (headCell (headsTo f f.cn)) ∧ Below w.heap.size w w' := by
  have hmk4 : ∀ wx : World, (Instr.makeSlice 142 (.int .i64 (f.cn : Int)) (.int .i64 (f.cn : Int))).run Tryz.prog wx = .ok (.slice (some ⟨wx.heap.size, 0, none⟩) f.cn f.cn) (wx.alloc (.cells (kArr f.cn) 4)) :=
    fun wx => run_make_row' (P := Tryz.prog) 142 4 _ 1 Tryz.underlying142 Tryz.info4 rfl .i64 .i64 f.cn (by omega) (by omega) wx
  have HC := hid (And.intro hc hleg)
  have hst : MkAt w (w.alloc (.cells (kArr f.cn) 4)) f 0 := by
    refine ⟨(Below.refl _ _).alloc (Nat.le_refl _) _, kArr f.cn, Go.Deep.blk_alloc_new _ _, by simp [kArr, size_madeCells], fun i hi => ?_⟩
    have e1 : i % 1 = 0 := by omega
    simp [kArr, madeCells, hi, mkTo, e1]
  have HS := hid hst
  clear hc hleg hst
  go_enter Tryz.func47, Tryz.ntmps47
  go_wp2
  go_loopw [13] (fun v wr => ∃ k : Nat, k ≤ f.cn ∧ v = .int .i64 k ∧ MkAt w wr f k) (fun v _ => f.cn - (intOf v).toNat)
  case atStart => exact ⟨0, Nat.zero_le _, rfl, HS.out⟩
  case round =>
    clear HS hmk4
    obtain ⟨k, hk, rfl, hM⟩ := hrel
    by_cases hlt : k < f.cn
    · have hd : decide ((k : Int) < (f.cn : Int)) = true := by simp; omega
      obtain ⟨c0, c1⟩ := HC.out.1 k hlt
      replace c0 := (hM.1.cell (p := ⟨cb, _, none⟩) hcb).trans c0
      replace c1 := (hM.1.cell (p := ⟨cb, _, none⟩) hcb).trans c1
      have hcbr : cb < wr.heap.size := Nat.lt_of_lt_of_le hcb hM.1.size
      have hwz : w.heap.size < wr.heap.size := heap_lt hM.2.choose_spec.1
      have hlg := HC.out.2 k hlt
      have HM := hid hM
      have ho : Hid (∀ i, (decide (i ≤ k) && jumpsTo f i k) = (decide (i ≤ k) && ((f.op k == 10 || f.op k == 11) && f.ar k == (i : Int)))) := fun _ => rfl
      have HA := hid (fun a => hM.mark (a := a))
      generalize hop : f.op k = op at *
      generalize har : f.ar k = ar at *
      have HO := hid (And.intro hop har)
      clear hM hop har
      by_cases hj : (op == 10 || op == 11) = true
      · have hl2 := hlg (by simpa using hj)
        obtain ⟨a, rfl⟩ : ∃ a : Nat, ar = a := ⟨ar.toNat, by omega⟩
        by_cases hle : a ≤ k
        · have hdl : decide ((a : Int) ≤ (k : Int)) = true := by simpa using hle
          obtain ⟨_, cur, h1, h2, h3⟩ := HM.out
          have y0 : wr.cell? ⟨w.heap.size, a, none⟩ = some (.bool (mkTo f k a)) := (cell_heap h1).trans (h3 a (by omega))
          have z0 : wr.frozen? ⟨w.heap.size, a, none⟩ = false := frozen_heap h1
          have i0 : (0 : Int) ≤ (a : Int) := by omega
          have i1 : (a : Int) < (f.cn : Int) := by omega
          have HN := hid ((HA.out a rfl hj hle).box (.cells #[.int .i64 op, .int .i64 a] 33))
          generalize mkTo f k a = u0 at y0
          clear h1 h2 h3 hlg
          go_wp2_with fail
          refine (loopTurns op _).mono ?_
          rintro e w' ⟨rfl, rfl⟩
          rw [hj]
          go_wp2
          exact ⟨⟨k + 1, by omega, by go_num, HN.out⟩, by simp [intOf]; omega⟩
        · have hdl : decide ((a : Int) ≤ (k : Int)) = false := by simp; omega
          have HN := hid ((HM.out.skip (fun i hi => by
            rw [ho.out]
            by_cases e : i = a
            · subst e; simp; omega
            · have : ((a : Int) == (i : Int)) = false := by simp; omega
              rw [this]; simp)).box (.cells #[.int .i64 op, .int .i64 a] 33))
          clear hlg
          go_wp2_with fail
          refine (loopTurns op _).mono ?_
          rintro e w' ⟨rfl, rfl⟩
          rw [hj]
          go_wp2
          exact ⟨⟨k + 1, by omega, by go_num, HN.out⟩, by simp [intOf]; omega⟩
      · have hj2 : (op == 10 || op == 11) = false := by simpa using hj
        have HN := hid ((HM.out.skip (fun i hi => by rw [ho.out, hj2]; simp)).box (.cells #[.int .i64 op, .int .i64 ar] 33))
        clear hlg hj
        go_wp2_with fail
        refine (loopTurns op _).mono ?_
        rintro e w' ⟨rfl, rfl⟩
        rw [hj2]
        go_wp2
        exact ⟨⟨k + 1, by omega, by go_num, HN.out⟩, by simp [intOf]; omega⟩
    · have hd : decide ((k : Int) < (f.cn : Int)) = false := by simp; omega
      obtain rfl : k = f.cn := by omega
      have HM := hid hM
      clear hM
      go_wp2
      go_loopw [6, 34] (fun o v wz => ∃ j : Nat, j ≤ f.cn ∧ v = .int .i64 j ∧ MkAt w wz f f.cn ∧ ∃ t : Nat → Nat, t w.heap.size = 1 ∧ Row wz w.heap.size t 0 3 1 o (headsTo f j).length (headCell (headsTo f j))) (fun _ v _ => f.cn - (intOf v).toNat)
      case atStart => exact ⟨0, Nat.zero_le _, rfl, HM.out, fun _ => 1, rfl, Row.nil _ _ _ _ _ _ _⟩
      case round =>
        clear HM
        obtain ⟨j, hj, rfl, hM, t, ht, hR⟩ := hrel
        by_cases hlt : j < f.cn
        · have hd : decide ((j : Int) < (f.cn : Int)) = true := by simp; omega
          obtain ⟨hB, cur, h1, h2, h3⟩ := hM
          have y0 : wr.cell? ⟨w.heap.size, j, none⟩ = some (.bool (mkTo f f.cn j)) := (cell_heap h1).trans (h3 j hlt)
          rw [mkTo_all] at y0
          have i0 : (0 : Int) ≤ (j : Int) := by omega
          have i1 : (j : Int) < (f.cn : Int) := by omega
          have hwz : w.heap.size < wr.heap.size := heap_lt h1
          have HM := hid (show MkAt w wr f f.cn from ⟨hB, cur, h1, h2, h3⟩)
          have HR := hid (And.intro ht hR)
          clear hB h1 h2 h3 ht hR
          cases hdh : headP f j with
          | true =>
            rw [hdh] at y0
            have hsucc : Hid (headsTo f (j + 1) = headsTo f j ++ [j]) := by unfold Hid; rw [headsTo_succ, hdh]; rfl
            clear hdh
            obtain ⟨inf, hi, hz0, hz1, hz2⟩ : ∃ i, Tryz.prog.info? 3 = some i ∧ i.zero = some (.int .i64 0) ∧ i.size = 1 ∧ i.bytes = 8 := by
              obtain ⟨i, hi, hzz⟩ := Option.map_eq_some_iff.1 Tryz.infoInt
              simp only [Prod.mk.injEq] at hzz
              exact ⟨i, hi, hzz.1, hzz.2.1, hzz.2.2⟩
            have hl := headsTo_len f j
            have hwb : w.heap.size ≤ wr.heap.size := by omega
            go_wp2_with (at_builtin; refine wpList_append_lies _ rfl _ _ _ rfl w.heap.size 3 inf _ 1 8 Tryz.underlying66 hi hz0 hz1 hz2 rfl (by decide) _ (headsTo f j).length _ rfl (HR.out.2.owns.alloc _) ⟨wr.heap.size, 0, none⟩ 1 1 [.int .i64 j] rfl rfl (World.news_of_block (Go.Deep.blk_alloc_new wr _)) (by intro u hu; simp at hu; subst hu; rfl) (by omega) (by unfold maxLen; omega) (by omega) (by simp; omega) (wr.heap.size + 1) (by simp) ?_; intro g cap w3 hown hgrow hat hlt3)
            have hX : Ch w.heap.size (fun _ => False) t t wr (wr.alloc (.cells #[.int .i64 j] 3)) := Ch.of_below ((Below.refl _ _).alloc (Nat.le_refl _) _)
            obtain ⟨tag', hst, hgc⟩ := (HR.out.2.keep hX (fun h => h)).grew hown hgrow (by rcases hat with h | h; exact Or.inl h; right; rw [h]; simp) rfl
            have HN := hid (show MkAt w w3 f f.cn ∧ ∃ t : Nat → Nat, t w.heap.size = 1 ∧ Row w3 w.heap.size t 0 3 1 (.slice (some ⟨g, 0, none⟩) ((headsTo f j).length + 1) cap) ((headsTo f j).length + 1) (headCell (headsTo f j ++ [j])) from by
              obtain ⟨hB, cur, h1, h2, h3⟩ := HM.out
              have hc2 := (hX.mono (q := fun d => d = 0) (fun _ h => h.elim)).trans hgc
              refine ⟨⟨hB.trans (hc2.below hwb), cur, (hc2.block _ hwz (Or.inr (by rw [HR.out.1]; omega))).trans h1, h2, h3⟩, tag', (hc2.tags _ hwz).trans HR.out.1, hst.congr (fun i hi => headCell_snoc _ _ i (by omega))⟩)
            clear hX hst hgc hown hgrow
            go_roundw
            case rel => exact ⟨j + 1, by omega, by go_num, HN.out.1, by rw [hsucc.out, List.length_append]; exact HN.out.2⟩
            case measure => simp [intOf]; omega
          | false =>
            rw [hdh] at y0
            have hsucc : Hid (headsTo f (j + 1) = headsTo f j) := by unfold Hid; rw [headsTo_succ, hdh]; simp
            go_wp2
            go_roundw
            case rel => exact ⟨j + 1, by omega, by go_num, HM.out, t, HR.out.1, by rw [hsucc.out]; exact HR.out.2⟩
            case measure => simp [intOf]; omega
        · have hd : decide ((j : Int) < (f.cn : Int)) = false := by simp; omega
          obtain rfl : j = f.cn := by omega
          have HQ := hid (And.intro hR.untag hM.1)
          clear hM hR ht
          go_wp2
          go_ret
          exact ⟨_, rfl, HQ.out⟩
end Go.Proofs.YtkafkipjedpohaaGreatDoor
