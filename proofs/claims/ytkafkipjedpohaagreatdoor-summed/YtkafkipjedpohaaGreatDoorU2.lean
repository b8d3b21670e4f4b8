import Derived.Test.YtkafkipjedpohaaGreatDoorV3
import Derived.Test.YtkafkipjedpohaaGreatDoorM9
import Derived.Test.YtkafkipjedpohaaGreatDoorM16

/-
  upshiftlaw's World and Hold in memory: the lists that came out, full of their marks.
-/
namespace Go.Proofs.YtkafkipjedpohaaGreatDoor
open Go.RowKit

/-- A list whose n elements are all of the same cells g, in a block that the tags let stand (or none). -/
def Full (w : World) (B : Nat) (tag : Nat → Nat) (Kd : Nat → Prop) (sz : Nat) (v : Value) (g : Nat → Value) : Prop :=
  ∃ p n cap, v = .slice p n cap ∧ n ≤ 200003 ∧ (0 < n → ∃ b, p = some ⟨b, 0, none⟩ ∧ B ≤ b ∧ Kd (tag b) ∧ b < w.heap.size ∧ ∀ j, j < n * sz → w.cell? ⟨b, j, none⟩ = some (g (j % sz)))

/-- The mark of the q-th list of a kind. -/
def mrk (q : Nat) : Int := -1000 - (q : Int)
def vmark (q : Nat) : Nat → Value := fun i => if i = 0 then .int .i64 (mrk q) else .int .i64 0
def fmark (q : Nat) : Nat → Value := fun i => if i = 0 then .int .i64 (mrk q) else if i = 1 then .int .i64 0 else .slice none 0 0
def imark (q : Nat) : Nat → Value := fun _ => .int .i64 (mrk q)

/-- The four kinds of lists that are held: of values, of frames, of arrays, of numbers: the type of an entry, how many cells an element has, its mark. -/
def hT : Nat → TypeId
  | 0 => 44
  | 1 => 50
  | 2 => 51
  | _ => 66
def hsz : Nat → Nat
  | 0 => 2
  | 1 => 4
  | _ => 1
def hmark (XB : Nat → Nat) : Nat → Nat → Nat → Value
  | 0, q => vmark q
  | 1, q => fmark q
  | 2, q => fun _ => .slice (some ⟨XB q, 0, none⟩) 1 1
  | _, q => imark q

/-- Where the parts of a World lie. -/
structure AdH where
  tag : Nat → Nat
  cv : Value
  pv : Value
  hv : Nat → Value
  HV : Nat → Nat → Value
  XB : Nat → Nat

def wcells (A : AdH) : Array Value := #[A.cv, A.pv, A.hv 0, A.hv 1, A.hv 2, A.hv 3]

/-- Tags that no list that came out may bear. -/
def Wt (d : Nat) : Prop := d = 0 ∨ d = 3 ∨ d = 4 ∨ d = 5 ∨ d = 6 ∨ d = 7 ∨ d = 8

/-- A World; of each kind k n k lists are held. -/
structure HoldAt (w : World) (B wb : Nat) (A : AdH) (Kd : Nat → Prop) (n : Nat → Nat) : Prop where
  blk : w.heap[wb]? = some (.cells (wcells A) 96 (0, 0))
  own : B ≤ wb ∧ A.tag wb = 0
  le : B ≤ w.heap.size
  kd : ∀ d, Kd d → ¬ Wt d
  row : ∀ k, k < 4 → Row w B A.tag (5 + k) (hT k) 1 (A.hv k) (n k) (A.HV k)
  ent : ∀ k, k < 4 → ∀ i, i < n k → Full w B A.tag Kd (hsz k) (A.HV k i) (hmark A.XB k (i / 4))
  ex : ∀ i, i < n 2 → A.XB (i / 4) < w.heap.size ∧ B ≤ A.XB (i / 4) ∧ Kd (A.tag (A.XB (i / 4))) ∧ w.cell? ⟨A.XB (i / 4), 0, none⟩ = some (.int .i64 (mrk (i / 4))) ∧ w.cell? ⟨A.XB (i / 4), 1, none⟩ = some (.int .i64 0)

end Go.Proofs.YtkafkipjedpohaaGreatDoor

/-
  Lists that are held: the appends of keep, and of the hold's own rows.
-/
namespace Go.Proofs.YtkafkipjedpohaaGreatDoor
open Go.RowKit

/-- A list that is full of marks, and others that were made of it. -/
structure KS (w : World) (B : Nat) (t : Nat → Nat) (c : Nat) (e : TypeId) (sz : Nat) (lv : Value) (nl : Nat) (g : Nat → Value) (vs : List Value) : Prop where
  row : Row w B t c e sz lv nl (fun i => g (i % sz))
  full : ∀ v, v ∈ vs → Full w B t (fun d => d = c) sz v g

/-- The types of the hold's own rows. -/
def hS : Nat → TypeId
  | 0 => 51
  | 1 => 90
  | 2 => 91
  | _ => 92
end Go.Proofs.YtkafkipjedpohaaGreatDoor

/-
  loop.Heads, and the project's Headers.
-/
namespace Go.Proofs.YtkafkipjedpohaaGreatDoor
open Go.RowKit

/-- Marked by the first n instructions. -/
def mkTo (f : PF) (n i : Nat) : Bool := (List.range n).any fun k => decide (i ≤ k) && jumpsTo f i k
theorem mkTo_succ (f : PF) (n i : Nat) : mkTo f (n + 1) i = (mkTo f n i || (decide (i ≤ n) && jumpsTo f i n)) := by
  unfold mkTo
  rw [List.range_succ, List.any_append]
  simp
theorem mkTo_all (f : PF) (i : Nat) : mkTo f f.cn i = headP f i := by
  unfold mkTo headP
  congr 1
  funext k
  unfold jumpsTo
  by_cases h1 : i ≤ k
  · by_cases h2 : f.op k = 10 ∨ f.op k = 11
    · by_cases h3 : f.ar k = (i : Int)
      · have h2' : (f.op k == 10 || f.op k == 11) = true := by simpa using h2
        simp [h1, h2, h3, h2']
      · simp [h1, h3]
    · have h2' : (f.op k == 10 || f.op k == 11) = false := by simpa using h2
      simp [h2, h2']
  · simp [h1]

theorem loopTurns (op : Int) (w : World) : Calls Tryz.prog 69 #[.int .i64 op] w fun e w' => e = .returned (.bool (op == 10 || op == 11)) ∧ w' = w := by
  cases h10 : (op == 10 : Bool)
  · cases h11 : (op == 11 : Bool)
    · go_enter Tryz.func69, Tryz.ntmps69
      go_wp2
      go_ret
      exact ⟨rfl, rfl⟩
    · go_enter Tryz.func69, Tryz.ntmps69
      go_wp2
      go_ret
      exact ⟨rfl, rfl⟩
  · go_enter Tryz.func69, Tryz.ntmps69
    go_wp2
    go_ret
    exact ⟨rfl, rfl⟩

/-- Marks in memory. -/
def MkAt (w wr : World) (f : PF) (n : Nat) : Prop :=
  Below w.heap.size w wr ∧ ∃ cur : Array Value, wr.heap[w.heap.size]? = some (.cells cur 4 (0, 0)) ∧ cur.size = f.cn ∧ ∀ i, i < f.cn → cur[i]? = some (.bool (mkTo f n i))

theorem MkAt.box {w wr : World} {f : PF} {n : Nat} (h : MkAt w wr f n) (o : Obj) : MkAt w (wr.alloc o) f n := by
  obtain ⟨hB, cur, h1, h2⟩ := h
  exact ⟨hB.alloc hB.size o, cur, (Below.heap_alloc _ _ _ (heap_lt h1)).trans h1, h2⟩
theorem MkAt.skip {w wr : World} {f : PF} {n : Nat} (h : MkAt w wr f n) (hno : ∀ i, i < f.cn → (decide (i ≤ n) && jumpsTo f i n) = false) : MkAt w wr f (n + 1) := by
  obtain ⟨hB, cur, h1, h2, h3⟩ := h
  exact ⟨hB, cur, h1, h2, fun i hi => by rw [h3 i hi, mkTo_succ, hno i hi, Bool.or_false]⟩
theorem MkAt.mark {w wr : World} {f : PF} {n a : Nat} (h : MkAt w wr f n) (ha : f.ar n = (a : Int)) (hj : (f.op n == 10 || f.op n == 11) = true) (hle : a ≤ n) : MkAt w (wr.setCell ⟨w.heap.size, a, none⟩ (.bool true)) f (n + 1) := by
  obtain ⟨hB, cur, h1, h2, h3⟩ := h
  refine ⟨hB.setCell (Nat.le_refl _) _, cur.setIfInBounds a (.bool true), heap_set h1 _, by simpa using h2, fun i hi => ?_⟩
  rw [Array.getElem?_setIfInBounds]
  by_cases e : a = i
  · subst e
    rw [if_pos rfl, if_pos (by omega), mkTo_succ]
    have : (decide (a ≤ n) && jumpsTo f a n) = true := by unfold jumpsTo; rw [hj, ha]; simp [hle]
    rw [this, Bool.or_true]
  · rw [if_neg e, h3 i hi, mkTo_succ]
    have : (decide (i ≤ n) && jumpsTo f i n) = false := by
      unfold jumpsTo
      have : (f.ar n == (i : Int)) = false := by rw [ha]; simp; omega
      rw [this]; simp
    rw [this, Bool.or_false]

set_option maxRecDepth 100000 in
set_option maxHeartbeats 1000000 in
theorem heads_any (w : World) (cb co cc : Nat) (f : PF) (hc : CodeAt w cb co f.cn f.op f.ar) (hcb : cb < w.heap.size) (hn : f.cn ≤ 64) (hleg : ∀ k, k < f.cn → (f.op k = 10 ∨ f.op k = 11) → 0 ≤ f.ar k ∧ f.ar k < f.cn) :
    Calls Tryz.prog 47 #[.slice (some ⟨cb, co, none⟩) f.cn cc] w fun e w' => ∃ v, e = .returned v ∧ Row w' w.heap.size (fun _ => 0) 0 3 1 v (headsTo f f.cn).length (headCell (headsTo f f.cn)) ∧ Below w.heap.size w w' := by
  have hmk4 : ∀ wx : World, (Instr.makeSlice 142 (.int .i64 (f.cn : Int)) (.int .i64 (f.cn : Int))).run Tryz.prog wx = .ok (.slice (some ⟨wx.heap.size, 0, none⟩) f.cn f.cn) (wx.alloc (.cells (kArr f.cn) 4)) :=
    fun wx => run_make_row' (P := Tryz.prog) 142 4 _ 1 Tryz.underlying142 Tryz.info4 rfl .i64 .i64 f.cn (by omega) (by omega) wx
  have HC := hid (And.intro hc hleg)
  have hst : MkAt w (w.alloc (.cells (kArr f.cn) 4)) f 0 := by
    refine ⟨(Below.refl _ _).alloc (Nat.le_refl _) _, kArr f.cn, Go.Deep.blk_alloc_new _ _, by simp [kArr, size_madeCells], fun i hi => ?_⟩
    have e1 : i % 1 = 0 := by omega
    simp [kArr, madeCells, hi, mkTo, e1]
  have HS := hid hst
  clear hc hleg hst
  go_enter Tryz.func47, Tryz.ntmps47
  go_wp2
  go_loopw [13] (fun v wr => ∃ k : Nat, k ≤ f.cn ∧ v = .int .i64 k ∧ MkAt w wr f k) (fun v _ => f.cn - (intOf v).toNat)
  case atStart => exact ⟨0, Nat.zero_le _, rfl, HS.out⟩
  case round =>
    clear HS hmk4
    obtain ⟨k, hk, rfl, hM⟩ := hrel
    by_cases hlt : k < f.cn
    · have hd : decide ((k : Int) < (f.cn : Int)) = true := by simp; omega
      obtain ⟨c0, c1⟩ := HC.out.1 k hlt
      replace c0 := (hM.1.cell (p := ⟨cb, _, none⟩) hcb).trans c0
      replace c1 := (hM.1.cell (p := ⟨cb, _, none⟩) hcb).trans c1
      have hcbr : cb < wr.heap.size := Nat.lt_of_lt_of_le hcb hM.1.size
      have hwz : w.heap.size < wr.heap.size := heap_lt hM.2.choose_spec.1
      have hlg := HC.out.2 k hlt
      have HM := hid hM
      have ho : Hid (∀ i, (decide (i ≤ k) && jumpsTo f i k) = (decide (i ≤ k) && ((f.op k == 10 || f.op k == 11) && f.ar k == (i : Int)))) := fun _ => rfl
      have HA := hid (fun a => hM.mark (a := a))
      generalize hop : f.op k = op at *
      generalize har : f.ar k = ar at *
      have HO := hid (And.intro hop har)
      clear hM hop har
      by_cases hj : (op == 10 || op == 11) = true
      · have hl2 := hlg (by simpa using hj)
        obtain ⟨a, rfl⟩ : ∃ a : Nat, ar = a := ⟨ar.toNat, by omega⟩
        by_cases hle : a ≤ k
        · have hdl : decide ((a : Int) ≤ (k : Int)) = true := by simpa using hle
          obtain ⟨_, cur, h1, h2, h3⟩ := HM.out
          have y0 : wr.cell? ⟨w.heap.size, a, none⟩ = some (.bool (mkTo f k a)) := (cell_heap h1).trans (h3 a (by omega))
          have z0 : wr.frozen? ⟨w.heap.size, a, none⟩ = false := frozen_heap h1
          have i0 : (0 : Int) ≤ (a : Int) := by omega
          have i1 : (a : Int) < (f.cn : Int) := by omega
          have HN := hid ((HA.out a rfl hj hle).box (.cells #[.int .i64 op, .int .i64 a] 33))
          generalize mkTo f k a = u0 at y0
          clear h1 h2 h3 hlg
          go_wp2_with fail
          refine (loopTurns op _).mono ?_
          rintro e w' ⟨rfl, rfl⟩
          rw [hj]
          go_wp2
          exact ⟨⟨k + 1, by omega, by go_num, HN.out⟩, by simp [intOf]; omega⟩
        · have hdl : decide ((a : Int) ≤ (k : Int)) = false := by simp; omega
          have HN := hid ((HM.out.skip (fun i hi => by
            rw [ho.out]
            by_cases e : i = a
            · subst e; simp; omega
            · have : ((a : Int) == (i : Int)) = false := by simp; omega
              rw [this]; simp)).box (.cells #[.int .i64 op, .int .i64 a] 33))
          clear hlg
          go_wp2_with fail
          refine (loopTurns op _).mono ?_
          rintro e w' ⟨rfl, rfl⟩
          rw [hj]
          go_wp2
          exact ⟨⟨k + 1, by omega, by go_num, HN.out⟩, by simp [intOf]; omega⟩
      · have hj2 : (op == 10 || op == 11) = false := by simpa using hj
        have HN := hid ((HM.out.skip (fun i hi => by rw [ho.out, hj2]; simp)).box (.cells #[.int .i64 op, .int .i64 ar] 33))
        clear hlg hj
        go_wp2_with fail
        refine (loopTurns op _).mono ?_
        rintro e w' ⟨rfl, rfl⟩
        rw [hj2]
        go_wp2
        exact ⟨⟨k + 1, by omega, by go_num, HN.out⟩, by simp [intOf]; omega⟩
    · have hd : decide ((k : Int) < (f.cn : Int)) = false := by simp; omega
      obtain rfl : k = f.cn := by omega
      have HM := hid hM
      clear hM
      go_wp2
      go_loopw [6, 34] (fun o v wz => ∃ j : Nat, j ≤ f.cn ∧ v = .int .i64 j ∧ MkAt w wz f f.cn ∧ ∃ t : Nat → Nat, t w.heap.size = 1 ∧ Row wz w.heap.size t 0 3 1 o (headsTo f j).length (headCell (headsTo f j))) (fun _ v _ => f.cn - (intOf v).toNat)
      case atStart => exact ⟨0, Nat.zero_le _, rfl, HM.out, fun _ => 1, rfl, Row.nil _ _ _ _ _ _ _⟩
      case round =>
        clear HM
        obtain ⟨j, hj, rfl, hM, t, ht, hR⟩ := hrel
        by_cases hlt : j < f.cn
        · have hd : decide ((j : Int) < (f.cn : Int)) = true := by simp; omega
          obtain ⟨hB, cur, h1, h2, h3⟩ := hM
          have y0 : wr.cell? ⟨w.heap.size, j, none⟩ = some (.bool (mkTo f f.cn j)) := (cell_heap h1).trans (h3 j hlt)
          rw [mkTo_all] at y0
          have i0 : (0 : Int) ≤ (j : Int) := by omega
          have i1 : (j : Int) < (f.cn : Int) := by omega
          have hwz : w.heap.size < wr.heap.size := heap_lt h1
          have HM := hid (show MkAt w wr f f.cn from ⟨hB, cur, h1, h2, h3⟩)
          have HR := hid (And.intro ht hR)
          clear hB h1 h2 h3 ht hR
          cases hdh : headP f j with
          | true =>
            rw [hdh] at y0
            have hsucc : Hid (headsTo f (j + 1) = headsTo f j ++ [j]) := by unfold Hid; rw [headsTo_succ, hdh]; rfl
            clear hdh
            obtain ⟨inf, hi, hz0, hz1, hz2⟩ : ∃ i, Tryz.prog.info? 3 = some i ∧ i.zero = some (.int .i64 0) ∧ i.size = 1 ∧ i.bytes = 8 := by
              obtain ⟨i, hi, hzz⟩ := Option.map_eq_some_iff.1 Tryz.infoInt
              simp only [Prod.mk.injEq] at hzz
              exact ⟨i, hi, hzz.1, hzz.2.1, hzz.2.2⟩
            have hl := headsTo_len f j
            have hwb : w.heap.size ≤ wr.heap.size := by omega
            go_wp2_with (at_builtin; refine wpList_append_lies _ rfl _ _ _ rfl w.heap.size 3 inf _ 1 8 Tryz.underlying66 hi hz0 hz1 hz2 rfl (by decide) _ (headsTo f j).length _ rfl (HR.out.2.owns.alloc _) ⟨wr.heap.size, 0, none⟩ 1 1 [.int .i64 j] rfl rfl (World.news_of_block (Go.Deep.blk_alloc_new wr _)) (by intro u hu; simp at hu; subst hu; rfl) (by omega) (by unfold maxLen; omega) (by omega) (by simp; omega) (wr.heap.size + 1) (by simp) ?_; intro g cap w3 hown hgrow hat hlt3)
            have hX : Ch w.heap.size (fun _ => False) t t wr (wr.alloc (.cells #[.int .i64 j] 3)) := Ch.of_below ((Below.refl _ _).alloc (Nat.le_refl _) _)
            obtain ⟨tag', hst, hgc⟩ := (HR.out.2.keep hX (fun h => h)).grew hown hgrow (by rcases hat with h | h; exact Or.inl h; right; rw [h]; simp) rfl
            have HN := hid (show MkAt w w3 f f.cn ∧ ∃ t : Nat → Nat, t w.heap.size = 1 ∧ Row w3 w.heap.size t 0 3 1 (.slice (some ⟨g, 0, none⟩) ((headsTo f j).length + 1) cap) ((headsTo f j).length + 1) (headCell (headsTo f j ++ [j])) from by
              obtain ⟨hB, cur, h1, h2, h3⟩ := HM.out
              have hc2 := (hX.mono (q := fun d => d = 0) (fun _ h => h.elim)).trans hgc
              refine ⟨⟨hB.trans (hc2.below hwb), cur, (hc2.block _ hwz (Or.inr (by rw [HR.out.1]; omega))).trans h1, h2, h3⟩, tag', (hc2.tags _ hwz).trans HR.out.1, hst.congr (fun i hi => headCell_snoc _ _ i (by omega))⟩)
            clear hX hst hgc hown hgrow
            go_roundw
            case rel => exact ⟨j + 1, by omega, by go_num, HN.out.1, by rw [hsucc.out, List.length_append]; exact HN.out.2⟩
            case measure => simp [intOf]; omega
          | false =>
            rw [hdh] at y0
            have hsucc : Hid (headsTo f (j + 1) = headsTo f j) := by unfold Hid; rw [headsTo_succ, hdh]; simp
            go_wp2
            go_roundw
            case rel => exact ⟨j + 1, by omega, by go_num, HM.out, t, HR.out.1, by rw [hsucc.out]; exact HR.out.2⟩
            case measure => simp [intOf]; omega
        · have hd : decide ((j : Int) < (f.cn : Int)) = false := by simp; omega
          obtain rfl : j = f.cn := by omega
          have HQ := hid (And.intro hR.untag hM.1)
          clear hM hR ht
          go_wp2
          go_ret
          exact ⟨_, rfl, HQ.out⟩
end Go.Proofs.YtkafkipjedpohaaGreatDoor

/-
  The project's machine: enter.
-/
namespace Go.Proofs.YtkafkipjedpohaaGreatDoor
open Go.RowKit

set_option maxRecDepth 100000 in
set_option maxHeartbeats 1000000 in
theorem indexOf (w : World) (B : Nat) (v : Value) (l : List Nat) (x : Nat) (hrow : Row w B (fun _ => 0) 0 3 1 v l.length (headCell l)) (hl : l.length ≤ 1000) :
    Calls Tryz.prog 145 #[v, .int .i64 x] w fun e w' => (∃ r, e = .returned (.int .i64 r) ∧ ((0 ≤ r ∧ x ∈ l) ∨ (r = -1 ∧ x ∉ l))) ∧ w' = w := by
  obtain ⟨p, c, hv⟩ : ∃ p c, v = .slice p l.length c := by
    rcases hrow with ⟨h1, h2⟩ | ⟨b, cap, cur, h1, _⟩
    · exact ⟨none, 0, by rw [h1, h2]⟩
    · exact ⟨_, _, h1⟩
  have hcell : ∀ j, j < l.length → ∃ b, p = some ⟨b, 0, none⟩ ∧ w.cell? ⟨b, j, none⟩ = some (.int .i64 (l.getD j 0 : Nat)) := fun j hj => by
    obtain ⟨b, cap, hv2, _⟩ := hrow.form (by omega)
    rw [hv2] at hrow hv
    injection hv with e1 _ _
    exact ⟨b, e1.symm, hrow.cell (i := j) (by omega)⟩
  subst hv
  have HC := hid hcell
  clear hrow hcell
  generalize hln : l.length = ln at *
  have HLN := hid hln
  clear hln
  go_enter Tryz.func145, Tryz.ntmps145
  go_wp2
  go_loopw [8] (fun v wr => ∃ j : Nat, j ≤ ln ∧ v = .int .i64 j ∧ wr = w ∧ ∀ i, i < j → l.getD i 0 ≠ x) (fun v _ => ln - (intOf v).toNat)
  case atStart => exact ⟨0, by omega, rfl, rfl, fun i hi => absurd hi (Nat.not_lt_zero _)⟩
  case round =>
    obtain ⟨j, hj, rfl, hwr, hno⟩ := hrel
    rw [hwr]
    clear hwr wr
    by_cases hlt : j < ln
    · have hdec : decide ((j : Int) < (ln : Int)) = true := by simp; omega
      obtain ⟨b, rfl, y0⟩ := HC.out j hlt
      have i0 : (0 : Int) ≤ (j : Int) := by omega
      have i1 : (j : Int) < (ln : Int) := by omega
      by_cases he : x = l.getD j 0
      · have e1 : ((x : Int) == ((l.getD j 0 : Nat) : Int)) = true := by rw [← he]; simp
        have hmem : x ∈ l := by
          have hjl : j < l.length := by rw [HLN.out]; exact hlt
          rw [he, List.getD_eq_getElem?_getD, List.getElem?_eq_getElem hjl]
          exact List.getElem_mem _
        have HM := hid hmem
        clear hmem he hno
        generalize ((l.getD j 0 : Nat) : Int) = u at *
        go_wp2
        go_ret
        exact ⟨⟨_, rfl, Or.inl ⟨i0, HM.out⟩⟩, rfl⟩
      · have e1 : ((x : Int) == ((l.getD j 0 : Nat) : Int)) = false := by rw [beq_eq_false_iff_ne]; omega
        have HN := hid (show ∀ i, i < j + 1 → l.getD i 0 ≠ x from fun i hi => by
          by_cases e : i = j
          · rw [e]; exact fun h => he h.symm
          · exact hno i (by omega))
        clear he hno
        generalize ((l.getD j 0 : Nat) : Int) = u at *
        go_wp2
        exact ⟨⟨j + 1, by omega, by go_num, by first | trivial | rfl, HN.out⟩, by simp [intOf]; omega⟩
    · have hdec : decide ((j : Int) < (ln : Int)) = false := by simp; omega
      have hnm : x ∉ l := fun hm => by
        obtain ⟨i, hi, e⟩ := List.getElem_of_mem hm
        refine hno i (by rw [HLN.out] at hi; omega) ?_
        rw [List.getD_eq_getElem?_getD, List.getElem?_eq_getElem hi]
        exact e
      have HM := hid hnm
      clear hnm hno
      go_wp2
      go_ret
      exact ⟨⟨_, rfl, Or.inr ⟨by first | trivial | rfl, HM.out⟩⟩, rfl⟩

theorem containsM (w : World) (B : Nat) (v : Value) (l : List Nat) (x : Nat) (hrow : Row w B (fun _ => 0) 0 3 1 v l.length (headCell l)) (hl : l.length ≤ 1000) :
    Calls Tryz.prog 127 #[v, .int .i64 x] w fun e w' => e = .returned (.bool (decide (x ∈ l))) ∧ w' = w := by
  have HI := hid (indexOf w B v l x hrow hl)
  obtain ⟨p, c, hv⟩ : ∃ p c, v = .slice p l.length c := by
    rcases hrow with ⟨h1, h2⟩ | ⟨b, cap, cur, h1, _⟩
    · exact ⟨none, 0, by rw [h1, h2]⟩
    · exact ⟨_, _, h1⟩
  subst hv
  clear hrow
  go_enter Tryz.func127, Tryz.ntmps127
  go_wp2_with fail
  refine HI.out.mono ?_
  rintro e w1 ⟨⟨r, rfl, hr⟩, hw1⟩
  rw [hw1]
  clear hw1 w1 HI
  rcases hr with ⟨h1, h2⟩ | ⟨h1, h2⟩
  · have e1 : decide ((0 : Int) ≤ r) = true := by simpa using h1
    have HM := hid h2
    clear h1 h2
    go_wp2
    go_ret
    exact ⟨by rw [decide_eq_true HM.out]; rfl, rfl⟩
  · subst h1
    have HM := hid h2
    clear h2
    go_wp2
    go_ret
    exact ⟨by rw [decide_eq_false HM.out]; rfl, rfl⟩

theorem head_mem (f : PF) (x : Nat) (hx : x < f.cn) : decide (x ∈ headsTo f f.cn) = headP f x := by
  unfold headsTo
  cases h : headP f x with
  | true => exact decide_eq_true (List.mem_filter.2 ⟨List.mem_range.2 hx, h⟩)
  | false =>
    refine decide_eq_false (fun hm => ?_)
    rw [(List.mem_filter.1 hm).2] at h
    cases h

/-- The frame at hand goes up. -/
theorem RSt.up {w : World} {B mb m : Nat} {F : Nat → PF} {MV : Nat → Value} {A : AdM} {s : Mc} {en : Int} {L : Bxs} {E : List Ev} (h : RSt w B mb m F MV A s en L E) {f : Fr} {rest : List Fr} (hs : s.fr = f :: rest) (hfn : f.fn < m) (hmd : s.made f.fn = true) :
    RGo w B mb m F MV A { s with high := true :: s.high.drop 1, cU := s.cU + 1 } en L E ((w.setCell ⟨A.FB rest.length, 4, none⟩ (MV f.fn)).setCell ⟨mb, 9, none⟩ (.int .i64 ((s.cU : Int) + 1))) := by
  have hM := h.st
  have hlen : s.fr.length = rest.length + 1 := by rw [hs]; rfl
  have hi : rest.length < s.fr.length := by omega
  obtain ⟨l1, c1⟩ := hM.lay.lowered hi (MV f.fn)
  obtain ⟨l2, c2⟩ := l1.counted 9 (by omega) ((s.cU : Int) + 1)
  have hchN : Ch B N5 A.tag A.tag w ((w.setCell ⟨A.FB rest.length, 4, none⟩ (MV f.fn)).setCell ⟨mb, 9, none⟩ (.int .i64 ((s.cU : Int) + 1))) := (c1.mono (q := N5) (fun d hd => by unfold N5; omega)).trans (c2.mono (q := N5) (fun d hd => by unfold N5; omega))
  have hhl := hM.hl
  have e0 : frAt s.fr rest.length = f := by rw [hs]; exact frAt_top _ _
  obtain ⟨b, r, hbr⟩ : ∃ b r, s.high = b :: r := by
    cases hc : s.high with
    | nil => rw [hc] at hhl; simp at hhl; omega
    | cons b r => exact ⟨b, r, rfl⟩
  have hrl : r.length = rest.length := by rw [hbr] at hhl; simp at hhl; omega
  have hat : ∀ j, j < s.fr.length → hiAt (true :: s.high.drop 1) j = if j = rest.length then true else hiAt s.high j := fun j hj => by
    rw [hbr]
    show hiAt (true :: r) j = _
    by_cases e : j = rest.length
    · rw [if_pos e, hiAt_top _ _ (by omega)]
    · rw [if_neg e, hiAt_rest _ _ _ (by omega), hiAt_rest _ _ _ (by omega)]
  refine ⟨_, ⟨hM.ch (l2.like rfl rfl rfl rfl rfl) ?_ (fun j hj => ?_) ⟨?_, ?_, ?_⟩ rfl ⟨rfl, rfl, rfl⟩ hchN, h.bx.keep hchN n55, h.md, fun j hj hj2 => ?_, h.ev.below (hchN.below hM.le), h.cp.below (hchN.below hM.le)⟩, ⟨rfl, rfl, rfl⟩, hchN, fun _ => rfl⟩
  · show (true :: s.high.drop 1).length = s.fr.length
    rw [hbr]
    simp
    omega
  · show CodeV (upd A.g.CV rest.length (MV f.fn) j) (hiAt (true :: s.high.drop 1) j)
    rw [hat j hj]
    by_cases e : j = rest.length
    · subst e
      rw [upd_same, if_pos rfl, ← hmd]
      exact hM.mds f.fn hfn
    · rw [upd_other _ _ _ _ e, if_neg e]
      exact hM.cod j hj
  · show (A.g.hi : Int) = s.cH
    exact hM.cnt.1
  · show ((s.cU : Int) + 1) = ((s.cU + 1 : Nat) : Int)
    omega
  · show (A.g.dn : Int) = s.cD
    exact hM.cnt.2.2
  · show CompV L _ (upd A.g.CV rest.length (MV f.fn) j)
    have hj2' : hiAt (true :: s.high.drop 1) j = true := hj2
    rw [hat j hj] at hj2'
    by_cases e : j = rest.length
    · subst e
      rw [upd_same]
      show CompV L (F (frAt s.fr rest.length).fn) (MV f.fn)
      rw [e0]
      exact h.md f.fn hfn hmd
    · rw [if_neg e] at hj2'
      rw [upd_other _ _ _ _ e]
      exact h.fc j hj hj2'
end Go.Proofs.YtkafkipjedpohaaGreatDoor
