import Derived.Test.YtkafkipjedpohaaGreatDoorA4
import Derived.Deep.LoopGhost
import Derived.Deep.RegionHeld3

/-
  The walk of check.flow.
-/
namespace Go.Proofs.YtkafkipjedpohaaGreatDoor
open Go.RowKit

/-- make([]T, n) of elements of several cells, for every world. -/
theorem run_make_rows {P : Program} (t e : TypeId) (z : Value) (zs : Array Value) (sz bytes : Nat) (ht : P.underlying t = some (.slice e)) (hinfo : (P.info? e).map (fun i => (i.zero, i.size, i.bytes)) = some (some z, sz, bytes)) (hz : z.cells = zs)
    (kl kc : IntKind) (n : Nat) (hbytes : bytes * n ≤ 281474976710656) (h63 : n ≤ 9223372036854775807) (w : World) :
    (Instr.makeSlice t (.int kl (n : Int)) (.int kc (n : Int))).run P w = .ok (.slice (some ⟨w.heap.size, 0, none⟩) n n) (w.alloc (.cells (madeCells zs (n * sz)) e)) := by
  obtain ⟨i, hi, hzz⟩ := Option.map_eq_some_iff.1 hinfo
  simp only [Prod.mk.injEq] at hzz
  obtain ⟨hzero, hs, hb⟩ := hzz
  have hb' : (i.bytes : Int) * (n : Int) ≤ 281474976710656 := by
    have h : ((i.bytes * n : Nat) : Int) ≤ 281474976710656 := by rw [hb]; omega
    rwa [Int.natCast_mul] at h
  have hr := run_make (P := P) w t e i z ht hi hzero kl kc n n (by omega) (Int.le_refl _) hb' (by omega)
  simp only [Int.toNat_natCast, hs, hz] at hr
  exact hr

theorem Tryz.info171 : (Tryz.prog.info? 171).map (fun i => (i.zero, i.size, i.bytes)) = some (some (.agg #[.bool false, .bool false, .int .i64 0]), 3, 16) := by kernel_rfl

/-- The cells of n new places. -/
def plArr (n : Nat) : Array Value := madeCells #[.bool false, .bool false, .int .i64 0] (n * 3)
theorem plArr_zero (n : Nat) (h : 1 ≤ n) : (plArr n)[0]? = some (.bool false) := by
  have : 0 < n * 3 := by omega
  simp [plArr, madeCells, this]
theorem places_made (w : World) (n : Nat) (hn : 1 ≤ n) : PlacesAt (w.alloc (.cells ((plArr n).setIfInBounds 0 (.bool true)) 171)) w.heap.size n s0 := by
  refine ⟨_, Go.Deep.blk_alloc_new _ _, by simp [plArr, size_madeCells], fun i hi => ?_⟩
  have : i % 3 = 0 ∨ i % 3 = 1 ∨ i % 3 = 2 := by omega
  by_cases h0 : i = 0
  · subst h0
    have hl : 0 < (plArr n).size := by simp [plArr, size_madeCells]; omega
    simp [hl, plc, s0, upd]
  · rw [Array.getElem?_setIfInBounds_ne (by omega)]
    rcases this with e | e | e <;> simp [plArr, madeCells, hi, plc, e, s0, upd]
    omega

theorem flowP_succ (n : Nat) (op ar : Nat → Int) (f : Nat) (s : St) : flowP n op ar (f + 1) s =
    if leastP (waits s) n < n then
      if (lookP n op ar s (leastP (waits s) n)).1 = 0 then flowP n op ar f (lookP n op ar s (leastP (waits s) n)).2
      else ((lookP n op ar s (leastP (waits s) n)).1, (leastP (waits s) n : Int))
    else (0, 0) := rfl

set_option maxHeartbeats 1000000 in
theorem flow_any (cb co cc n : Nat) (op ar : Nat → Int) (w : World) (hc : CodeAt w cb co n op ar) (hcb : cb < w.heap.size) (ht : TabAt w) (hn1 : 1 ≤ n) (hn : n ≤ 64) (lc m : Int)
    (hleg : ∀ j, j < n → legalP (op j) (ar j) lc n m = true) :
    Calls Tryz.prog 73 #[.slice (some ⟨cb, co, none⟩) n cc] w fun e w' =>
      e = .returned (.tuple #[.int .i64 (flowP n op ar (n + 1) s0).1, .int .i64 (flowP n op ar (n + 1) s0).2]) ∧ Below w.heap.size w w' := by
  have hmk : ∀ wx : World, (Instr.makeSlice 169 (.int .i64 (n : Int)) (.int .i64 (n : Int))).run Tryz.prog wx = .ok (.slice (some ⟨wx.heap.size, 0, none⟩) n n) (wx.alloc (.cells (plArr n) 171)) :=
    fun wx => run_make_rows (P := Tryz.prog) 169 171 _ _ 3 16 Tryz.underlying169 Tryz.info171 rfl .i64 .i64 n (by omega) (by omega) wx
  have h0 := plArr_zero n hn1
  have HI : Hid (CodeAt w cb co n op ar ∧ TabAt w ∧ ∀ j, j < n → legalP (op j) (ar j) lc n m = true) := ⟨hc, ht, hleg⟩
  clear hc ht hleg
  generalize hR : flowP n op ar (n + 1) s0 = R at *
  have HR := hid hR
  clear hR
  have hw0 : Below w.heap.size w (w.alloc (.cells ((plArr n).setIfInBounds 0 (.bool true)) 171)) := (Below.refl _ _).alloc (Nat.le_refl _) _
  have HW := hid hw0
  clear hw0
  go_enter Tryz.func73, Tryz.ntmps73
  go_wp2
  go_loopg [] n (fun gk wr => ∃ s : St, unl s.L n ≤ gk ∧ flowP n op ar (gk + 1) s = R ∧ HB s ∧ PlacesAt wr w.heap.size n s ∧ Below w.heap.size w wr)
  case atStart => exact ⟨s0, unl_le _ _, HR.out, HB_s0, places_made w n hn1, HW.out⟩
  case round =>
    obtain ⟨s, hu, hF, hH, hP, hB⟩ := hrel
    have HK : Hid (unl s.L n ≤ gk ∧ flowP n op ar (gk + 1) s = R ∧ HB s ∧ PlacesAt wr w.heap.size n s ∧ Below w.heap.size w wr) := ⟨hu, hF, hH, hP, hB⟩
    clear hu hF hH hP hB HR HW h0 hmk
    go_wp2_with fail
    refine (leastWaiting_any _ n s wr HK.out.2.2.2.1 hn).mono ?_
    rintro e w2 ⟨rfl, hB2⟩
    obtain ⟨hu, hF, hH, hP, hB⟩ := HK.out
    have hs1 : w.heap.size < wr.heap.size := World.rowIs.lt hP
    have hB2' : Below w.heap.size w w2 := hB.trans (hB2.mono (by omega))
    have hP2 := hP.below hB2 hs1
    have hF2 := hF
    rw [flowP_succ] at hF2
    unfold lwV
    rcases leastP_spec (waits s) n with ⟨h1, h2, h3⟩ | ⟨h1, h2⟩
    · rw [if_pos h1] at hF2 ⊢
      have hdec : decide (leastP (waits s) n < n) = true := by simp [h1]
      rw [hdec]
      have hwt : s.L (leastP (waits s) n) = false := by
        have := h2
        simp only [waits, Bool.and_eq_true, Bool.not_eq_true'] at this
        exact this.2
      generalize leastP (waits s) n = i at *
      have hul := unl_upd s.L n i h1 hwt
      have hl := HI.out.2.2 i h1
      have hcon := look_any cb co cc w.heap.size n i op ar s w2 (HI.out.1.below hB2' hcb) (by have := hB2'.size; omega) (by omega) hP2 (HI.out.2.1.below hB2' (by omega)) (by omega) hH h1 hn (legal_range hl) (legal_call hl) (legal_jump hl)
      have hLL := lookP_L n op ar s i
      have hHH := lookP_HB (n := n) (op := op) (ar := ar) (i := i) hH
      rcases hlk : lookP n op ar s i with ⟨er, sr⟩
      rw [hlk] at hcon hF2 hLL hHH
      simp only at hcon hF2 hLL hHH
      have HC := hid hcon
      have HX : Hid (Below w.heap.size w w2 ∧ (if er = 0 then flowP n op ar gk sr else (er, (i : Int))) = R ∧ sr.L = upd s.L i true ∧ HB sr ∧ unl (upd s.L i true) n + 1 = unl s.L n ∧ unl s.L n ≤ gk) := ⟨hB2', hF2, hLL, hHH, hul, hu⟩
      clear hcon hF2 hLL hHH hul hu hF hH hP hB hP2 hB2 hB2' hlk hl h2 h3 hdec hwt HK
      go_wp2_with fail
      refine HC.out.mono ?_
      rintro e w3 ⟨rfl, hP3, hK3⟩
      obtain ⟨hB2, hF2, hLL, hHH, hul, hu⟩ := HX.out
      have hB3 : Below w.heap.size w w3 := hB2.trans (hK3.below (Nat.le_refl _) hB2.size)
      by_cases her : er = 0
      · subst her
        rw [if_pos rfl] at hF2
        have HY : Hid (∃ s : St, unl s.L n ≤ gk - 1 ∧ flowP n op ar (gk - 1 + 1) s = R ∧ HB s ∧ PlacesAt w3 w.heap.size n s ∧ Below w.heap.size w w3) :=
          ⟨sr, by rw [hLL]; omega, by rw [show gk - 1 + 1 = gk by omega]; exact hF2, hHH, hP3, hB3⟩
        have hgk : gk - 1 < gk := by omega
        clear hF2 hLL hHH hul hu hP3 hB3 hB2 hK3 HX HC
        go_wp2
        go_roundg (gk - 1)
        case measure => exact hgk
        case rel => exact HY.out
      · have hb : (er != 0) = true := by simpa using her
        rw [if_neg her] at hF2
        have HY : Hid (R = (er, (i : Int)) ∧ Below w.heap.size w w3) := ⟨hF2.symm, hB3⟩
        clear hF2 hLL hHH hul hu hP3 hB3 hB2 hK3 HX HC her
        go_wp2
        go_ret2
        rw [HY.out.1]
        exact ⟨rfl, HY.out.2⟩
    · rw [h1, if_neg (by omega)] at hF2 ⊢
      have hdec : decide (n < n) = false := by simp
      rw [hdec]
      have HY : Hid (R = (0, 0) ∧ Below w.heap.size w w2) := ⟨hF2.symm, hB2'⟩
      clear hF2 h1 h2 hu hF hH hP hB hP2 hB2 hB2' HK hdec
      go_wp2
      go_ret2
      rw [HY.out.1]
      exact ⟨rfl, HY.out.2⟩
end Go.Proofs.YtkafkipjedpohaaGreatDoor

/-
  The walk of upshiftref.heights.
-/
namespace Go.Proofs.YtkafkipjedpohaaGreatDoor
open Go.RowKit

theorem Tryz.info4 : (Tryz.prog.info? 4).map (fun i => (i.zero, i.size, i.bytes)) = some (some (.bool false), 1, 1) := by kernel_rfl
theorem cell_new (w : World) (c : Array Value) (t : TypeId) (B i : Nat) (hB : B = w.heap.size) : (w.alloc (.cells c t)).cell? ⟨B, i, none⟩ = c[i]? := by
  subst hB
  unfold World.cell?; rw [Go.Deep.blk_alloc_new]; rfl

/-- The three lists of upshiftref.heights, in three blocks. -/
structure Three (w : World) (b n : Nat) (s : St) : Prop where
  K : w.rowIs b 4 n (fun i => .bool (s.K i))
  L : w.rowIs (b + 1) 4 n (fun i => .bool (s.L i))
  H : w.rowIs (b + 1 + 1) 3 n (fun i => .int .i64 (s.H i))

/-- Which one upshiftref.heights looks at next; -1: none. -/
def nextP (s : St) (n : Nat) : Int := if leastP (waits s) n < n then (leastP (waits s) n : Int) else -1

def kArr (n : Nat) : Array Value := madeCells #[.bool false] n
def hArr (n : Nat) : Array Value := madeCells #[.int .i64 0] n

/-- Where to go: nil, or ints in a block behind b. -/
def Behind (w : World) (b : Nat) (p : Option Addr) (l : List Int) : Prop := l = [] ∨ ∃ bl, b < bl ∧ bl < w.heap.size ∧ p = some ⟨bl, 0, none⟩ ∧ IntsAt w bl l
/-- The next one while upshiftref.heights counts down to t. -/
def Down (s : St) (n t : Nat) (v : Int) : Prop := (v = -1 ∧ ∀ j, t ≤ j → j < n → waits s j = false) ∨ (∃ i : Nat, v = (i : Int) ∧ t ≤ i ∧ i < n ∧ waits s i = true ∧ ∀ j, t ≤ j → j < i → waits s j = false)
end Go.Proofs.YtkafkipjedpohaaGreatDoor

/-
  A run of upshiftref as it lies in memory: the whole; push and pop.
-/
namespace Go.Proofs.YtkafkipjedpohaaGreatDoor
open Go.RowKit

/-- The cells of a list of values. -/
def vcell (l : List V) : Nat → Value := fun i => if i % 2 = 0 then .int .i64 (l.getD (i / 2) vnil).k else .int .i64 (l.getD (i / 2) vnil).n

def frNone : Fr := ⟨0, 0, [], []⟩
/-- The i-th frame, the first one first. -/
def frAt (fr : List Fr) (i : Nat) : Fr := fr.reverse.getD i frNone
theorem frAt_top (f : Fr) (rest : List Fr) : frAt (f :: rest) rest.length = f := by
  unfold frAt
  rw [List.reverse_cons, List.getD_eq_getElem?_getD, List.getElem?_append_right (by simp)]
  simp
theorem frAt_rest (f : Fr) (rest : List Fr) (i : Nat) (hi : i < rest.length) : frAt (f :: rest) i = frAt rest i := by
  unfold frAt
  rw [List.reverse_cons, List.getD_eq_getElem?_getD, List.getD_eq_getElem?_getD, List.getElem?_append_left (by simpa using hi)]

/-- The cells of the frames. -/
def fcell (fr : List Fr) (LV SV : Nat → Value) : Nat → Value := fun i =>
  if i % 4 = 0 then .int .i64 (frAt fr (i / 4)).fn else if i % 4 = 1 then .int .i64 (frAt fr (i / 4)).pc else if i % 4 = 2 then LV (i / 4) else SV (i / 4)

/-- The cells of a Run. -/
def rcells (pv fv av ov hv : Value) (s : Mc) : Array Value :=
  #[pv, fv, av, ov, .int .i64 s.gives.k, .int .i64 s.gives.n, .int .i64 s.steps, .int .i64 s.fin, hv, .bool (s.made 0), .bool (s.made 1), .bool (s.made 2), .bool (s.made 3), .bool (s.made 4), .bool (s.made 5), .bool (s.made 6), .bool (s.made 7), .int .i64 s.cH, .int .i64 s.cU, .int .i64 s.cD]

structure Lay (w : World) (B rb : Nat) (tag : Nat → Nat) (pv fv av ov hv : Value) (LV SV AV : Nat → Value) (s : Mc) : Prop where
  run : w.heap[rb]? = some (.cells (rcells pv fv av ov hv s) 155 (0, 0))
  own : B ≤ rb ∧ tag rb = 0
  fr : Row w B tag 1 73 4 fv s.fr.length (fcell s.fr LV SV)
  ar : Row w B tag 2 44 1 av s.arr.length AV
  out : Row w B tag 3 43 2 ov s.out.length (vcell s.out)
  hi : Row w B tag 4 4 1 hv s.high.length (fun i => .bool (s.high.reverse.getD i false))
  loc : ∀ i, i < s.fr.length → Row w B tag (10 + 3 * i) 43 2 (LV i) (frAt s.fr i).loc.length (vcell (frAt s.fr i).loc)
  stk : ∀ i, i < s.fr.length → Row w B tag (11 + 3 * i) 43 2 (SV i) (frAt s.fr i).stk.length (vcell (frAt s.fr i).stk.reverse)
  arr : ∀ j, j < s.arr.length → Row w B tag (12 + 3 * j) 43 2 (AV j) (s.arr.getD j []).length (vcell (s.arr.getD j []))

theorem vcell_snoc (l : List V) (v : V) (i : Nat) (hi : i < (l.length + 1) * 2) : (if i < l.length * 2 then vcell l i else [Value.int .i64 v.k, Value.int .i64 v.n].getD (i - l.length * 2) (.bool false)) = vcell (l ++ [v]) i := by
  unfold vcell
  by_cases h : i < l.length * 2
  · rw [if_pos h]
    rw [List.getD_eq_getElem?_getD, List.getD_eq_getElem?_getD, List.getElem?_append_left (by omega)]
  · rw [if_neg h]
    have : i = l.length * 2 ∨ i = l.length * 2 + 1 := by omega
    rcases this with rfl | rfl
    · rw [if_pos (by omega), show l.length * 2 / 2 = l.length by omega]; simp
    · rw [if_neg (by omega), show (l.length * 2 + 1) / 2 = l.length by omega]; simp

theorem Tryz.info43 : (Tryz.prog.info? 43).map (fun i => (i.zero, i.size, i.bytes)) = some (some (.agg #[.int .i64 0, .int .i64 0]), 2, 16) := by kernel_rfl

theorem grew_cell {W w1 : World} {o : Obj} {row : Option Nat} (hg : (W.drew.alloc o).grownBy w1 row) {a : Addr} (ha : a.block < W.heap.size) (hne : some a.block ≠ row) : w1.cell? a = W.cell? a := by
  have h1 : w1.heap[a.block]? = (W.drew.alloc o).heap[a.block]? := hg.block a.block (by show a.block < (W.heap.push o).size; simp; omega) hne
  have h2 : (W.drew.alloc o).heap[a.block]? = W.heap[a.block]? := Below.heap_alloc W.drew o a.block ha
  exact World.cell?_of_block (h1.trans h2)
theorem grew_frozen {W w1 : World} {o : Obj} {row : Option Nat} (hg : (W.drew.alloc o).grownBy w1 row) {a : Addr} (ha : a.block < W.heap.size) (hne : some a.block ≠ row) : w1.frozen? a = W.frozen? a := by
  have h1 : w1.heap[a.block]? = (W.drew.alloc o).heap[a.block]? := hg.block a.block (by show a.block < (W.heap.push o).size; simp; omega) hne
  have h2 : (W.drew.alloc o).heap[a.block]? = W.heap[a.block]? := Below.heap_alloc W.drew o a.block ha
  exact World.frozen?_of_block (h1.trans h2)

theorem Row.other {w : World} {B : Nat} {tag : Nat → Nat} {c : Nat} {e : TypeId} {sz : Nat} {v : Value} {n : Nat} {f : Nat → Value} (h : Row w B tag c e sz v n f) {b : Nat} (hb : tag b ≠ c) : some b ≠ v.ownBlock := by
  rcases h with ⟨h, _⟩ | ⟨b', cap', cur, hv, hb', ht, _⟩
  · rw [h]; simp [Value.ownBlock]
  · rw [hv]
    intro e2
    have : b = b' := by simpa [Value.ownBlock] using e2
    rw [this] at hb
    exact hb ht
theorem Row.otherNew {w : World} {B : Nat} {tag : Nat → Nat} {c : Nat} {e : TypeId} {sz : Nat} {v : Value} {n : Nat} {f : Nat → Value} (h : Row w B tag c e sz v n f) {b : Nat} (hb : w.heap.size ≤ b) : some b ≠ v.ownBlock := by
  rcases h with ⟨h, _⟩ | ⟨b', cap', cur, hv, hb', ht, hh, _⟩
  · rw [h]; simp [Value.ownBlock]
  · rw [hv]
    intro e2
    have : b = b' := by simpa [Value.ownBlock] using e2
    have := (Array.getElem?_eq_some_iff.1 hh).1
    omega

end Go.Proofs.YtkafkipjedpohaaGreatDoor

/-
  A run of upshiftref as it lies in memory: pop.
-/
namespace Go.Proofs.YtkafkipjedpohaaGreatDoor
open Go.RowKit

theorem vcell_top (l : List V) (v : V) : vcell (l ++ [v]) (l.length * 2) = .int .i64 v.k ∧ vcell (l ++ [v]) (l.length * 2 + 1) = .int .i64 v.n := by
  unfold vcell
  rw [if_pos (by omega), if_neg (by omega), show l.length * 2 / 2 = l.length by omega, show (l.length * 2 + 1) / 2 = l.length by omega]
  simp
theorem vcell_cut (l : List V) (v : V) (i : Nat) (hi : i < l.length * 2) : vcell (l ++ [v]) i = vcell l i := by
  unfold vcell
  rw [List.getD_eq_getElem?_getD, List.getD_eq_getElem?_getD, List.getElem?_append_left (by omega)]

theorem Ch.setNew {B : Nat} {p : Nat → Prop} {t1 t2 : Nat → Nat} {u w : World} (h : Ch B p t1 t2 u w) {a : Addr} (ha : u.heap.size ≤ a.block) (v : Value) : Ch B p t1 t2 u (w.setCell a v) :=
  ⟨h.os, h.tape, h.output, by have := h.size; simp [World.setCell]; omega, fun b hb hl => by rw [Below.heap_setCell _ _ _ _ (by omega)]; exact h.block b hb hl, h.tags⟩
theorem Ch.alloc {B : Nat} {p : Nat → Prop} {t1 t2 : Nat → Nat} {u w : World} (h : Ch B p t1 t2 u w) (o : Obj) : Ch B p t1 t2 u (w.alloc o) :=
  ⟨h.os, h.tape, h.output, by have := h.size; simp; omega, fun b hb hl => by rw [Below.heap_alloc _ _ _ (by have := h.size; omega)]; exact h.block b hb hl, h.tags⟩
/-- A store into an old block whose tag is let. -/
theorem Ch.setOld {B : Nat} {p : Nat → Prop} {t1 t2 : Nat → Nat} {u w : World} (h : Ch B p t1 t2 u w) {a : Addr} (hB : B ≤ a.block) (hp : a.block < u.heap.size → p (t1 a.block)) (v : Value) : Ch B p t1 t2 u (w.setCell a v) :=
  ⟨h.os, h.tape, h.output, by have := h.size; simp [World.setCell]; omega, fun b hb hl => by
    rw [Below.heap_setCell _ _ _ _ (by
      intro e
      rw [e] at hb hl
      rcases hl with hl | hl
      · omega
      · exact hl (hp hb))]
    exact h.block b hb hl, h.tags⟩
theorem Ch.trans' {B : Nat} {p : Nat → Prop} {t1 t2 : Nat → Nat} {u v w : World} (h : Ch B p t1 t2 u v) (k : Below v.heap.size v w) : Ch B p t1 t2 u w :=
  ⟨k.os.trans h.os, k.tape.trans h.tape, k.output.trans h.output, Nat.le_trans h.size k.size, fun b hb hl => (k.block b (Nat.lt_of_lt_of_le hb h.size)).trans (h.block b hb hl), h.tags⟩

end Go.Proofs.YtkafkipjedpohaaGreatDoor

/-
  The project's own stacks, of values: Push, Pop, Top.
-/
namespace Go.Proofs.YtkafkipjedpohaaGreatDoor
open Go.RowKit

theorem stopHereM {p : Prop} (h : p ∧ True) : p := h.1
theorem cell_heap {w : World} {b o : Nat} {cur : Array Value} {t : TypeId} {fr : Nat × Nat} (h : w.heap[b]? = some (.cells cur t fr)) : w.cell? ⟨b, o, none⟩ = cur[o]? := by
  unfold World.cell?
  rw [h]
  rfl
theorem frozen_heap {w : World} {b o : Nat} {cur : Array Value} {t : TypeId} (h : w.heap[b]? = some (.cells cur t (0, 0))) : w.frozen? ⟨b, o, none⟩ = false := by
  unfold World.frozen?
  rw [h]
  simp
theorem heap_set {w : World} {b o : Nat} {cur : Array Value} {t : TypeId} {fr : Nat × Nat} (h : w.heap[b]? = some (.cells cur t fr)) (v : Value) : (w.setCell ⟨b, o, none⟩ v).heap[b]? = some (.cells (cur.setIfInBounds o v) t fr) := by
  simp [World.setCell, Array.getElem?_modify, h]
theorem heap_lt {w : World} {b : Nat} {o : Obj} (h : w.heap[b]? = some o) : b < w.heap.size := (Array.getElem?_eq_some_iff.1 h).1

set_option maxRecDepth 100000 in
set_option maxHeartbeats 1000000 in
theorem pushV (w : World) (B b o c : Nat) (t : TypeId) (tag : Nat → Nat) (cur : Array Value) (sv : Value) (st : List V) (v : V) (hb : w.heap[b]? = some (.cells cur t (0, 0))) (ho : cur[o]? = some sv) (hBb : B ≤ b) (hB : B ≤ w.heap.size) (hne : tag b ≠ c) (hrow : Row w B tag c 43 2 sv st.length (vcell st.reverse)) (hn : st.length ≤ 100000) :
    Calls Tryz.prog 132 #[.pointer (some ⟨b, o, none⟩), .agg #[.int .i64 v.k, .int .i64 v.n]] w fun e w' => e = .returned (.tuple #[]) ∧
      ∃ tag' sv', Row w' B tag' c 43 2 sv' (v :: st).length (vcell (v :: st).reverse) ∧ w'.heap[b]? = some (.cells (cur.setIfInBounds o sv') t (0, 0)) ∧ Ch B (fun d => d = c ∨ d = tag b) tag tag' w w' := by
  have hbz := heap_lt hb
  obtain ⟨inf, hi, hz0, hz1, hz2⟩ : ∃ i, Tryz.prog.info? 43 = some i ∧ i.zero = some (.agg #[.int .i64 0, .int .i64 0]) ∧ i.size = 2 ∧ i.bytes = 16 := by
    obtain ⟨i, hi, hzz⟩ := Option.map_eq_some_iff.1 Tryz.info43
    simp only [Prod.mk.injEq] at hzz
    exact ⟨i, hi, hzz.1, hzz.2.1, hzz.2.2⟩
  have hW : Below w.heap.size w (w.alloc (.cells #[.int .i64 v.k, .int .i64 v.n] 43)) := (Below.refl _ _).alloc (Nat.le_refl _) _
  have hsz : (w.alloc (.cells #[.int .i64 v.k, .int .i64 v.n] 43)).heap.size = w.heap.size + 1 := by simp
  have hbW := (hW.block b hbz).trans hb
  have d3 : (w.alloc (.cells #[.int .i64 v.k, .int .i64 v.n] 43)).cell? ⟨b, o, none⟩ = some sv := (cell_heap hbW).trans ho
  have y3 : (w.alloc (.cells #[.int .i64 v.k, .int .i64 v.n] 43)).frozen? ⟨b, o, none⟩ = false := frozen_heap hbW
  have b0 : (w.alloc (.cells #[.int .i64 v.k, .int .i64 v.n] 43)).cell? ⟨w.heap.size, 0, none⟩ = some (.int .i64 v.k) := cell_new w _ _ _ _ rfl
  have b1 : (w.alloc (.cells #[.int .i64 v.k, .int .i64 v.n] 43)).cell? ⟨w.heap.size, 1, none⟩ = some (.int .i64 v.n) := cell_new w _ _ _ _ rfl
  have hch : Ch B (fun d => d = c ∨ d = tag b) tag tag w (w.alloc (.cells #[.int .i64 v.k, .int .i64 v.n] 43)) := Ch.of_below hW
  have hrW : Row (w.alloc (.cells #[.int .i64 v.k, .int .i64 v.n] 43)) B tag c 43 2 sv st.length (vcell st.reverse) := hrow.keep (Ch.of_below (p := fun _ => False) hW) (fun h => h)
  have hne1 : some b ≠ sv.ownBlock := hrow.other hne
  have hne2 : some w.heap.size ≠ sv.ownBlock := hrow.otherNew (Nat.le_refl _)
  have HC := hid (And.intro hch (And.intro hrW hbW))
  have HZ := hid hsz
  have HY := hid y3
  have D3 := hid d3
  have B0 := hid b0
  have B1 := hid b1
  have HO := hid ho
  have HN := hid hne
  clear hch hrW hbW hsz y3 hW hrow hb d3 b0 b1 ho hne
  go_enter Tryz.func132, Tryz.ntmps132
  go_wp2
  have d3 := D3.out
  have b0 := B0.out
  have b1 := B1.out
  clear D3 B0 B1
  generalize w.alloc (.cells #[.int .i64 v.k, .int .i64 v.n] 43) = W at *
  have hbs : w.heap.size < W.heap.size := by have := HZ.out; omega
  have hfs : b < W.heap.size := by omega
  go_region_law
    ((refine step_append_lies _ (by rfl) _ _ _ (by rfl) B 43 inf _ 2 16 Tryz.underlying44 hi hz0 hz1 hz2 rfl (by decide) sv st.length _ (by rfl) (by exact (HC.out.2.1.owns.drew).alloc _) ⟨W.heap.size, 0, none⟩ 1 1 [.int .i64 v.k, .int .i64 v.n] (by rfl) (by rfl) (by exact World.news_of_block (Go.Deep.blk_alloc_new W.drew _)) (by intro u hu; simp at hu; rcases hu with rfl | rfl <;> rfl) (by omega) (by unfold maxLen; omega) (by omega) (by simp; omega) (W.heap.size + 1) (by simp) ?_; intro g cap w1 hown1 hgrow hat hlt; have q0 := (grew_cell hgrow (a := ⟨b, o, none⟩) hfs hne1).trans d3; have q1 := (grew_cell hgrow (a := ⟨w.heap.size, 0, none⟩) hbs hne2).trans b0; have q2 := (grew_cell hgrow (a := ⟨w.heap.size, 1, none⟩) hbs hne2).trans b1; have q3 := (grew_frozen hgrow (a := ⟨b, o, none⟩) hfs hne1).trans HY.out))
  all_goals
    have hXb : Below W.heap.size W (W.alloc (.cells #[.int .i64 v.k, .int .i64 v.n] 43)).drew := ((Below.refl _ _).alloc (Nat.le_refl _) _).drew
    have hX : Ch B (fun _ => False) tag tag W (W.alloc (.cells #[.int .i64 v.k, .int .i64 v.n] 43)).drew := Ch.of_below hXb
    obtain ⟨tag', hst, hgc⟩ := (HC.out.2.1.keep hX (fun h => h)).grew hown1 hgrow (by rcases hat with h | h; exact Or.inl h; right; rw [h]; simp) rfl
    have hlx : b < (W.alloc (.cells #[.int .i64 v.k, .int .i64 v.n] 43)).drew.heap.size := by simp; omega
    have htf : tag' b = tag b := hgc.tags b hlx
    have hb1 : w1.heap[b]? = some (.cells cur t (0, 0)) := (hgc.block b hlx (Or.inr HN.out)).trans ((hXb.block b hfs).trans HC.out.2.2)
    have hb2 := heap_set (o := o) hb1 (.slice (some ⟨g, 0, none⟩) (st.length + 1) cap)
    have hcs : Ch B (fun d => d = tag b) tag' tag' w1 (w1.setCell ⟨b, o, none⟩ (.slice (some ⟨g, 0, none⟩) (st.length + 1) cap)) := Ch.set w1 b _ _ hBb htf
    have hst2 := (hst.keep hcs (fun h => HN.out h.symm)).congr (g := vcell (v :: st).reverse) (fun i hi => by
      rw [List.reverse_cons, ← vcell_snoc _ _ _ (by simpa using hi)]
      simp)
    have hall : Ch B (fun d => d = c ∨ d = tag b) tag tag' w (w1.setCell ⟨b, o, none⟩ (.slice (some ⟨g, 0, none⟩) (st.length + 1) cap)) :=
      ((HC.out.1.trans (hX.mono (fun _ h => h.elim))).trans (hgc.mono (fun _ h => Or.inl h))).trans (hcs.mono (fun _ h => Or.inr h))
    have HQ := hid (And.intro hst2 (And.intro hb2 hall))
    clear hall hst2 hcs hst hgc hX hXb hown1 hgrow q0 q1 q2 q3 hb1 hb2
    go_end0
    exact ⟨rfl, tag', _, HQ.out⟩

set_option maxRecDepth 100000 in
set_option maxHeartbeats 1000000 in
theorem popV (w : World) (B b o c : Nat) (t : TypeId) (tag : Nat → Nat) (cur : Array Value) (sv : Value) (st : List V) (v : V) (hb : w.heap[b]? = some (.cells cur t (0, 0))) (ho : cur[o]? = some sv) (hBb : B ≤ b) (hne : tag b ≠ c) (hrow : Row w B tag c 43 2 sv (v :: st).length (vcell (v :: st).reverse)) (hn : st.length ≤ 100000) :
    Calls Tryz.prog 129 #[.pointer (some ⟨b, o, none⟩)] w fun e w' => e = .returned (.agg #[.int .i64 v.k, .int .i64 v.n]) ∧
      ∃ sv', Row w' B tag c 43 2 sv' st.length (vcell st.reverse) ∧ w'.heap[b]? = some (.cells (cur.setIfInBounds o sv') t (0, 0)) ∧ Ch B (fun d => d = tag b) tag tag w w' := by
  have hbz := heap_lt hb
  rw [List.length_cons, List.reverse_cons] at hrow
  obtain ⟨sb, scap, rfl, hsb, hsz, hstg, hsc⟩ := hrow.form (by omega)
  have hlr : st.reverse.length = st.length := by simp
  have x0 := hrow.cell (i := st.length * 2) (by omega)
  have x1 := hrow.cell (i := st.length * 2 + 1) (by omega)
  have ht := vcell_top st.reverse v
  rw [hlr] at ht
  rw [ht.1] at x0
  rw [ht.2] at x1
  have hneb : ¬ sb = b := by intro e; rw [e] at hstg; exact hne hstg
  have c0 : w.cell? ⟨b, o, none⟩ = some (.slice (some ⟨sb, 0, none⟩) (st.length + 1) scap) := (cell_heap hb).trans ho
  have z0 : w.frozen? ⟨b, o, none⟩ = false := frozen_heap hb
  have HR := hid (And.intro hrow (And.intro hb hne))
  clear hrow hb ht hlr ho hne hstg
  generalize hnn : st.length = n at *
  have Hn := hid hnn
  clear hnn
  go_enter Tryz.func129, Tryz.ntmps129
  go_wp2
  refine bodyPost_ret (v := .agg #[.int .i64 v.k, .int .i64 v.n]) (by simp [results, Tryz.results129, go_sem]) rfl ⟨rfl, .slice (some ⟨sb, 0, none⟩) n scap, ?_⟩
  obtain ⟨hrow, hb, hne⟩ := HR.out
  have h0 : Ch B (fun d => d = tag b) tag tag w (w.setCell ⟨b, o, none⟩ (.slice (some ⟨sb, 0, none⟩) n scap)) := Ch.set w b o _ hBb rfl
  have h1 := (h0.alloc (.cells #[.int .i64 v.k, .int .i64 v.n] 43)).alloc (.cells #[.int .i64 v.k, .int .i64 v.n] 43)
  have hs2 := ((hrow.take n (by omega)).keep h1 (fun h => hne h.symm)).congr (g := vcell st.reverse) (fun i hi => vcell_cut _ _ _ (by rw [List.length_reverse, Hn.out]; exact hi))
  refine ⟨hs2, ?_, h1⟩
  rw [Below.heap_alloc _ _ _ (by simp [World.setCell]; omega), Below.heap_alloc _ _ _ (by simp [World.setCell]; omega)]
  exact heap_set hb _

end Go.Proofs.YtkafkipjedpohaaGreatDoor
