import Derived.Test.YtkafkipjedpohaaGreatDoorWd
import Derived.Test.YtkafkipjedpohaaGreatDoorA5
import Derived.Deep.RegionHeld3

/-
  The walks of upshiftref's small functions.
-/
namespace Go.Proofs.YtkafkipjedpohaaGreatDoor
open Go.RowKit

set_option maxHeartbeats 2000000 in
theorem legal_any (op a ag lc : Int) (ca : Option Addr) (cn cc : Nat) (m : Int) (w : World) :
    Calls Tryz.prog 96 #[.agg #[.int .i64 op, .int .i64 a], .agg #[.int .i64 ag, .int .i64 lc, .slice ca cn cc], .int .i64 m] w fun e w' =>
      e = .returned (.bool (legalP op a lc cn m)) ∧ Below w.heap.size w w' := by
  by_cases ha : 0 ≤ a
  · by_cases ho : 0 ≤ op
    · go_enter Tryz.func96, Tryz.ntmps96
      go_wp2
      all_goals go_ret
      all_goals (refine ⟨ret_bool ?_, by repeat (first | exact Below.refl _ _ | refine Below.alloc ?_ (by simp <;> omega) _)⟩)
      all_goals (unfold legalP; simp_all <;> omega)
    · have ho' : decide (0 ≤ op) = false := by simpa using ho
      go_enter Tryz.func96, Tryz.ntmps96
      go_wp2
      all_goals go_ret
      all_goals (refine ⟨ret_bool ?_, by repeat (first | exact Below.refl _ _ | refine Below.alloc ?_ (by simp <;> omega) _)⟩)
      all_goals (unfold legalP; simp_all <;> omega)
  · have ha' : decide (0 ≤ a) = false := by simpa using ha
    by_cases ho : 0 ≤ op
    · go_enter Tryz.func96, Tryz.ntmps96
      go_wp2
      all_goals go_ret
      all_goals (refine ⟨ret_bool ?_, by repeat (first | exact Below.refl _ _ | refine Below.alloc ?_ (by simp <;> omega) _)⟩)
      all_goals (unfold legalP; simp_all <;> omega)
    · have ho' : decide (0 ≤ op) = false := by simpa using ho
      go_enter Tryz.func96, Tryz.ntmps96
      go_wp2
      all_goals go_ret
      all_goals (refine ⟨ret_bool ?_, by repeat (first | exact Below.refl _ _ | refine Below.alloc ?_ (by simp <;> omega) _)⟩)
      all_goals (unfold legalP; simp_all <;> omega)

set_option maxHeartbeats 2000000 in
theorem pops_any (op a : Int) (w : World) (h13 : op = 13 → 0 ≤ a ∧ a ≤ 8) :
    Calls Tryz.prog 108 #[.agg #[.int .i64 op, .int .i64 a]] w fun e w' =>
      e = .returned (.int .i64 (popsP op a)) ∧ Below w.heap.size w w' := by
  by_cases h : op = 13
  · obtain ⟨a0, a8⟩ := h13 h
    clear h13
    subst h
    go_enter Tryz.func108, Tryz.ntmps108
    go_wp2
    go_ret
    exact ⟨ret_int (by simp [popsP]), (Below.refl _ _).alloc (Nat.le_refl _) _⟩
  · have hb : (op == 13) = false := by simpa using h
    have hp : popsP op a = popsT op := by unfold popsP; rw [if_neg h]
    rw [hp]
    clear hp h13
    go_enter Tryz.func108, Tryz.ntmps108
    go_wp2
    all_goals go_ret
    all_goals (refine ⟨ret_int ?_, (Below.refl _ _).alloc (Nat.le_refl _) _⟩)
    all_goals (unfold popsT; simp_all)

set_option maxHeartbeats 2000000 in
theorem pushes_any (op a : Int) (w : World) :
    Calls Tryz.prog 109 #[.agg #[.int .i64 op, .int .i64 a]] w fun e w' =>
      e = .returned (.int .i64 (pushesP op)) ∧ Below w.heap.size w w' := by
  go_enter Tryz.func109, Tryz.ntmps109
  go_wp2
  all_goals go_ret
  all_goals (refine ⟨ret_int ?_, (Below.refl _ _).alloc (Nat.le_refl _) _⟩)
  all_goals (unfold pushesP; simp_all)

set_option maxHeartbeats 1000000 in
theorem after_any (op a : Int) (i : Nat) (w : World) (hi : i < 64) :
    Calls Tryz.prog 110 #[.agg #[.int .i64 op, .int .i64 a], .int .i64 i] w fun e w' =>
      ∃ p c, e = .returned (.slice p (afterP op a i).length c) ∧ Below w.heap.size w w' ∧ GoesTo w w' p (afterP op a i) := by
  by_cases h1 : op = 14
  · subst h1
    have hl : afterP 14 a i = [] := by simp [afterP]
    rw [hl]
    go_enter Tryz.func110, Tryz.ntmps110
    go_wp2
    go_ret
    exact ⟨_, _, rfl, (Below.refl _ _).alloc (Nat.le_refl _) _, Or.inl rfl⟩
  · have b1 : (op == 14) = false := by simpa using h1
    by_cases h2 : op = 10
    · subst h2
      have hl : afterP 10 a i = [a] := by simp [afterP]
      rw [hl]
      clear hl h1
      go_enter Tryz.func110, Tryz.ntmps110
      go_wp2
      go_ret
      exact ⟨_, _, rfl, ((Below.refl _ _).alloc (Nat.le_refl _) _).alloc (by simp) _, Or.inr ⟨w.heap.size + 1, by omega, by simp, rfl, ints_one (w.alloc _) a 3 _ (by simp)⟩⟩
    · have b2 : (op == 10) = false := by simpa using h2
      by_cases h3 : op = 11
      · subst h3
        have hl : afterP 11 a i = [(i : Int) + 1, a] := by simp [afterP]
        rw [hl]
        clear hl h1
        go_enter Tryz.func110, Tryz.ntmps110
        go_wp2
        go_ret
        exact ⟨_, _, rfl, ((Below.refl _ _).alloc (Nat.le_refl _) _).alloc (by simp) _, Or.inr ⟨w.heap.size + 1, by omega, by simp, rfl, ints_two (w.alloc _) _ a 3 _ (by simp)⟩⟩
      · have b3 : (op == 11) = false := by simpa using h3
        have hl : afterP op a i = [(i : Int) + 1] := by simp [afterP, h1, h2, h3]
        rw [hl]
        clear hl h1 h2 h3
        go_enter Tryz.func110, Tryz.ntmps110
        go_wp2
        go_ret
        exact ⟨_, _, rfl, ((Below.refl _ _).alloc (Nat.le_refl _) _).alloc (by simp) _, Or.inr ⟨w.heap.size + 1, by omega, by simp, rfl, ints_one (w.alloc _) _ 3 _ (by simp)⟩⟩
end Go.Proofs.YtkafkipjedpohaaGreatDoor

/-
  The walk of upshiftref.heights.
-/
namespace Go.Proofs.YtkafkipjedpohaaGreatDoor
open Go.RowKit

theorem Tryz.info4 : (Tryz.prog.info? 4).map (fun i => (i.zero, i.size, i.bytes)) = some (some (.bool false), 1, 1) := by kernel_rfl
theorem Tryz.info3 : (Tryz.prog.info? 3).map (fun i => (i.zero, i.size, i.bytes)) = some (some (.int .i64 0), 1, 8) := by kernel_rfl

theorem cell_new (w : World) (c : Array Value) (t : TypeId) (B i : Nat) (hB : B = w.heap.size) : (w.alloc (.cells c t)).cell? ⟨B, i, none⟩ = c[i]? := by
  subst hB
  unfold World.cell?; rw [Go.Deep.blk_alloc_new]; rfl

/-- The three lists of upshiftref.heights, in three blocks. -/
structure Three (w : World) (b n : Nat) (s : St) : Prop where
  K : w.rowIs b 4 n (fun i => .bool (s.K i))
  L : w.rowIs (b + 1) 4 n (fun i => .bool (s.L i))
  H : w.rowIs (b + 1 + 1) 3 n (fun i => .int .i64 (s.H i))

theorem Three.alloc {w : World} {b n : Nat} {s : St} (h : Three w b n s) (o : Obj) : Three (w.alloc o) b n s := ⟨h.K.alloc o, h.L.alloc o, h.H.alloc o⟩
theorem Three.drewN {w : World} {b n : Nat} {s : St} (h : Three w b n s) (k : Nat) : Three (w.drewN k) b n s := ⟨h.K, h.L, h.H⟩
theorem Three.drew {w : World} {b n : Nat} {s : St} (h : Three w b n s) : Three w.drew b n s := ⟨h.K, h.L, h.H⟩
theorem Three.below {w w' : World} {B b n : Nat} {s : St} (h : Three w b n s) (k : Below B w w') (hb : b + 2 < B) : Three w' b n s :=
  ⟨h.K.of_block (k.block _ (by omega)), h.L.of_block (k.block _ (by omega)), h.H.of_block (k.block _ (by omega))⟩
theorem Three.setK {w : World} {b n : Nat} {s : St} (h : Three w b n s) (i : Nat) (v : Bool) : Three (w.setCell ⟨b, i, none⟩ (.bool v)) b n { s with K := upd s.K i v } :=
  ⟨(h.K.set i (.bool v)).congr (fun j _ => by simp only [upd]; split <;> rfl), h.L.setOther (by simp <;> omega) _, h.H.setOther (by simp <;> omega) _⟩
theorem Three.setL {w : World} {b n : Nat} {s : St} (h : Three w b n s) (i : Nat) (v : Bool) : Three (w.setCell ⟨b + 1, i, none⟩ (.bool v)) b n { s with L := upd s.L i v } :=
  ⟨h.K.setOther (by simp <;> omega) _, (h.L.set i (.bool v)).congr (fun j _ => by simp only [upd]; split <;> rfl), h.H.setOther (by simp <;> omega) _⟩
theorem Three.setH {w : World} {b n : Nat} {s : St} (h : Three w b n s) (i : Nat) (v : Int) : Three (w.setCell ⟨b + 1 + 1, i, none⟩ (.int .i64 v)) b n { s with H := upd s.H i v } :=
  ⟨h.K.setOther (by simp <;> omega) _, h.L.setOther (by simp <;> omega) _, (h.H.set i (.int .i64 v)).congr (fun j _ => by simp only [upd]; split <;> rfl)⟩

/-- Which one upshiftref.heights looks at next; -1: none. -/
def nextP (s : St) (n : Nat) : Int := if leastP (waits s) n < n then (leastP (waits s) n : Int) else -1

def kArr (n : Nat) : Array Value := madeCells #[.bool false] n
theorem kArr_zero (n : Nat) (h : 1 ≤ n) : (kArr n)[0]? = some (.bool false) := by
  have : 0 < n := by omega
  simp [kArr, madeCells, this]
def hArr (n : Nat) : Array Value := madeCells #[.int .i64 0] n

theorem three_made (w : World) (n : Nat) (_hn : 1 ≤ n) : Three (((w.alloc (.cells ((kArr n).setIfInBounds 0 (.bool true)) 4)).alloc (.cells (kArr n) 4)).alloc (.cells (hArr n) 3)) w.heap.size n s0 := by
  have h0 : (w.alloc (.cells ((kArr n).setIfInBounds 0 (.bool true)) 4)).rowIs w.heap.size 4 n (fun i => .bool (s0.K i)) := by
    refine ⟨_, Go.Deep.blk_alloc_new _ _, by simp [kArr, size_madeCells], fun i hi => ?_⟩
    by_cases e : i = 0
    · subst e
      have hl : 0 < (kArr n).size := by simp [kArr, size_madeCells]; omega
      simp [hl, s0, upd]
    · rw [Array.getElem?_setIfInBounds_ne (by omega)]
      simp [kArr, madeCells, hi, s0, upd, e, Nat.mod_one]
  have h1 := World.rowIs_made (w.alloc (.cells ((kArr n).setIfInBounds 0 (.bool true)) 4)) (.bool false) n 4
  have h2 := World.rowIs_made ((w.alloc (.cells ((kArr n).setIfInBounds 0 (.bool true)) 4)).alloc (.cells (kArr n) 4)) (.int .i64 0) n 3
  rw [World.size_alloc] at h1
  rw [World.size_alloc, World.size_alloc] at h2
  exact ⟨(h0.alloc _).alloc _, h1.alloc _, h2⟩

theorem next_s0 (n : Nat) (hn : 1 ≤ n) : nextP s0 n = 0 := by
  have : leastP (waits s0) n = 0 := leastP_eq _ _ _ (by omega) (by simp [waits, s0, upd]) (fun j hj => by omega)
  unfold nextP; rw [this, if_pos (by omega)]; rfl
theorem next_none {s : St} {n : Nat} (h : ∀ j, j < n → waits s j = false) : nextP s n = -1 := by
  unfold nextP; rw [leastP_none _ _ h, if_neg (by omega)]
theorem next_some {s : St} {n i : Nat} (hi : i < n) (hp : waits s i = true) (h : ∀ j, j < i → waits s j = false) : nextP s n = i := by
  unfold nextP; rw [leastP_eq _ _ _ hi hp h, if_pos hi]

/-- Where to go: nil, or ints in a block behind b. -/
def Behind (w : World) (b : Nat) (p : Option Addr) (l : List Int) : Prop := l = [] ∨ ∃ bl, b < bl ∧ bl < w.heap.size ∧ p = some ⟨bl, 0, none⟩ ∧ IntsAt w bl l
theorem Behind.set {w : World} {b : Nat} {p : Option Addr} {l : List Int} (h : Behind w b p l) {a : Addr} (ha : a.block ≤ b) (v : Value) : Behind (w.setCell a v) b p l := by
  rcases h with h | ⟨bl, h1, h2, h3, h4⟩
  · exact Or.inl h
  · refine Or.inr ⟨bl, h1, by simpa [World.setCell] using h2, h3, fun j hj => ?_⟩
    rw [← h4 j hj]
    exact World.cell?_of_block (w := w) (Below.heap_setCell _ _ _ _ (by dsimp only; omega))

/-- The next one while upshiftref.heights counts down to t. -/
def Down (s : St) (n t : Nat) (v : Int) : Prop := (v = -1 ∧ ∀ j, t ≤ j → j < n → waits s j = false) ∨ (∃ i : Nat, v = (i : Int) ∧ t ≤ i ∧ i < n ∧ waits s i = true ∧ ∀ j, t ≤ j → j < i → waits s j = false)
theorem Down.start (s : St) (n : Nat) : Down s n n (-1) := Or.inl ⟨rfl, fun j h1 h2 => by omega⟩
theorem Down.hit {s : St} {n t : Nat} (ht : t < n) (h : waits s t = true) : Down s n t t := Or.inr ⟨t, rfl, Nat.le_refl _, ht, h, fun j h1 h2 => by omega⟩
theorem Down.miss {s : St} {n t : Nat} {v : Int} (h : waits s t = false) (hd : Down s n (t + 1) v) : Down s n t v := by
  rcases hd with ⟨e, hd⟩ | ⟨i, e, h1, h2, h3, hd⟩
  · refine Or.inl ⟨e, fun j hj hn => ?_⟩
    by_cases hjt : j = t
    · rw [hjt]; exact h
    · exact hd j (by omega) hn
  · refine Or.inr ⟨i, e, by omega, h2, h3, fun j hj hn => ?_⟩
    by_cases hjt : j = t
    · rw [hjt]; exact h
    · exact hd j (by omega) hn
theorem Down.done {s : St} {n : Nat} {v : Int} (hd : Down s n 0 v) : v = nextP s n := by
  rcases hd with ⟨e, hd⟩ | ⟨i, e, h1, h2, h3, hd⟩
  · rw [e, next_none (fun j hj => hd j (Nat.zero_le _) hj)]
  · rw [e, next_some h2 h3 (fun j hj => hd j (Nat.zero_le _) hj)]

set_option maxRecDepth 100000 in
set_option maxHeartbeats 1000000 in
theorem heights_any (cb co cc n : Nat) (op ar : Nat → Int) (w : World) (hc : CodeAt w cb co n op ar) (hcb : cb < w.heap.size) (hn1 : 1 ≤ n) (hn : n ≤ 64) (lc m : Int)
    (hleg : ∀ j, j < n → legalP (op j) (ar j) lc n m = true) :
    Calls Tryz.prog 97 #[.slice (some ⟨cb, co, none⟩) n cc] w fun e w' =>
      e = .returned (.tuple #[.int .i64 (flowP n op ar (n + 1) s0).1, .int .i64 (flowP n op ar (n + 1) s0).2]) ∧ Below w.heap.size w w' := by
  have hmk4 : ∀ wx : World, (Instr.makeSlice 142 (.int .i64 (n : Int)) (.int .i64 (n : Int))).run Tryz.prog wx = .ok (.slice (some ⟨wx.heap.size, 0, none⟩) n n) (wx.alloc (.cells (kArr n) 4)) :=
    fun wx => run_make_row' (P := Tryz.prog) 142 4 _ 1 Tryz.underlying142 Tryz.info4 rfl .i64 .i64 n (by omega) (by omega) wx
  have hmk3 : ∀ wx : World, (Instr.makeSlice 66 (.int .i64 (n : Int)) (.int .i64 (n : Int))).run Tryz.prog wx = .ok (.slice (some ⟨wx.heap.size, 0, none⟩) n n) (wx.alloc (.cells (hArr n) 3)) :=
    fun wx => run_make_row' (P := Tryz.prog) 66 3 _ 8 Tryz.underlying66 Tryz.info3 rfl .i64 .i64 n (by omega) (by omega) wx
  have h0 := kArr_zero n hn1
  have HI : Hid (CodeAt w cb co n op ar ∧ ∀ j, j < n → legalP (op j) (ar j) lc n m = true) := ⟨hc, hleg⟩
  clear hc hleg
  generalize hR : flowP n op ar (n + 1) s0 = R at *
  have HR := hid hR
  clear hR
  go_enter Tryz.func97, Tryz.ntmps97
  go_wp2
  go_loopg [7] n (fun gk v wr => ∃ s : St, v = .int .i64 (nextP s n) ∧ unl s.L n ≤ gk ∧ flowP n op ar (gk + 1) s = R ∧ HB s ∧ Three wr w.heap.size n s ∧ Below w.heap.size w wr)
  case atStart => exact ⟨s0, by rw [next_s0 n hn1], unl_le _ _, HR.out, HB_s0, three_made w n hn1, (((Below.refl _ _).alloc (Nat.le_refl _) _).alloc (by simp) _).alloc (by simp; omega) _⟩
  case round =>
    obtain ⟨s, rfl, hu, hF, hH, hT, hB⟩ := hrel
    have hF2 := hF
    rw [flowP_succ] at hF2
    unfold nextP
    clear HR h0 hmk3 hmk4
    rcases leastP_spec (waits s) n with ⟨h1, h2, h3⟩ | ⟨h1, h2⟩
    · rw [if_pos h1] at hF2 ⊢
      have hwt : s.L (leastP (waits s) n) = false := by
        have := h2
        simp only [waits, Bool.and_eq_true, Bool.not_eq_true'] at this
        exact this.2
      clear h2 h3
      generalize leastP (waits s) n = i at *
      have hul := unl_upd s.L n i h1 hwt
      have hl := HI.out.2 i h1
      have ho := legal_range hl
      have h13 := legal_call hl
      have hj := legal_jump hl
      have hpb := popsP_bd h13
      have hqb := pushesP_bd (op i)
      have hHi := hH i
      have hLL := lookP_L n op ar s i
      have hHH := lookP_HB (n := n) (op := op) (ar := ar) (i := i) hH
      have hsz : w.heap.size + 1 + 1 < wr.heap.size := hT.H.lt
      have x0 : wr.cell? ⟨cb, co + i * 2, none⟩ = some (.int .i64 (op i)) := ((HI.out.1.below hB hcb) i h1).1
      have x1 : wr.cell? ⟨cb, co + i * 2 + 1, none⟩ = some (.int .i64 (ar i)) := ((HI.out.1.below hB hcb) i h1).2
      have y1 : wr.cell? ⟨w.heap.size + 1, i, none⟩ = some (.bool (s.L i)) := hT.L.cell h1
      have z1 : wr.frozen? ⟨w.heap.size + 1, i, none⟩ = false := hT.L.frozen i
      have y2 : wr.cell? ⟨w.heap.size + 1 + 1, i, none⟩ = some (.int .i64 (s.H i)) := hT.H.cell h1
      have HT : Hid (Three (wr.setCell ⟨w.heap.size + 1, i, none⟩ (.bool true)) w.heap.size n { s with L := upd s.L i true } ∧ Below w.heap.size w (wr.setCell ⟨w.heap.size + 1, i, none⟩ (.bool true))) := ⟨hT.setL i true, hB.setCell (by simp) _⟩
      have HX : Hid ((if (lookP n op ar s i).1 = 0 then flowP n op ar gk (lookP n op ar s i).2 else ((lookP n op ar s i).1, (i : Int))) = R ∧ (lookP n op ar s i).2.L = upd s.L i true ∧ HB (lookP n op ar s i).2 ∧ unl (upd s.L i true) n + 1 = unl s.L n ∧ unl s.L n ≤ gk ∧ HB s) := ⟨hF2, hLL, hHH, hul, hu, hH⟩
      clear hF2 hLL hHH hul hu hH hF hwt hT hB hl
      have hcw : ¬ cb = w.heap.size + 1 := by omega
      have hT1 : Three ((wr.setCell ⟨w.heap.size + 1, i, none⟩ (.bool true)).alloc (.cells #[.int .i64 (op i), .int .i64 (ar i)] 33)) w.heap.size n { s with L := upd s.L i true } := HT.out.1.alloc _
      have hB1 : Below w.heap.size w ((wr.setCell ⟨w.heap.size + 1, i, none⟩ (.bool true)).alloc (.cells #[.int .i64 (op i), .int .i64 (ar i)] 33)) := HT.out.2.alloc (by simp [World.setCell]; omega) _
      have b0 : ((wr.setCell ⟨w.heap.size + 1, i, none⟩ (.bool true)).alloc (.cells #[.int .i64 (op i), .int .i64 (ar i)] 33)).cell? ⟨wr.heap.size, 0, none⟩ = some (.int .i64 (op i)) := cell_new _ _ _ _ _ (by simp [World.setCell])
      have b1 : ((wr.setCell ⟨w.heap.size + 1, i, none⟩ (.bool true)).alloc (.cells #[.int .i64 (op i), .int .i64 (ar i)] 33)).cell? ⟨wr.heap.size, 1, none⟩ = some (.int .i64 (ar i)) := cell_new _ _ _ _ _ (by simp [World.setCell])
      have hz : wr.heap.size < ((wr.setCell ⟨w.heap.size + 1, i, none⟩ (.bool true)).alloc (.cells #[.int .i64 (op i), .int .i64 (ar i)] 33)).heap.size := by simp
      have b2 : ((wr.setCell ⟨w.heap.size + 1, i, none⟩ (.bool true)).alloc (.cells #[.int .i64 (op i), .int .i64 (ar i)] 33)).cell? ⟨w.heap.size + 1 + 1, i, none⟩ = some (.int .i64 (s.H i)) := hT1.H.cell h1
      have HW : Hid (Three ((wr.setCell ⟨w.heap.size + 1, i, none⟩ (.bool true)).alloc (.cells #[.int .i64 (op i), .int .i64 (ar i)] 33)) w.heap.size n { s with L := upd s.L i true } ∧ Below w.heap.size w ((wr.setCell ⟨w.heap.size + 1, i, none⟩ (.bool true)).alloc (.cells #[.int .i64 (op i), .int .i64 (ar i)] 33)) ∧ ((wr.setCell ⟨w.heap.size + 1, i, none⟩ (.bool true)).alloc (.cells #[.int .i64 (op i), .int .i64 (ar i)] 33)).cell? ⟨wr.heap.size, 0, none⟩ = some (.int .i64 (op i)) ∧ ((wr.setCell ⟨w.heap.size + 1, i, none⟩ (.bool true)).alloc (.cells #[.int .i64 (op i), .int .i64 (ar i)] 33)).cell? ⟨wr.heap.size, 1, none⟩ = some (.int .i64 (ar i)) ∧ ((wr.setCell ⟨w.heap.size + 1, i, none⟩ (.bool true)).alloc (.cells #[.int .i64 (op i), .int .i64 (ar i)] 33)).cell? ⟨w.heap.size + 1 + 1, i, none⟩ = some (.int .i64 (s.H i)) ∧ wr.heap.size < ((wr.setCell ⟨w.heap.size + 1, i, none⟩ (.bool true)).alloc (.cells #[.int .i64 (op i), .int .i64 (ar i)] 33)).heap.size) := ⟨hT1, hB1, b0, b1, b2, hz⟩
      clear hT1 hB1 b0 b1 b2 hz HT
      go_wp2
      clear x0 x1 y1 z1 y2
      generalize (wr.setCell ⟨w.heap.size + 1, i, none⟩ (.bool true)).alloc (.cells #[.int .i64 (op i), .int .i64 (ar i)] 33) = W at *
      obtain ⟨hT1, hB1, b0, b1, b2, hz⟩ := HW.out
      have hHW := hid hT1
      have hBW := hid hB1
      clear HW hT1 hB1
      generalize hsh : s.H i = hh at *
      have Hsh := hid hsh
      clear hsh
      have i0 : (0 : Int) ≤ (i : Int) := by omega
      have i1 : (i : Int) < (n : Int) := by omega
      have HQ : Hid (op i = 13 → 0 ≤ ar i ∧ ar i ≤ 8) := h13
      clear h13 ho hj
      go_region_held3 (fun w' => w'.cell? ⟨w.heap.size + 1 + 1, i, none⟩ = some (.int .i64 hh) ∧ w'.cell? ⟨wr.heap.size, 0, none⟩ = some (.int .i64 (op i)) ∧ w'.cell? ⟨wr.heap.size, 1, none⟩ = some (.int .i64 (ar i))) (go_keep)
        (first | (go_at_call 108; refine (pops_any _ _ _ HQ.out).mono ?_; rintro e w2 ⟨rfl, hB2⟩; have q0 := (hB2.cell (p := ⟨w.heap.size + 1 + 1, i, none⟩) (by show _ < W.heap.size; dsimp only; omega)).trans b2; have q1 := (hB2.cell (p := ⟨wr.heap.size, 0, none⟩) hz).trans b0; have q2 := (hB2.cell (p := ⟨wr.heap.size, 1, none⟩) hz).trans b1))
      have hwrap : IntKind.i64.wrap (hh - popsP (op i) (ar i)) = hh - popsP (op i) (ar i) := by rw [IntKind.wrap_i64]; omega
      rw [hwrap]
      clear hwrap
      have hT2 : Three w2 w.heap.size n { s with L := upd s.L i true } := hHW.out.drew.below hB2 (by show _ < W.heap.size; omega)
      have hB3 : Below w.heap.size w w2 := hBW.out.drew.trans (hB2.mono (by show _ ≤ W.heap.size; have := hBW.out.size; omega))
      have hz2 : wr.heap.size < w2.heap.size := by have : W.heap.size ≤ w2.heap.size := hB2.size; omega
      have HT2 : Hid (Three w2 w.heap.size n { s with L := upd s.L i true } ∧ Below w.heap.size w w2) := ⟨hT2, hB3⟩
      rename_i hheld
      clear hheld q0 hB2 hT2 hB3 hHW hBW b0 b1 b2 hz i0 i1
      have hlk : lookP n op ar s i = if hh < popsP (op i) (ar i) then (4, { s with L := upd s.L i true }) else if 16 < hh - popsP (op i) (ar i) + pushesP (op i) then (4, { s with L := upd s.L i true }) else reachAll n (hh - popsP (op i) (ar i) + pushesP (op i)) (afterP (op i) (ar i) i) { s with L := upd s.L i true } := by
        rw [← Hsh.out]; rfl
      generalize hpp : popsP (op i) (ar i) = pp at *
      generalize hqq : pushesP (op i) = qq at *
      have Hpq : Hid (pushesP (op i) = qq) := hqq
      clear hpp hqq
      obtain ⟨hF2, hLL, hHH, hul, hu, hH⟩ := HX.out
      clear HX
      rcases hlp : lookP n op ar s i with ⟨er, sr⟩
      rw [hlp] at hF2 hLL hHH hlk
      clear hlp
      have HX : Hid ((if er = 0 then flowP n op ar gk sr else (er, (i : Int))) = R ∧ sr.L = upd s.L i true ∧ HB sr ∧ unl (upd s.L i true) n + 1 = unl s.L n ∧ unl s.L n ≤ gk) := ⟨hF2, hLL, hHH, hul, hu⟩
      clear hF2 hLL hHH hul hu hH
      by_cases hA : hh < pp
      · rw [if_pos hA] at hlk
        obtain ⟨rfl, rfl⟩ := Prod.mk.inj hlk
        have HY : Hid (R = (4, (i : Int))) := by unfold Hid; rw [← HX.out.1]; rfl
        clear hlk HX
        have hA' : hh - pp < 0 := by omega
        go_wp2
        go_ret2
        rw [HY.out]
        exact ⟨rfl, HT2.out.2⟩
      · rw [if_neg hA] at hlk
        have hA' : decide (hh - pp < 0) = false := by simp; omega
        have hA'' : 0 ≤ hh - pp := by omega
        by_cases hC : 16 < hh - pp + qq
        · rw [if_pos hC] at hlk
          obtain ⟨rfl, rfl⟩ := Prod.mk.inj hlk
          have HY : Hid (R = (4, (i : Int))) := by unfold Hid; rw [← HX.out.1]; rfl
          clear hlk HX
          go_wp2_with fail
          refine (pushes_any _ _ _).mono ?_
          rintro e w3 ⟨rfl, hB3⟩
          rw [Hpq.out]
          have HB3 := hid hB3
          clear hB3
          go_wp2
          go_ret2
          rw [HY.out]
          exact ⟨rfl, HT2.out.2.trans (HB3.out.mono HT2.out.2.size)⟩
        · rw [if_neg hC] at hlk
          have HLK := hid hlk
          clear hlk
          go_wp2_with fail
          refine (pushes_any _ _ _).mono ?_
          rintro e w3 ⟨rfl, hB3⟩
          rw [Hpq.out]
          have HT3 : Hid (Three w3 w.heap.size n { s with L := upd s.L i true } ∧ Below w.heap.size w w3) := ⟨HT2.out.1.below hB3 (by omega), HT2.out.2.trans (hB3.mono HT2.out.2.size)⟩
          have r1 := (hB3.cell (p := ⟨wr.heap.size, 0, none⟩) hz2).trans q1
          have r2 := (hB3.cell (p := ⟨wr.heap.size, 1, none⟩) hz2).trans q2
          have hz3 : wr.heap.size < w3.heap.size := by have := hB3.size; omega
          clear hB3 q1 q2 hz2 HT2
          go_wp2_with fail
          refine (pushes_any _ _ _).mono ?_
          rintro e w4 ⟨rfl, hB4⟩
          rw [Hpq.out]
          have HT4 : Hid (Three w4 w.heap.size n { s with L := upd s.L i true } ∧ Below w.heap.size w w4) := ⟨HT3.out.1.below hB4 (by omega), HT3.out.2.trans (hB4.mono HT3.out.2.size)⟩
          have q1 := (hB4.cell (p := ⟨wr.heap.size, 0, none⟩) hz3).trans r1
          have q2 := (hB4.cell (p := ⟨wr.heap.size, 1, none⟩) hz3).trans r2
          have hz4 : wr.heap.size < w4.heap.size := by have := hB4.size; omega
          clear hB4 r1 r2 hz3 HT3
          go_wp2_with fail
          refine (after_any _ _ _ _ (by omega)).mono ?_
          rintro e w5 ⟨p, c, rfl, hB5, hG⟩
          have hT5 : Three w5 w.heap.size n { s with L := upd s.L i true } := HT4.out.1.below hB5 (by omega)
          have hB6 : Below w.heap.size w w5 := HT4.out.2.trans (hB5.mono HT4.out.2.size)
          have hG5 : Behind w5 (w.heap.size + 1 + 1) p (afterP (op i) (ar i) i) := by
            rcases hG with h | ⟨bl, a1, a2, a3, a4⟩
            · exact Or.inl h
            · exact Or.inr ⟨bl, by omega, a2, a3, a4⟩
          have hnn := afterP_nonneg (i := i) (fun hx => (legal_jump (HI.out.2 i h1) hx).1)
          have hln := afterP_len (op i) (ar i) i
          have HLK' := HLK.out
          clear HT4 hB5 hG q1 q2 HLK HI HQ Hsh Hpq
          generalize { s with L := upd s.L i true } = s1 at *
          generalize afterP (op i) (ar i) i = l at *
          generalize hh - pp + qq = d at *
          have HF : Hid ((∀ t, t ∈ l → 0 ≤ t) ∧ (er, sr) = reachAll n d l s1) := ⟨hnn, HLK'⟩
          have HS : Hid (Three w5 w.heap.size n s1 ∧ Below w.heap.size w w5 ∧ Behind w5 (w.heap.size + 1 + 1) p l) := ⟨hT5, hB6, hG5⟩
          clear hnn HLK' hT5 hB6 hG5
          go_wp2
          go_loopw [11] (fun v wz => ∃ (k : Nat) (sk : St), k ≤ l.length ∧ v = .int .i64 k ∧ reachAll n d l s1 = reachAll n d (l.drop k) sk ∧ Three wz w.heap.size n sk ∧ Below w.heap.size w wz ∧ Behind wz (w.heap.size + 1 + 1) p l) (fun v _ => l.length - (intOf v).toNat)
          case atStart => exact ⟨0, s1, Nat.zero_le _, rfl, rfl, HS.out.1, HS.out.2.1, HS.out.2.2⟩
          case round =>
            obtain ⟨k, sk, hk, rfl, hR, hT, hB, hG⟩ := hrel
            by_cases hlt : k < l.length
            · rcases hG with rfl | ⟨bl, g1, g2, rfl, hI⟩
              · simp at hlt
              · have zz := hI k hlt
                have hz0 : 0 ≤ l.getD k 0 := HF.out.1 _ (by rw [getD_lt l k hlt]; exact List.getElem_mem _)
                have hst := reachAll_drop n d l sk k hlt
                generalize l.getD k 0 = tk at *
                obtain ⟨t, rfl⟩ := Int.eq_ofNat_of_zero_le hz0
                unfold reachP at hst
                simp only [Int.toNat_natCast] at hst
                by_cases hnt : (n : Int) ≤ (t : Int)
                · rw [if_pos hnt] at hst
                  have he : (er, sr) = (3, sk) := by rw [HF.out.2, hR, hst]; rfl
                  obtain ⟨rfl, rfl⟩ := Prod.mk.inj he
                  have HY : Hid (R = (3, (i : Int)) ∧ Below w.heap.size w wr) := ⟨by rw [← HX.out.1]; rfl, hB⟩
                  clear hst he HX HF HS hR hT hB hI
                  go_wp2
                  go_ret2
                  rw [HY.out.1]
                  exact ⟨rfl, HY.out.2⟩
                · rw [if_neg hnt] at hst
                  have c0 := hT.K.cell (i := t) (by omega)
                  have c2 := hT.H.cell (i := t) (by omega)
                  have f0 := hT.K.frozen t
                  have f2 := hT.H.frozen t
                  have ht : t < n := by omega
                  have hbl0 : ¬ bl = w.heap.size := by omega
                  have hbl2 : ¬ bl = w.heap.size + 1 + 1 := by omega
                  by_cases hkh : sk.K t = true ∧ sk.H t ≠ d
                  · rw [if_pos hkh] at hst
                    have he : (er, sr) = (4, sk) := by rw [HF.out.2, hR, hst]; rfl
                    obtain ⟨rfl, rfl⟩ := Prod.mk.inj he
                    have HY : Hid (R = (4, (i : Int)) ∧ Below w.heap.size w wr) := ⟨by rw [← HX.out.1]; rfl, hB⟩
                    rw [hkh.1] at c0
                    have hne : (sr.H t != d) = true := by simpa using hkh.2
                    clear hst he HX HF HS hR hT hB hI hkh
                    generalize sr.H t = ht2 at *
                    go_wp2
                    go_ret2
                    rw [HY.out.1]
                    exact ⟨rfl, HY.out.2⟩
                  · rw [if_neg hkh] at hst
                    simp only [if_true] at hst
                    have hT' := (hT.setK t true).setH t d
                    have hB' : Below w.heap.size w ((wr.setCell ⟨w.heap.size, t, none⟩ (.bool true)).setCell ⟨w.heap.size + 1 + 1, t, none⟩ (.int .i64 d)) := (hB.setCell (by simp) _).setCell (by simp; omega) _
                    have hG' : Behind ((wr.setCell ⟨w.heap.size, t, none⟩ (.bool true)).setCell ⟨w.heap.size + 1 + 1, t, none⟩ (.int .i64 d)) (w.heap.size + 1 + 1) (some ⟨bl, 0, none⟩) l :=
                      Behind.set (Behind.set (Or.inr ⟨bl, g1, g2, rfl, hI⟩) (by dsimp only; omega) _) (by dsimp only; omega) _
                    have HZ : Hid (reachAll n d l s1 = reachAll n d (l.drop (k + 1)) { K := upd sk.K t true, L := sk.L, H := upd sk.H t d } ∧ Three ((wr.setCell ⟨w.heap.size, t, none⟩ (.bool true)).setCell ⟨w.heap.size + 1 + 1, t, none⟩ (.int .i64 d)) w.heap.size n { K := upd sk.K t true, L := sk.L, H := upd sk.H t d } ∧ Below w.heap.size w ((wr.setCell ⟨w.heap.size, t, none⟩ (.bool true)).setCell ⟨w.heap.size + 1 + 1, t, none⟩ (.int .i64 d)) ∧ Behind ((wr.setCell ⟨w.heap.size, t, none⟩ (.bool true)).setCell ⟨w.heap.size + 1 + 1, t, none⟩ (.int .i64 d)) (w.heap.size + 1 + 1) (some ⟨bl, 0, none⟩) l) := ⟨hR.trans hst, hT', hB', hG'⟩
                    clear hst hT' hB' hG' hR hT hB hI
                    cases hK : sk.K t
                    · rw [hK] at c0
                      clear hK hkh
                      generalize hht : sk.H t = ht2 at c2
                      clear hht
                      go_wp2
                      go_roundw
                      case rel => exact ⟨k + 1, _, by omega, by go_num, HZ.out.1, HZ.out.2.1, HZ.out.2.2.1, HZ.out.2.2.2⟩
                      case measure => simp [intOf]; omega
                    · have hd : sk.H t = d := by
                        by_cases e : sk.H t = d
                        · exact e
                        · exact absurd ⟨hK, e⟩ hkh
                      rw [hK] at c0
                      rw [hd] at c2
                      clear hK hkh hd
                      go_wp2
                      go_roundw
                      case rel => exact ⟨k + 1, _, by omega, by go_num, HZ.out.1, HZ.out.2.1, HZ.out.2.2.1, HZ.out.2.2.2⟩
                      case measure => simp [intOf]; omega
            · obtain rfl : k = l.length := by omega
              have he : (er, sr) = (0, sk) := by rw [HF.out.2, hR, reachAll_end]
              obtain ⟨rfl, rfl⟩ := Prod.mk.inj he
              clear he HF HS hR hG
              have HV : Hid (Three wr w.heap.size n sr ∧ Below w.heap.size w wr) := ⟨hT, hB⟩
              have cK := fun j (hj : j < n) => hT.K.cell hj
              have cL := fun j (hj : j < n) => hT.L.cell hj
              clear hT hB
              have HC : Hid ((∀ j, j < n → wr.cell? ⟨w.heap.size, j, none⟩ = some (.bool (sr.K j))) ∧ (∀ j, j < n → wr.cell? ⟨w.heap.size + 1, j, none⟩ = some (.bool (sr.L j)))) := ⟨cK, cL⟩
              clear cK cL
              go_wp2
              go_loop [7, 12] (fun v7 v12 => ∃ (t : Nat) (v x : Int), t ≤ n ∧ v12 = .int .i64 x ∧ x = (t : Int) - 1 ∧ v7 = .int .i64 v ∧ Down sr n t v) (fun _ v12 => (intOf v12 + 1).toNat)
              case atStart => exact ⟨n, -1, _, Nat.le_refl _, rfl, rfl, rfl, Down.start _ _⟩
              case round =>
                obtain ⟨t, v, x, ht, rfl, hx, rfl, hD⟩ := hrel
                by_cases h0 : t = 0
                · obtain rfl : x = -1 := by omega
                  subst h0
                  have hv := hD.done
                  obtain ⟨hF2, hLL, hHH, hul, hu⟩ := HX.out
                  have hF3 : flowP n op ar gk sr = R := by simpa using hF2
                  have HY : Hid (∃ s : St, Value.int .i64 v = .int .i64 (nextP s n) ∧ unl s.L n ≤ gk - 1 ∧ flowP n op ar (gk - 1 + 1) s = R ∧ HB s ∧ Three wr w.heap.size n s ∧ Below w.heap.size w wr) :=
                    ⟨sr, by rw [hv], by rw [hLL]; omega, by rw [show gk - 1 + 1 = gk by omega]; exact hF3, hHH, HV.out.1, HV.out.2⟩
                  have hgk : gk - 1 < gk := by omega
                  clear hF2 hF3 hLL hHH hul hu hv hD HX HV HC hx
                  go_wp2
                  go_roundg (gk - 1)
                  case measure => exact hgk
                  case rel => exact HY.out
                · obtain ⟨u, rfl⟩ : ∃ u : Nat, x = (u : Int) := ⟨t - 1, by omega⟩
                  obtain rfl : t = u + 1 := by omega
                  have c0 := HC.out.1 u (by omega)
                  have c1 := HC.out.2 u (by omega)
                  have hun : u < n := by omega
                  cases hK : sr.K u
                  · have HD : Hid (Down sr n u v) := hD.miss (by simp [waits, hK])
                    rw [hK] at c0
                    clear hK hD hx
                    generalize sr.L u = lu at c1
                    go_wp2
                    go_round
                    case rel => exact ⟨u, v, _, by omega, rfl, by omega, rfl, HD.out⟩
                    case measure => simp [intOf]
                  · cases hL : sr.L u
                    · have HD : Hid (Down sr n u (u : Int)) := Down.hit hun (by simp [waits, hK, hL])
                      rw [hK] at c0
                      rw [hL] at c1
                      clear hK hL hD hx
                      go_wp2
                      go_round
                      case rel => exact ⟨u, _, _, by omega, rfl, by omega, rfl, HD.out⟩
                      case measure => simp [intOf]
                    · have HD : Hid (Down sr n u v) := hD.miss (by simp [waits, hL])
                      rw [hK] at c0
                      rw [hL] at c1
                      clear hK hL hD hx
                      go_wp2
                      go_round
                      case rel => exact ⟨u, v, _, by omega, rfl, by omega, rfl, HD.out⟩
                      case measure => simp [intOf]
    · rw [h1, if_neg (by omega)] at hF2 ⊢
      have HY : Hid (R = (0, 0) ∧ Below w.heap.size w wr) := ⟨hF2.symm, hB⟩
      clear hF2 h1 h2 hu hF hH hT hB
      go_wp2
      go_ret2
      rw [HY.out.1]
      exact ⟨rfl, HY.out.2⟩
end Go.Proofs.YtkafkipjedpohaaGreatDoor
