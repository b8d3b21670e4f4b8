import Derived.Test.YtkafkipjedpohaaGreatDoorPureU
import Derived.Test.YtkafkipjedpohaaGreatDoorW2
import Derived.Deep.CutRange

/-
  Package upshiftkeep: what Deep looks at.
-/
namespace Go.Proofs.YtkafkipjedpohaaGreatDoor
open Go.RowKit

theorem prod_atn (k : Nat) (hk : k ≤ 22) {K : Nat → Nat → Bool} {H : Nat → Nat → Int} (hF : Fine 2 (prodF k) K H) (n : Int) (hn : 10 * k + 8 ≤ fuelP n) : atP (prodF k) n = prodE (vnum (facW k)) (10 * k + 8) 0 (fun _ => false) 0 0 := by
  rw [← atE_nil]
  exact prod_plain k hk hF (fuelP n) hn
theorem prod_attn (k : Nat) (hk : 23 ≤ k) (hk2 : k ≤ 40) {K : Nat → Nat → Bool} {H : Nat → Nat → Int} (hF : Fine 2 (prodF k) K H) (n : Int) (hn : 187 ≤ fuelP n) : atP (prodF k) n = prodT k := by
  rw [← atE_nil]
  exact prod_trap k hk hk2 hF (fuelP n) hn
theorem prod_atdn (k : Nat) (hk : k ≤ 22) {K : Nat → Nat → Bool} {H : Nat → Nat → Int} (hF : Fine 2 (prodF k) K H) (j : Nat) (hj : j ≤ k) (n : Int) (hn : 10 * k + 8 ≤ fuelP n) : atE (prodF k) [⟨0, 1, 1⟩, ⟨3 + 8 * (j : Int), 2, 1⟩] n = prodE (vnum (facW k)) (10 * k + 8) (8 * j) (upd (upd (fun _ => false) 1 true) 1 false) 0 (j + 1) := prod_drop k hk hF (by omega) j hj (fuelP n) hn
theorem fuel_bigD : fuelP 100000 = 100000 := by decide

/-- What a run of product is like. -/
def ProdIs (k : Nat) (s : Mc) (en : Int) (st : Nat) (g : V) : Prop :=
  endP s = en ∧ s.steps = st ∧ s.gives = g ∧ s.out = [] ∧ ((k ≤ 22 ∧ en = 1 ∧ st = 10 * k + 8 ∧ g = vnum (facW k)) ∨ (23 ≤ k ∧ en = 7 ∧ st = 187 ∧ s.fr = (prodT k).fr))
theorem prod_is (k : Nat) (hk : k ≤ 39) {K : Nat → Nat → Bool} {H : Nat → Nat → Int} (hF : Fine 2 (prodF k) K H) : ∃ en st g, ProdIs k (atP (prodF k) 100000) en st g := by
  by_cases h : k ≤ 22
  · have e := prod_atn k h hF 100000 (by rw [fuel_bigD]; omega)
    rw [e]
    exact ⟨1, _, _, rfl, rfl, rfl, rfl, Or.inl ⟨h, rfl, rfl, rfl⟩⟩
  · have e := prod_attn k (by omega) (by omega) hF 100000 (by rw [fuel_bigD]; omega)
    rw [e]
    exact ⟨7, _, _, rfl, rfl, rfl, rfl, Or.inr ⟨by omega, rfl, rfl, rfl⟩⟩

/-- Shift of product's code, whatever the events. -/
theorem prod_shift {X : World} {b : Nat} {k : Nat} {K : Nat → Nat → Bool} {H : Nat → Nat → Int} (h : CdK X b 2 (prodF k)) (hF : Fine 2 (prodF k) K H) {en : Int} {st : Nat} {g : V} (hs : ProdIs k (atP (prodF k) 100000) en st g) {ev : Value} {E : List Ev} (hev : EvV X X.heap.size ev E) (hok : eventsP 2 E = 0) :
    Calls Tryz.prog 26 #[.pointer (some ⟨b, 0, none⟩), ev, .int .i64 100000] X fun e w' => ∃ p c, e = .returned (.tuple #[.agg #[.int .i64 en, .int .i64 st, .int .i64 g.k, .int .i64 g.n, .slice p 0 c], .agg #[.int .i64 (atE (prodF k) E 100000).cH, .int .i64 (atE (prodF k) E 100000).cU, .int .i64 (atE (prodF k) E 100000).cD], .int .i64 0]) ∧ Below X.heap.size X w' ∧ ArgsIn w' (.slice p 0 c) [] := by
  obtain ⟨h1, h2, h3, h4, _⟩ := hs
  refine (h.shift hF 100000 hev hok).mono ?_
  rintro e w' ⟨p, c, rfl, k1, k2⟩
  rw [h4] at k2 ⊢
  refine ⟨p, c, ?_, k1, k2⟩
  unfold OutcomeV CountsV
  rw [h1, h2, h3]
  rfl
/-- Stop of a code, whatever the events. -/
theorem CdK.stop {X : World} {b m : Nat} {F : Nat → PF} {K : Nat → Nat → Bool} {H : Nat → Nat → Int} (h : CdK X b m F) (hF : Fine m F K H) (fuel : Int) {ev : Value} {E : List Ev} (hev : EvV X X.heap.size ev E) (hok : eventsP m E = 0) :
    Calls Tryz.prog 28 #[.pointer (some ⟨b, 0, none⟩), ev, .int .i64 fuel] X fun e w' => ∃ fp fc ap ac LV SV tg, e = .returned (.tuple #[.agg #[.slice fp (atP F fuel).fr.length fc, .slice ap (atP F fuel).arr.length ac], .int .i64 0]) ∧ Below X.heap.size X w' ∧ FrsOut w' X.heap.size tg (.slice fp (atP F fuel).fr.length fc) LV SV (frAt (atP F fuel).fr) (atP F fuel).fr.length := by
  obtain ⟨g, cap, CA, CC, h1, h2, h3, h4⟩ := h
  refine (codeStop X b g 0 cap m F K H CA CC fuel ev E h1 h3 h4 hF hev hok).mono ?_
  rintro e w' ⟨v, rfl, fv, av, LV, SV, AV, tg, hv, k1, k2, k3⟩
  injection hv with hv
  subst hv
  obtain ⟨fp, fc, rfl, _⟩ := k2.row.any
  obtain ⟨ap, ac, rfl, _⟩ := k3.row.any
  exact ⟨fp, fc, ap, ac, LV, SV, tg, rfl, k1, k2⟩
theorem prod_e2 (j : Nat) : eventsP 2 [⟨0, 1, 1⟩, ⟨3 + 8 * (j : Int), 2, 1⟩] = 0 := by
  have h1 : decide (3 + 8 * (j : Int) < 0) = false := by simp; omega
  unfold eventsP
  rw [if_neg (by simp)]
  simp only [evsP, mayP, h1]
  simp

/-- The third Shift: two events of one's own. -/
theorem prod_third {X : World} {b : Nat} {k : Nat} (hk : k ≤ 22) {K : Nat → Nat → Bool} {H : Nat → Nat → Int} (h : CdK X b 2 (prodF k)) (hF : Fine 2 (prodF k) K H) (j : Nat) (hj : j ≤ k) (q : Nat) (hq : X.heap[q]? = some (.cells #[.int .i64 0, .int .i64 1, .int .i64 1, .int .i64 (3 + 8 * (j : Int)), .int .i64 2, .int .i64 1] 65 (0, 0))) (S st : Int) (hS : facW k = S) (hst : ((10 * k + 8 : Nat) : Int) = st) :
    Calls Tryz.prog 26 #[.pointer (some ⟨b, 0, none⟩), .slice (some ⟨q, 0, none⟩) 2 2, .int .i64 100000] X fun e w' => ∃ p c, e = .returned (.tuple #[.agg #[.int .i64 1, .int .i64 st, .int .i64 1, .int .i64 S, .slice p 0 c], .agg #[.int .i64 (8 * (j : Int)), .int .i64 0, .int .i64 ((j : Int) + 1)], .int .i64 0]) ∧ Below X.heap.size X w' ∧ ArgsIn w' (.slice p 0 c) [] := by
  have hE7 : EvV X X.heap.size (.slice (some ⟨q, 0, none⟩) 2 2) [⟨0, 1, 1⟩, ⟨3 + 8 * (j : Int), 2, 1⟩] := ⟨_, _, rfl, Nat.le_refl _, fun _ => ⟨_, _, rfl, heap_lt hq, fun i hi => by
    have h3 : i = 0 ∨ i = 1 := by have : i < 2 := hi; omega
    rcases h3 with rfl | rfl <;> exact ⟨(cell_heap hq).trans rfl, (cell_heap hq).trans rfl, (cell_heap hq).trans rfl⟩⟩⟩
  have hn : 10 * k + 8 ≤ fuelP 100000 := by rw [fuel_bigD]; omega
  have e := prod_atn k hk hF 100000 hn
  have hp : ProdIs k (atP (prodF k) 100000) 1 (10 * k + 8) (vnum (facW k)) := by
    rw [e]
    exact ⟨rfl, rfl, rfl, rfl, Or.inl ⟨hk, rfl, rfl, rfl⟩⟩
  have hs := prod_shift h hF hp hE7 (prod_e2 j)
  rw [prod_atdn k hk hF j hj 100000 hn] at hs
  subst hS hst
  exact hs

/-- The frames that wait, the first one first. -/
theorem prodW_at (k : Int) : ∀ (d i : Nat), 1 ≤ i → i ≤ d → frAt (prodW k d) i = ⟨1, 8, [vnum (k + 1 - i)], [vnum (k + 1 - i)]⟩
  | 0, i, h1, h2 => by omega
  | d + 1, i, h1, h2 => by
    show frAt (⟨1, 8, [vnum (k - d)], [vnum (k - d)]⟩ :: prodW k d) i = _
    by_cases h : i = d + 1
    · subst h
      have e := frAt_top ⟨1, 8, [vnum (k - d)], [vnum (k - d)]⟩ (prodW k d)
      rw [prodW_len] at e
      have e2 : k - (d : Int) = k + 1 - ((d + 1 : Nat) : Int) := by omega
      rw [e, e2]
    · rw [frAt_rest _ _ _ (by rw [prodW_len]; omega)]
      exact prodW_at k d i h1 (by omega)
theorem prodT_len (k : Int) : (prodT k).fr.length = 24 := by
  show (prodW k 22).length + 1 = 24
  rw [prodW_len]
theorem prodT_at (k : Int) (i : Nat) (h1 : 1 ≤ i) (h2 : i ≤ 22) : frAt (prodT k).fr i = ⟨1, 8, [vnum (k + 1 - i)], [vnum (k + 1 - i)]⟩ := by
  show frAt (⟨1, 7, [vnum (k - 22)], [vnum (k - 22)]⟩ :: prodW k 22) i = _
  rw [frAt_rest _ _ _ (by rw [prodW_len]; omega)]
  exact prodW_at k 22 i h1 h2
/-- What is read of the frames of a run that went too deep. -/
theorem prod_cells {X : World} {B : Nat} {tg : Nat → Nat} {fp : Option Addr} {fc : Nat} {LV SV : Nat → Value} {k : Int} (h : FrsOut X B tg (.slice fp 24 fc) LV SV (frAt (prodT k).fr) 24) :
    ∃ fb, fp = some ⟨fb, 0, none⟩ ∧ fb < X.heap.size ∧ ∀ i, 1 ≤ i → i ≤ 22 → ∃ lp ln lc sb sc, X.cell? ⟨fb, i * 4, none⟩ = some (.int .i64 1) ∧ X.cell? ⟨fb, i * 4 + 1, none⟩ = some (.int .i64 8) ∧ X.cell? ⟨fb, i * 4 + 2, none⟩ = some (.slice lp ln lc) ∧ X.cell? ⟨fb, i * 4 + 3, none⟩ = some (.slice (some ⟨sb, 0, none⟩) 1 sc) ∧ sb < X.heap.size ∧ X.cell? ⟨sb, 0, none⟩ = some (.int .i64 1) ∧ X.cell? ⟨sb, 1, none⟩ = some (.int .i64 (k + 1 - i)) := by
  obtain ⟨fb, rfl, hz, _⟩ := h.at_ (i := 0) (by omega)
  refine ⟨fb, rfl, hz, fun i h1 h2 => ?_⟩
  obtain ⟨b', e, _, c0, c1, c2, c3⟩ := h.at_ (i := i) (by omega)
  injection e with e
  injection e with e _ _
  subst e
  have hl := h.loc i (by omega)
  have hs := h.stk i (by omega)
  rw [prodT_at k i h1 h2] at hl hs c0 c1
  obtain ⟨lp, lc, el, _⟩ := hl.any
  obtain ⟨sb, sc, es, _, hzs, _, _⟩ := hs.form (Nat.le_refl 1)
  rw [el] at c2
  rw [es] at c3 hs
  exact ⟨lp, _, lc, sb, sc, c0, c1, c2, c3, hzs, hs.cell (i := 0) (by show 0 < 1 * 2; omega), hs.cell (i := 1) (by show 1 < 1 * 2; omega)⟩
theorem neqValsD (a b : Int) (X : World) : (binOp .neq 43 (.agg #[.int .i64 a, .int .i64 b]) (.agg #[.int .i64 a, .int .i64 b])).run Tryz.prog X = .ok (.bool false) X := by
  have e1 : (a == a) = true := by simp
  have e2 : (b == b) = true := by simp
  go_simp
theorem eqValsD (a b : Int) (X : World) : (binOp .eql 43 (.agg #[.int .i64 a, .int .i64 b]) (.agg #[.int .i64 a, .int .i64 b])).run Tryz.prog X = .ok (.bool true) X := by
  have e1 : (a == a) = true := by simp
  have e2 : (b == b) = true := by simp
  go_simp
theorem eqCntsD (a b c : Int) (X : World) : (binOp .eql 61 (.agg #[.int .i64 a, .int .i64 b, .int .i64 c]) (.agg #[.int .i64 a, .int .i64 b, .int .i64 c])).run Tryz.prog X = .ok (.bool true) X := by
  have e1 : (a == a) = true := by simp
  have e2 : (b == b) = true := by simp
  have e3 : (c == c) = true := by simp
  go_simp
theorem facW_step (i : Nat) : wrap64 (facW i * ((i : Int) + 1)) = facW (i + 1) := by
  rw [wrapK, Int.mul_comm]
  rfl
end Go.Proofs.YtkafkipjedpohaaGreatDoor

/-
  Package upshiftkeep: Deep, the last call.
-/
namespace Go.Proofs.YtkafkipjedpohaaGreatDoor
open Go.RowKit

/-- The code from a region on. -/
def fromR (n : Nat) : Code → Option Code
  | .seq (.region m r d) y => if m = n then some (.seq (.region m r d) y) else fromR n y
  | .seq x y => match fromR n x with
    | some c => some c
    | none => fromR n y
  | .block _ c => fromR n c
  | .scope c => fromR n c
  | .loop c => fromR n c
  | .cond _ x y => match fromR n x with
    | some c => some c
    | none => fromR n y
  | _ => none
def hdC : Code → Code
  | .seq x _ => x
  | c => c
def tlC : Code → Code
  | .seq _ y => y
  | c => c
noncomputable def deepC (n : Nat) : Code := hdC ((Tryz.f9.body.bind (fromR n)).getD .skip)
noncomputable def deepR (n : Nat) : Code := tlC ((Tryz.f9.body.bind (fromR n)).getD .skip)

set_option maxRecDepth 100000 in
set_option maxHeartbeats 4000000 in
theorem deep_24 (drop S st0 : Int) (k j b A : Nat) (w V6 : World) (p4 : Option Addr) (c4 : Nat) (K : Nat → Nat → Bool) (H : Nat → Nat → Int) (hk : k ≤ 22) (hj : j ≤ k) (HPD : Hid (∀ wx : World, Calls Tryz.prog 14 #[.int .i64 drop, .int .i64 ((k : Int) + 1)] wx fun e w' => e = .returned (.int .i64 j) ∧ w' = wx)) (HC : Hid (CdK V6 b 2 (prodF k) ∧ Fine 2 (prodF k) K H ∧ facW k = S ∧ ((10 * k + 8 : Nat) : Int) = st0 ∧ Below w.heap.size w V6 ∧ V6.heap[A]? = some (.cells #[.int .i64 1, .int .i64 st0, .int .i64 1, .int .i64 S, .slice p4 0 c4] 46 (0, 0)) ∧ ArgsIn V6 (.slice p4 0 c4) []))
    (KK : Act → World → Prop) (hK : ∀ a w', Code.wp Tryz.prog (deepR 24) (bodyPost Tryz.prog Tryz.f9 fun e w' => e = .returned (.bool true) ∧ Below w.heap.size w w') a w' → KK a w') (u0 u1 u3 u4 u5 u6 u9 u11 u12 u13 u14 u15 u16 u18 u19 u20 u21 u22 u23 u24 u25 u26 u27 u28 u29 u30 u31 u32 u33 u34 u35 u36 u37 u38 u39 u40 u41 u42 u43 u44 u45 u46 u47 u48 u49 u50 u51 u52 u53 u54 u55 u56 u57 u58 u59 u60 u61 u62 u63 u64 u65 u66 u67 u68 u69 u70 u71 u72 u73 u74 u75 u76 u77 u78 u79 u80 u81 u82 u83 u84 u85 u86 u87 u88 u89 u90 u91 u92 u93 u94 u95 u96 u97 u98 u99 u100 u101 u102 u103 u104 u105 u106 u107 u108 u109 u110 u111 u112 u113 u114 u115 u116 u117 u118 u119 u120 u121 u122 u123 u124 u125 u126 u127 u128 u129 u130 u131 u132 u133 u134 u135 u136 u137 u138 u139 u140 u141 u142 u143 u144 u145 u146 u147 u148 u149 u150 u151 u152 u153 u154 u155 u156 u157 u158 u159 u160 u161 u162 : Value) :
    Code.wp Tryz.prog (deepC 24) (Exit.then KK (bodyPost Tryz.prog Tryz.f9 fun e w' => e = .returned (.bool true) ∧ Below w.heap.size w w'))
      ⟨List.toArray (u0 :: u1 :: .int .i64 drop :: u3 :: u4 :: u5 :: u6 :: .int .i64 k :: .pointer (some ⟨b, 0, none⟩) :: u9 :: .pointer (some ⟨A, 0, none⟩) :: u11 :: u12 :: u13 :: u14 :: u15 :: u16 :: .int .i64 S :: u18 :: u19 :: u20 :: u21 :: u22 :: u23 :: u24 :: u25 :: u26 :: u27 :: u28 :: u29 :: u30 :: u31 :: u32 :: u33 :: u34 :: u35 :: u36 :: u37 :: u38 :: u39 :: u40 :: u41 :: u42 :: u43 :: u44 :: u45 :: u46 :: u47 :: u48 :: u49 :: u50 :: u51 :: u52 :: u53 :: u54 :: u55 :: u56 :: u57 :: u58 :: u59 :: u60 :: u61 :: u62 :: u63 :: u64 :: u65 :: u66 :: u67 :: u68 :: u69 :: u70 :: u71 :: u72 :: u73 :: u74 :: u75 :: u76 :: u77 :: u78 :: u79 :: u80 :: u81 :: u82 :: u83 :: u84 :: u85 :: u86 :: u87 :: u88 :: u89 :: u90 :: u91 :: u92 :: u93 :: u94 :: u95 :: u96 :: u97 :: u98 :: u99 :: u100 :: u101 :: u102 :: u103 :: u104 :: u105 :: u106 :: u107 :: u108 :: u109 :: u110 :: u111 :: u112 :: u113 :: u114 :: u115 :: u116 :: u117 :: u118 :: u119 :: u120 :: u121 :: u122 :: u123 :: u124 :: u125 :: u126 :: u127 :: u128 :: u129 :: u130 :: u131 :: u132 :: u133 :: u134 :: u135 :: u136 :: u137 :: u138 :: u139 :: u140 :: u141 :: u142 :: u143 :: u144 :: u145 :: u146 :: u147 :: u148 :: u149 :: u150 :: u151 :: u152 :: u153 :: u154 :: u155 :: u156 :: u157 :: u158 :: u159 :: u160 :: u161 :: u162 :: []), []⟩ V6 := by
  conv => arg 2; whnf
  conv at hK => enter [a, w', 1, 2]; whnf
  have bj : 0 ≤ (j : Int) ∧ (j : Int) < (k : Int) + 1 := by omega
  go_wp2_with fail
  refine (HPD.out _).mono ?_
  rintro e w' ⟨rfl, hw'⟩
  rw [hw']
  clear hw' w' HPD
  go_wp2_with fail
  obtain ⟨V7, hV7⟩ : ∃ V7, V7 = V6.alloc (.cells #[.int .i64 0, .int .i64 1, .int .i64 1, .int .i64 (3 + 8 * (j : Int)), .int .i64 2, .int .i64 1] 65) := ⟨_, rfl⟩
  rw [← hV7]
  have hB7v : Below V6.heap.size V6 V7 := by rw [hV7]; exact (Below.refl _ _).alloc (Nat.le_refl _) _
  have q2 : V7.heap[V6.heap.size]? = some (.cells #[.int .i64 0, .int .i64 1, .int .i64 1, .int .i64 (3 + 8 * (j : Int)), .int .i64 2, .int .i64 1] 65 (0, 0)) := by rw [hV7]; exact Go.Deep.blk_alloc_new _ _
  obtain ⟨hcd, hF, hS, hst0, hB6, a6, ha6⟩ := HC.out
  have HS3 := hid (prod_third hk (hcd.below hB7v) hF j hj _ q2 S st0 hS hst0)
  have H7 := hid (And.intro (hB6.trans (hB7v.mono hB6.size)) (And.intro ((hB7v.block _ (heap_lt a6)).trans a6) (ha6.below hB7v)))
  clear hcd hF hS hst0 hB6 a6 ha6 q2 hB7v hV7 HC
  go_wp2_with fail
  refine HS3.out.mono ?_
  rintro e w8 ⟨p8, c8, rfl, hB8, ha8⟩
  clear HS3
  go_upto_region 26 with fail
  obtain ⟨V9, hV9⟩ : ∃ V9, V9 = (w8.alloc (.cells #[.int .i64 1, .int .i64 st0, .int .i64 1, .int .i64 S, .slice p8 0 c8] 46)).alloc (.cells #[.int .i64 (8 * (j : Int)), .int .i64 0, .int .i64 ((j : Int) + 1)] 61) := ⟨_, rfl⟩
  rw [← hV9]
  have hVa : V9 = allocs w8 [.cells #[.int .i64 1, .int .i64 st0, .int .i64 1, .int .i64 S, .slice p8 0 c8] 46, .cells #[.int .i64 (8 * (j : Int)), .int .i64 0, .int .i64 ((j : Int) + 1)] 61] := hV9
  have hB9v : Below w8.heap.size w8 V9 := by rw [hVa]; exact allocs_below _ _
  have d9 : V9.heap[w8.heap.size]? = some (.cells #[.int .i64 1, .int .i64 st0, .int .i64 1, .int .i64 S, .slice p8 0 c8] 46 (0, 0)) := by rw [hVa]; exact allocs_at _ w8 0 _ rfl
  have n9 : V9.heap[w8.heap.size + 1]? = some (.cells #[.int .i64 (8 * (j : Int)), .int .i64 0, .int .i64 ((j : Int) + 1)] 61 (0, 0)) := by rw [hVa]; exact allocs_at _ w8 1 _ rfl
  obtain ⟨hBw7, a7, ha7⟩ := H7.out
  have hB79 : Below V7.heap.size V7 V9 := hB8.trans (hB9v.mono hB8.size)
  have a9 := (hB79.block _ (heap_lt a7)).trans a7
  have HAL := hid (alikeT V9 1 st0 (vnum S) (.slice p4 0 c4) (.slice p8 0 c8) [] (ha7.below hB79) (ha8.below hB9v) (Nat.zero_le _))
  have HN := hid (And.intro a9 (And.intro n9 (hBw7.trans (hB79.mono hBw7.size))))
  have s0 : V9.cell? ⟨A, 0, none⟩ = some (.int .i64 1) := (cell_heap a9).trans rfl
  have s1 : V9.cell? ⟨A, 1, none⟩ = some (.int .i64 st0) := (cell_heap a9).trans rfl
  have s2 : V9.cell? ⟨A, 2, none⟩ = some (.int .i64 1) := (cell_heap a9).trans rfl
  have s3 : V9.cell? ⟨A, 3, none⟩ = some (.int .i64 S) := (cell_heap a9).trans rfl
  have s4 : V9.cell? ⟨A, 4, none⟩ = some (.slice p4 0 c4) := (cell_heap a9).trans rfl
  have r0 : V9.cell? ⟨w8.heap.size, 0, none⟩ = some (.int .i64 1) := (cell_heap d9).trans rfl
  have r1 : V9.cell? ⟨w8.heap.size, 1, none⟩ = some (.int .i64 st0) := (cell_heap d9).trans rfl
  have r2 : V9.cell? ⟨w8.heap.size, 2, none⟩ = some (.int .i64 1) := (cell_heap d9).trans rfl
  have r3 : V9.cell? ⟨w8.heap.size, 3, none⟩ = some (.int .i64 S) := (cell_heap d9).trans rfl
  have r4 : V9.cell? ⟨w8.heap.size, 4, none⟩ = some (.slice p8 0 c8) := (cell_heap d9).trans rfl
  clear hV9 hVa hB9v d9 n9 hBw7 a7 ha7 hB79 a9 ha8 hB8 H7
  go_wp2_with fail
  refine HAL.out.mono ?_
  rintro e w10 ⟨rfl, hB10⟩
  obtain ⟨a9, n9, hBw9⟩ := HN.out
  have n10 := (hB10.block _ (heap_lt n9)).trans n9
  have a10 := (hB10.block _ (heap_lt a9)).trans a9
  have t0 : w10.cell? ⟨w8.heap.size + 1, 0, none⟩ = some (.int .i64 (8 * (j : Int))) := (cell_heap n10).trans rfl
  have t1 : w10.cell? ⟨w8.heap.size + 1, 1, none⟩ = some (.int .i64 0) := (cell_heap n10).trans rfl
  have t2 : w10.cell? ⟨w8.heap.size + 1, 2, none⟩ = some (.int .i64 ((j : Int) + 1)) := (cell_heap n10).trans rfl
  have y0 : w10.cell? ⟨A, 0, none⟩ = some (.int .i64 1) := (cell_heap a10).trans rfl
  have y2 : w10.cell? ⟨A, 2, none⟩ = some (.int .i64 1) := (cell_heap a10).trans rfl
  have y3 : w10.cell? ⟨A, 3, none⟩ = some (.int .i64 S) := (cell_heap a10).trans rfl
  have hec := eqCntsD (8 * (j : Int)) 0 ((j : Int) + 1)
  have hvl := eqValsD 1 S
  have HQ := hid (hBw9.trans (hB10.mono hBw9.size))
  clear a9 n9 hBw9 n10 a10 hB10 s0 s1 s2 s3 s4 r0 r1 r2 r3 r4 HAL HN
  go_wp2
  go_ret
  exact ⟨rfl, HQ.out⟩
end Go.Proofs.YtkafkipjedpohaaGreatDoor

/-
  Package upshiftkeep: Deep, what is wanted.
-/
namespace Go.Proofs.YtkafkipjedpohaaGreatDoor
open Go.RowKit

set_option maxRecDepth 100000 in
set_option maxHeartbeats 4000000 in
theorem deep_19 (drop S st0 : Int) (k j b A : Nat) (w V6 : World) (p4 : Option Addr) (c4 : Nat) (K : Nat → Nat → Bool) (H : Nat → Nat → Int) (hk : k ≤ 22) (hj : j ≤ k) (HPD : Hid (∀ wx : World, Calls Tryz.prog 14 #[.int .i64 drop, .int .i64 ((k : Int) + 1)] wx fun e w' => e = .returned (.int .i64 j) ∧ w' = wx)) (HC : Hid (CdK V6 b 2 (prodF k) ∧ Fine 2 (prodF k) K H ∧ facW k = S ∧ ((10 * k + 8 : Nat) : Int) = st0 ∧ Below w.heap.size w V6 ∧ V6.heap[A]? = some (.cells #[.int .i64 1, .int .i64 st0, .int .i64 1, .int .i64 S, .slice p4 0 c4] 46 (0, 0)) ∧ ArgsIn V6 (.slice p4 0 c4) []))
    (KK : Act → World → Prop) (hK : ∀ a w', Code.wp Tryz.prog (deepR 19) (bodyPost Tryz.prog Tryz.f9 fun e w' => e = .returned (.bool true) ∧ Below w.heap.size w w') a w' → KK a w') (u0 u1 u3 u4 u5 u6 u9 u11 u12 u13 u14 u15 u16 u17 u18 u19 u20 u21 u22 u23 u24 u25 u26 u27 u28 u29 u30 u31 u32 u33 u34 u35 u36 u37 u38 u39 u40 u41 u42 u43 u44 u45 u46 u47 u48 u49 u50 u51 u52 u53 u54 u55 u56 u57 u58 u59 u60 u61 u62 u63 u64 u65 u66 u67 u68 u69 u70 u71 u72 u73 u74 u75 u76 u77 u78 u79 u80 u81 u82 u83 u84 u85 u86 u87 u88 u89 u90 u91 u92 u93 u94 u95 u96 u97 u98 u99 u100 u101 u102 u103 u104 u105 u106 u107 u108 u109 u110 u111 u112 u113 u114 u115 u116 u117 u118 u119 u120 u121 u122 u123 u124 u125 u126 u127 u128 u129 u130 u131 u132 u133 u134 u135 u136 u137 u138 u139 u140 u141 u142 u143 u144 u145 u146 u147 u148 u149 u150 u151 u152 u153 u154 u155 u156 u157 u158 u159 u160 u161 u162 : Value) :
    Code.wp Tryz.prog (deepC 19) (Exit.then KK (bodyPost Tryz.prog Tryz.f9 fun e w' => e = .returned (.bool true) ∧ Below w.heap.size w w'))
      ⟨List.toArray (u0 :: u1 :: .int .i64 drop :: u3 :: u4 :: u5 :: u6 :: .int .i64 k :: .pointer (some ⟨b, 0, none⟩) :: u9 :: .pointer (some ⟨A, 0, none⟩) :: u11 :: u12 :: u13 :: u14 :: u15 :: u16 :: u17 :: u18 :: u19 :: u20 :: u21 :: u22 :: u23 :: u24 :: u25 :: u26 :: u27 :: u28 :: u29 :: u30 :: u31 :: u32 :: u33 :: u34 :: u35 :: u36 :: u37 :: u38 :: u39 :: u40 :: u41 :: u42 :: u43 :: u44 :: u45 :: u46 :: u47 :: u48 :: u49 :: u50 :: u51 :: u52 :: u53 :: u54 :: u55 :: u56 :: u57 :: u58 :: u59 :: u60 :: u61 :: u62 :: u63 :: u64 :: u65 :: u66 :: u67 :: u68 :: u69 :: u70 :: u71 :: u72 :: u73 :: u74 :: u75 :: u76 :: u77 :: u78 :: u79 :: u80 :: u81 :: u82 :: u83 :: u84 :: u85 :: u86 :: u87 :: u88 :: u89 :: u90 :: u91 :: u92 :: u93 :: u94 :: u95 :: u96 :: u97 :: u98 :: u99 :: u100 :: u101 :: u102 :: u103 :: u104 :: u105 :: u106 :: u107 :: u108 :: u109 :: u110 :: u111 :: u112 :: u113 :: u114 :: u115 :: u116 :: u117 :: u118 :: u119 :: u120 :: u121 :: u122 :: u123 :: u124 :: u125 :: u126 :: u127 :: u128 :: u129 :: u130 :: u131 :: u132 :: u133 :: u134 :: u135 :: u136 :: u137 :: u138 :: u139 :: u140 :: u141 :: u142 :: u143 :: u144 :: u145 :: u146 :: u147 :: u148 :: u149 :: u150 :: u151 :: u152 :: u153 :: u154 :: u155 :: u156 :: u157 :: u158 :: u159 :: u160 :: u161 :: u162 :: []), []⟩ V6 := by
  conv => arg 2; whnf
  conv at hK => enter [a, w', 1, 2]; whnf
  go_wp2_with fail
  go_loopw [17, 18] (fun v17 v18 wr => ∃ i : Nat, i ≤ k ∧ v18 = .int .i64 ((i : Int) + 1) ∧ v17 = .int .i64 (facW i) ∧ V6 = wr) (fun _ v _ => k + 1 - (intOf v).toNat)
  case atStart => exact ⟨0, Nat.zero_le k, rfl, rfl, rfl⟩
  case round =>
    obtain ⟨i, hik, rfl, rfl, rfl⟩ := hrel
    by_cases hlt : i + 1 ≤ k
    · have hd1 : decide ((i : Int) + 1 ≤ (k : Int)) = true := by simp; omega
      have HM := hid (facW_step i)
      generalize facW i = f0 at *
      go_wp2
      refine ⟨⟨i + 1, hlt, by go_num, ?_, by first | rfl | trivial⟩, ?_⟩
      · rw [HM.out]
      · simp [intOf]; omega
    · have hd1 : decide ((i : Int) + 1 ≤ (k : Int)) = false := by simp; omega
      obtain rfl : k = i := by omega
      have hS := HC.out.2.2.1
      rw [hS]
      clear hS
      go_upto_region 24 with fail
      exact deep_24 drop S st0 k j b A w V6 p4 c4 K H hk hj HPD HC _ (by assumption) _ _ _ _ _ _ _ _ _ _ _ _ _ _ _ _ _ _ _ _ _ _ _ _ _ _ _ _ _ _ _ _ _ _ _ _ _ _ _ _ _ _ _ _ _ _ _ _ _ _ _ _ _ _ _ _ _ _ _ _ _ _ _ _ _ _ _ _ _ _ _ _ _ _ _ _ _ _ _ _ _ _ _ _ _ _ _ _ _ _ _ _ _ _ _ _ _ _ _ _ _ _ _ _ _ _ _ _ _ _ _ _ _ _ _ _ _ _ _ _ _ _ _ _ _ _ _ _ _ _ _ _ _ _ _ _ _ _ _ _ _ _ _ _ _ _ _ _ _ _ _ _ _ _ _ _ _ _ 
end Go.Proofs.YtkafkipjedpohaaGreatDoor
