import Derived.Test.YtkafkipjedpohaaGreatDoorSe
import Derived.Test.YtkafkipjedpohaaGreatDoorC2
import Derived.ProofKit
import Derived.Deep.SlicePairs
import Derived.Deep.Strs
import Derived.Test.YtkafkipjedpohaaGreatDoorM29
import Derived.Test.YtkafkipjedpohaaGreatDoorK11

/-
  Package upshiftkeep: Deep, too deep.
-/
namespace Go.Proofs.YtkafkipjedpohaaGreatDoor
open Go.RowKit

/-- The 'if' on a slot. -/
def fromI (n : Nat) : Code → Option Code
  | .cond (.tmp m) x y => if m = n then some (.cond (.tmp m) x y) else match fromI n x with
    | some c => some c
    | none => fromI n y
  | .seq x y => match fromI n x with
    | some c => some c
    | none => fromI n y
  | .block _ c => fromI n c
  | .scope c => fromI n c
  | .loop c => fromI n c
  | _ => none
noncomputable def deepI (n : Nat) : Code := (Tryz.f9.body.bind (fromI n)).getD .skip

set_option maxRecDepth 100000 in
set_option maxHeartbeats 4000000 in
theorem deep_high (k A sA fb fc : Nat) (w V6 : World) (hk : 23 ≤ k) (hk2 : k ≤ 39) (s0 : V6.cell? ⟨A, 0, none⟩ = some (.int .i64 7)) (s1 : V6.cell? ⟨A, 1, none⟩ = some (.int .i64 187)) (f0 : V6.cell? ⟨sA, 0, none⟩ = some (.slice (some ⟨fb, 0, none⟩) 24 fc)) (hfb : fb < V6.heap.size) (HB : Hid (Below w.heap.size w V6))
    (HCL : Hid (∀ i, 1 ≤ i → i ≤ 22 → ∃ lp ln lc sb sc, V6.cell? ⟨fb, i * 4, none⟩ = some (.int .i64 1) ∧ V6.cell? ⟨fb, i * 4 + 1, none⟩ = some (.int .i64 8) ∧ V6.cell? ⟨fb, i * 4 + 2, none⟩ = some (.slice lp ln lc) ∧ V6.cell? ⟨fb, i * 4 + 3, none⟩ = some (.slice (some ⟨sb, 0, none⟩) 1 sc) ∧ sb < V6.heap.size ∧ V6.cell? ⟨sb, 0, none⟩ = some (.int .i64 1) ∧ V6.cell? ⟨sb, 1, none⟩ = some (.int .i64 ((k : Int) + 1 - i))))
    (KK : Act → World → Prop) (u0 u1 u2 u3 u4 u5 u6 u8 u9 u11 u12 u14 u15 u16 u17 u18 u19 u20 u21 u22 u23 u24 u25 u26 u27 u28 u29 u30 u31 u32 u33 u34 u35 u36 u37 u38 u39 u40 u41 u42 u43 u44 u45 u46 u47 u48 u49 u50 u51 u52 u53 u54 u55 u57 u58 u59 u60 u61 u62 u63 u64 u65 u66 u67 u68 u69 u70 u71 u72 u73 u74 u75 u76 u77 u78 u79 u80 u81 u82 u83 u84 u85 u86 u87 u88 u89 u90 u91 u92 u93 u94 u95 u96 u97 u98 u99 u100 u101 u102 u103 u104 u105 u106 u107 u108 u109 u110 u111 u112 u113 u114 u115 u116 u117 u118 u119 u120 u121 u122 u123 u124 u125 u126 u127 u128 u129 u130 u131 u132 u133 u134 u135 u136 u137 u138 u139 u140 u141 u142 u143 u144 u145 u146 u147 u148 u149 u150 u151 u152 u153 u154 u155 u156 u157 u158 u159 u160 u161 u162 : Value) :
    Code.wp Tryz.prog (deepI 56) (Exit.then KK (bodyPost Tryz.prog Tryz.f9 fun e w' => e = .returned (.bool true) ∧ Below w.heap.size w w'))
      ⟨List.toArray (u0 :: u1 :: u2 :: u3 :: u4 :: u5 :: u6 :: .int .i64 k :: u8 :: u9 :: .pointer (some ⟨A, 0, none⟩) :: u11 :: u12 :: .pointer (some ⟨sA, 0, none⟩) :: u14 :: u15 :: u16 :: u17 :: u18 :: u19 :: u20 :: u21 :: u22 :: u23 :: u24 :: u25 :: u26 :: u27 :: u28 :: u29 :: u30 :: u31 :: u32 :: u33 :: u34 :: u35 :: u36 :: u37 :: u38 :: u39 :: u40 :: u41 :: u42 :: u43 :: u44 :: u45 :: u46 :: u47 :: u48 :: u49 :: u50 :: u51 :: u52 :: u53 :: u54 :: u55 :: .bool true :: u57 :: u58 :: u59 :: u60 :: u61 :: u62 :: u63 :: u64 :: u65 :: u66 :: u67 :: u68 :: u69 :: u70 :: u71 :: u72 :: u73 :: u74 :: u75 :: u76 :: u77 :: u78 :: u79 :: u80 :: u81 :: u82 :: u83 :: u84 :: u85 :: u86 :: u87 :: u88 :: u89 :: u90 :: u91 :: u92 :: u93 :: u94 :: u95 :: u96 :: u97 :: u98 :: u99 :: u100 :: u101 :: u102 :: u103 :: u104 :: u105 :: u106 :: u107 :: u108 :: u109 :: u110 :: u111 :: u112 :: u113 :: u114 :: u115 :: u116 :: u117 :: u118 :: u119 :: u120 :: u121 :: u122 :: u123 :: u124 :: u125 :: u126 :: u127 :: u128 :: u129 :: u130 :: u131 :: u132 :: u133 :: u134 :: u135 :: u136 :: u137 :: u138 :: u139 :: u140 :: u141 :: u142 :: u143 :: u144 :: u145 :: u146 :: u147 :: u148 :: u149 :: u150 :: u151 :: u152 :: u153 :: u154 :: u155 :: u156 :: u157 :: u158 :: u159 :: u160 :: u161 :: u162 :: []), []⟩ V6 := by
  conv => arg 2; whnf
  go_wp2_with fail
  have zs : sA < V6.heap.size := World.block_lt_of_cell? V6 _ f0
  have HF0 := hid f0
  clear s0 s1 f0
  go_loopw [15] (fun v15 wr => ∃ i : Nat, 1 ≤ i ∧ i ≤ 23 ∧ v15 = .int .i64 i ∧ Below V6.heap.size V6 wr) (fun v _ => 23 - (intOf v).toNat)
  case atStart => exact ⟨1, Nat.le_refl _, by omega, rfl, Below.refl _ _⟩
  case round =>
    obtain ⟨i, hi1, hi2, rfl, hBr⟩ := hrel
    have f0 : wr.cell? ⟨sA, 0, none⟩ = some (.slice (some ⟨fb, 0, none⟩) 24 fc) := (hBr.cell (p := ⟨sA, 0, none⟩) zs).trans HF0.out
    have HBR := hid hBr
    by_cases hlt : i ≤ 22
    · obtain ⟨lp, ln, lc, sb, sc, c0, c1, c2, c3, hsb, y0, y1⟩ := HCL.out i hi1 hlt
      have d0 : wr.cell? ⟨fb, i * 4, none⟩ = some (.int .i64 1) := (hBr.cell (p := ⟨fb, i * 4, none⟩) hfb).trans c0
      have d1 : wr.cell? ⟨fb, i * 4 + 1, none⟩ = some (.int .i64 8) := (hBr.cell (p := ⟨fb, i * 4 + 1, none⟩) hfb).trans c1
      have d2 : wr.cell? ⟨fb, i * 4 + 2, none⟩ = some (.slice lp ln lc) := (hBr.cell (p := ⟨fb, i * 4 + 2, none⟩) hfb).trans c2
      have d3 : wr.cell? ⟨fb, i * 4 + 3, none⟩ = some (.slice (some ⟨sb, 0, none⟩) 1 sc) := (hBr.cell (p := ⟨fb, i * 4 + 3, none⟩) hfb).trans c3
      have z0 : wr.cell? ⟨sb, 0, none⟩ = some (.int .i64 1) := (hBr.cell (p := ⟨sb, 0, none⟩) hsb).trans y0
      have z1 : wr.cell? ⟨sb, 1, none⟩ = some (.int .i64 ((k : Int) + 1 - i)) := (hBr.cell (p := ⟨sb, 1, none⟩) hsb).trans y1
      have HZ := hid (And.intro z0 z1)
      have hd1 : decide ((i : Int) + 1 < 24) = true := by simp; omega
      clear hBr c0 c1 c2 c3 y0 y1 z0 z1
      go_upto_region 16 with fail
      obtain ⟨W1, hW1⟩ : ∃ W1, W1 = wr.alloc (.cells #[.int .i64 1, .int .i64 8, .slice lp ln lc, .slice (some ⟨sb, 0, none⟩) 1 sc] 73) := ⟨_, rfl⟩
      rw [← hW1]
      have hBW : Below wr.heap.size wr W1 := by rw [hW1]; exact (Below.refl _ _).alloc (Nat.le_refl _) _
      have qx : W1.heap[wr.heap.size]? = some (.cells #[.int .i64 1, .int .i64 8, .slice lp ln lc, .slice (some ⟨sb, 0, none⟩) 1 sc] 73 (0, 0)) := by rw [hW1]; exact Go.Deep.blk_alloc_new _ _
      have x0 : W1.cell? ⟨wr.heap.size, 0, none⟩ = some (.int .i64 1) := (cell_heap qx).trans rfl
      have x1 : W1.cell? ⟨wr.heap.size, 1, none⟩ = some (.int .i64 8) := (cell_heap qx).trans rfl
      have x3 : W1.cell? ⟨wr.heap.size, 3, none⟩ = some (.slice (some ⟨sb, 0, none⟩) 1 sc) := (cell_heap qx).trans rfl
      have zsb := World.block_lt_of_cell? wr _ HZ.out.1
      have z0 : W1.cell? ⟨sb, 0, none⟩ = some (.int .i64 1) := (hBW.cell (p := ⟨sb, 0, none⟩) zsb).trans HZ.out.1
      have z1 : W1.cell? ⟨sb, 1, none⟩ = some (.int .i64 ((k : Int) + 1 - i)) := (hBW.cell (p := ⟨sb, 1, none⟩) zsb).trans HZ.out.2
      have HB1 := hid (HBR.out.trans (hBW.mono HBR.out.size))
      have hnv := neqValsD 1 ((k : Int) + 1 - i)
      have e1 : wrap64 ((k : Int) + 1) = (k : Int) + 1 := by unfold wrap64; omega
      have e2 : wrap64 ((k : Int) + 1 - i) = (k : Int) + 1 - i := by unfold wrap64; omega
      clear hW1 hBW qx zsb HZ d0 d1 d2 d3 f0 hd1 HBR
      go_wp2
      exact ⟨⟨i + 1, by omega, by omega, by go_num, HB1.out⟩, by simp [intOf]; omega⟩
    · obtain rfl : i = 23 := by omega
      clear hBr
      go_wp2
      go_ret
      exact ⟨rfl, HB.out.trans (HBR.out.mono HB.out.size)⟩
end Go.Proofs.YtkafkipjedpohaaGreatDoor

/-
  Package upshiftkeep: Deep, how it stands.
-/
namespace Go.Proofs.YtkafkipjedpohaaGreatDoor
open Go.RowKit

set_option maxRecDepth 100000 in
set_option maxHeartbeats 4000000 in
theorem deep_6 (drop en : Int) (k j b A st : Nat) (g : V) (w V4 : World) (p4 : Option Addr) (c4 : Nat) (K : Nat → Nat → Bool) (H : Nat → Nat → Int) (ev : Value) (E0 : List Ev) (hk : k ≤ 39) (hj : j ≤ k) (HPD : Hid (∀ wx : World, Calls Tryz.prog 14 #[.int .i64 drop, .int .i64 ((k : Int) + 1)] wx fun e w' => e = .returned (.int .i64 j) ∧ w' = wx))
    (HEv : Hid (∀ X : World, Below w.heap.size w X → Calls Tryz.prog 25 #[ev, .int .i64 2] X fun e w' => ∃ v, e = .returned v ∧ Below X.heap.size X w' ∧ EvV w' w'.heap.size v (keepEvs 2 E0)))
    (HC : Hid (CdK V4 b 2 (prodF k) ∧ Fine 2 (prodF k) K H ∧ ProdIs k (atP (prodF k) 100000) en st g ∧ eventsP 2 (keepEvs 2 E0) = 0 ∧ Below w.heap.size w V4 ∧ V4.heap[A]? = some (.cells #[.int .i64 en, .int .i64 st, .int .i64 g.k, .int .i64 g.n, .slice p4 0 c4] 46 (0, 0)) ∧ ArgsIn V4 (.slice p4 0 c4) []))
    (KK : Act → World → Prop) (hK : ∀ a w', Code.wp Tryz.prog (deepR 6) (bodyPost Tryz.prog Tryz.f9 fun e w' => e = .returned (.bool true) ∧ Below w.heap.size w w') a w' → KK a w') (u0 u3 u4 u5 u6 u9 u11 u13 u14 u15 u16 u17 u18 u19 u20 u21 u22 u23 u24 u25 u26 u27 u28 u29 u30 u31 u32 u33 u34 u35 u36 u37 u38 u39 u40 u41 u42 u43 u44 u45 u46 u47 u48 u49 u50 u51 u52 u53 u54 u55 u56 u57 u58 u59 u60 u61 u62 u63 u64 u65 u66 u67 u68 u69 u70 u71 u72 u73 u74 u75 u76 u77 u78 u79 u80 u81 u82 u83 u84 u85 u86 u87 u88 u89 u90 u91 u92 u93 u94 u95 u96 u97 u98 u99 u100 u101 u102 u103 u104 u105 u106 u107 u108 u109 u110 u111 u112 u113 u114 u115 u116 u117 u118 u119 u120 u121 u122 u123 u124 u125 u126 u127 u128 u129 u130 u131 u132 u133 u134 u135 u136 u137 u138 u139 u140 u141 u142 u143 u144 u145 u146 u147 u148 u149 u150 u151 u152 u153 u154 u155 u156 u157 u158 u159 u160 u161 u162 : Value) :
    Code.wp Tryz.prog (deepC 6) (Exit.then KK (bodyPost Tryz.prog Tryz.f9 fun e w' => e = .returned (.bool true) ∧ Below w.heap.size w w'))
      ⟨List.toArray (u0 :: ev :: .int .i64 drop :: u3 :: u4 :: u5 :: u6 :: .int .i64 k :: .pointer (some ⟨b, 0, none⟩) :: u9 :: .pointer (some ⟨A, 0, none⟩) :: u11 :: .int .i64 0 :: u13 :: u14 :: u15 :: u16 :: u17 :: u18 :: u19 :: u20 :: u21 :: u22 :: u23 :: u24 :: u25 :: u26 :: u27 :: u28 :: u29 :: u30 :: u31 :: u32 :: u33 :: u34 :: u35 :: u36 :: u37 :: u38 :: u39 :: u40 :: u41 :: u42 :: u43 :: u44 :: u45 :: u46 :: u47 :: u48 :: u49 :: u50 :: u51 :: u52 :: u53 :: u54 :: u55 :: u56 :: u57 :: u58 :: u59 :: u60 :: u61 :: u62 :: u63 :: u64 :: u65 :: u66 :: u67 :: u68 :: u69 :: u70 :: u71 :: u72 :: u73 :: u74 :: u75 :: u76 :: u77 :: u78 :: u79 :: u80 :: u81 :: u82 :: u83 :: u84 :: u85 :: u86 :: u87 :: u88 :: u89 :: u90 :: u91 :: u92 :: u93 :: u94 :: u95 :: u96 :: u97 :: u98 :: u99 :: u100 :: u101 :: u102 :: u103 :: u104 :: u105 :: u106 :: u107 :: u108 :: u109 :: u110 :: u111 :: u112 :: u113 :: u114 :: u115 :: u116 :: u117 :: u118 :: u119 :: u120 :: u121 :: u122 :: u123 :: u124 :: u125 :: u126 :: u127 :: u128 :: u129 :: u130 :: u131 :: u132 :: u133 :: u134 :: u135 :: u136 :: u137 :: u138 :: u139 :: u140 :: u141 :: u142 :: u143 :: u144 :: u145 :: u146 :: u147 :: u148 :: u149 :: u150 :: u151 :: u152 :: u153 :: u154 :: u155 :: u156 :: u157 :: u158 :: u159 :: u160 :: u161 :: u162 :: []), []⟩ V4 := by
  conv => arg 2; whnf
  conv at hK => enter [a, w', 1, 2]; whnf
  go_wp2_with fail
  refine (HEv.out V4 HC.out.2.2.2.2.1).mono ?_
  rintro e w5 ⟨v5, rfl, hB5, hE5⟩
  obtain ⟨hcd, hF, hs, hok, hB4, a4, ha4⟩ := HC.out
  have hst := (hcd.below hB5).stop hF 100000 hE5 hok
  obtain ⟨ep5, ec5, rfl, _⟩ := hE5
  have H5 := hid (And.intro (hcd.below hB5) (And.intro (hB4.trans (hB5.mono hB4.size)) (And.intro ((hB5.block _ (heap_lt a4)).trans a4) (ha4.below hB5))))
  have HF := hid hF
  generalize atP (prodF k) 100000 = s at *
  have HPI := hid hs
  generalize hnf : s.fr.length = nf at *
  have HNF := hid hnf
  generalize s.arr.length = na at *
  generalize (keepEvs 2 E0).length = n5 at *
  have HSX := hid hst
  clear hnf hst hcd hF hs hok hB4 a4 ha4 hB5 HC HEv
  go_wp2_with fail
  refine HSX.out.mono ?_
  rintro e w6 ⟨fp, fc, ap, ac, LV, SV, tg, rfl, hB6, hf6⟩
  clear HSX
  obtain ⟨V6, hV6⟩ : ∃ V6, V6 = w6.alloc (.cells #[.slice fp nf fc, .slice ap na ac] 53) := ⟨_, rfl⟩
  have hB6v : Below w6.heap.size w6 V6 := by rw [hV6]; exact (Below.refl _ _).alloc (Nat.le_refl _) _
  have sb6 : V6.heap[w6.heap.size]? = some (.cells #[.slice fp nf fc, .slice ap na ac] 53 (0, 0)) := by rw [hV6]; exact Go.Deep.blk_alloc_new _ _
  obtain ⟨hcd5, hB5, a5, ha5⟩ := H5.out
  have hB56 : Below w5.heap.size w5 V6 := hB6.trans (hB6v.mono hB6.size)
  have H6 := hid (And.intro (hcd5.below hB56) (And.intro (hB5.trans (hB56.mono hB5.size)) (And.intro ((hB56.block _ (heap_lt a5)).trans a5) (ha5.below hB56))))
  have HFR := hid (And.intro sb6 (hf6.keep (Ch.of_below (p := fun _ => False) hB6v) (fun h => h) (fun _ _ => ⟨fun h => h, fun h => h⟩)))
  have HV6 := hid hV6
  clear hV6 hB6v sb6 hcd5 hB5 a5 ha5 hB56 hf6 hB6 H5
  unfold ProdIs at HPI
  have e1 : wrap64 ((k : Int) + 2) = (k : Int) + 2 := by unfold wrap64; omega
  rcases HPI.out.2.2.2.2 with ⟨hk22, rfl, rfl, rfl⟩ | ⟨hk23, rfl, rfl, hfr⟩
  · have hd : decide (24 < (k : Int) + 2) = false := by simp; omega
    clear HPI HNF HFR
    go_upto_region 19 with fail
    rw [← HV6.out]
    obtain ⟨hcd, hBw, a6, ha6⟩ := H6.out
    exact deep_19 drop (facW k) _ k j b A w V6 p4 c4 K H hk22 hj HPD (hid ⟨hcd, HF.out, rfl, rfl, hBw, a6, ha6⟩) _ (by assumption) _ _ _ _ _ _ _ _ _ _ _ _ _ _ _ _ _ _ _ _ _ _ _ _ _ _ _ _ _ _ _ _ _ _ _ _ _ _ _ _ _ _ _ _ _ _ _ _ _ _ _ _ _ _ _ _ _ _ _ _ _ _ _ _ _ _ _ _ _ _ _ _ _ _ _ _ _ _ _ _ _ _ _ _ _ _ _ _ _ _ _ _ _ _ _ _ _ _ _ _ _ _ _ _ _ _ _ _ _ _ _ _ _ _ _ _ _ _ _ _ _ _ _ _ _ _ _ _ _ _ _ _ _ _ _ _ _ _ _ _ _ _ _ _ _ _ _ _ _ _ _ _ _ _ _ _ _ _ _ 
  · have hd : decide (24 < (k : Int) + 2) = true := by simp; omega
    have hnf : nf = 24 := by rw [← HNF.out, hfr]; exact prodT_len k
    subst hnf
    have HFE := hid hfr
    clear HPI HNF hfr HPD HF
    go_upto_if 56 with fail
    rw [← HV6.out]
    obtain ⟨sb6, hf⟩ := HFR.out
    rw [HFE.out] at hf
    obtain ⟨fb, rfl, hfb, hcl⟩ := prod_cells hf
    obtain ⟨_, hBw, a6, _⟩ := H6.out
    exact deep_high k A w6.heap.size fb fc w V6 hk23 hk ((cell_heap a6).trans rfl) ((cell_heap a6).trans rfl) ((cell_heap sb6).trans rfl) hfb (hid hBw) (hid hcl) _ _ _ _ _ _ _ _ _ _ _ _ _ _ _ _ _ _ _ _ _ _ _ _ _ _ _ _ _ _ _ _ _ _ _ _ _ _ _ _ _ _ _ _ _ _ _ _ _ _ _ _ _ _ _ _ _ _ _ _ _ _ _ _ _ _ _ _ _ _ _ _ _ _ _ _ _ _ _ _ _ _ _ _ _ _ _ _ _ _ _ _ _ _ _ _ _ _ _ _ _ _ _ _ _ _ _ _ _ _ _ _ _ _ _ _ _ _ _ _ _ _ _ _ _ _ _ _ _ _ _ _ _ _ _ _ _ _ _ _ _ _ _ _ _ _ _ _ _ _ _ _ _ _ _ _ _ _ _ _ 
end Go.Proofs.YtkafkipjedpohaaGreatDoor

/-
  Package upshiftkeep: Deep.
-/
namespace Go.Proofs.YtkafkipjedpohaaGreatDoor
open Go.RowKit

set_option maxRecDepth 100000 in
set_option maxHeartbeats 4000000 in
theorem deep_any (n drop : Int) (ev : Value) (E0 : List Ev) (w : World) (hev : EvV w w.heap.size ev E0) (hraw : RawOk E0) (hel : E0.length ≤ 140737488355328) (hni : I64 n) (hdi : I64 drop) (ht : TabAt w) (hw0 : 0 < w.heap.size) :
    Calls Tryz.prog 9 #[.int .i64 n, ev, .int .i64 drop] w fun e w' => e = .returned (.bool true) ∧ Below w.heap.size w w' := by
  have bk := pickP_bd n (n := 40) (by omega)
  have HK := hid (fun wx => keepPick_any n 40 wx hni (by omega))
  obtain ⟨k, hk⟩ : ∃ k : Nat, pickP n 40 = k := ⟨(pickP n 40).toNat, by omega⟩
  rw [hk] at HK bk
  have hk39 : k ≤ 39 := by omega
  have bj := pickP_bd drop (n := (k : Int) + 1) (by omega)
  have HPD := hid (fun wx => keepPick_any drop ((k : Int) + 1) wx hdi (by omega))
  obtain ⟨j, hj⟩ : ∃ j : Nat, pickP drop ((k : Int) + 1) = j := ⟨(pickP drop ((k : Int) + 1)).toNat, by omega⟩
  rw [hj] at HPD bj
  have HJ := hid (And.intro (show j ≤ k by omega) bj)
  clear hj bj
  have HS := hid (keepProd k w)
  obtain ⟨K, H, hF⟩ := prog_fine (prod_prog k)
  obtain ⟨en, st, g, hs⟩ := prod_is k hk39 hF
  have HEv := hid (fun (X : World) (hX : Below w.heap.size w X) => keepEvents E0 ev 2 (by omega) X ((hev.below hX).mono hX.size) hraw hel)
  obtain ⟨ep, ecc, rfl, _⟩ := hev
  have HT := hid (And.intro ht (And.intro hF (And.intro hdi (And.intro hs (keepEvs_ok 2 (by omega) E0)))))
  clear ht hF hraw hel hni hdi hk hs
  generalize E0.length = el at *
  go_enter Tryz.func9, Tryz.ntmps9
  go_wp2_with fail
  refine (HK.out _).mono ?_
  rintro e w' ⟨rfl, hw'⟩
  rw [hw']
  clear hw' w' HK
  go_wp2_with fail
  refine HS.out.mono ?_
  rintro e w1 ⟨pb, rfl, hB1, CA, CC, hP1⟩
  have HC := hid (keepCode w1 pb 0 2 2 (prodF k) CA CC hP1 (HT.out.1.below hB1 hw0) (prod_prog k))
  have HB1 := hid hB1
  clear hP1 hB1 HS
  go_wp2_with fail
  refine HC.out.mono ?_
  rintro e w2 ⟨v2, wx, rfl, hBx, hB2x, hcode⟩
  obtain ⟨b, rfl, hcd⟩ := CdK.of hcode
  have hBw2 : Below w.heap.size w w2 := (HB1.out.trans (hBx.mono HB1.out.size)).trans (hB2x.mono (by have := HB1.out.size; have := hBx.size; omega))
  have HCD := hid (And.intro hcd hBw2)
  clear hcode hcd hBw2 hBx hB2x HC HB1
  go_wp2_with fail
  refine (HEv.out w2 HCD.out.2).mono ?_
  rintro e w3 ⟨v3, rfl, hB3, hE3⟩
  have HS1 := hid (prod_shift (HCD.out.1.below hB3) HT.out.2.1 HT.out.2.2.2.1 hE3 HT.out.2.2.2.2)
  have H3 := hid hB3
  generalize (atE (prodF k) (keepEvs 2 E0) 100000).cH = x0 at *
  generalize (atE (prodF k) (keepEvs 2 E0) 100000).cU = x1 at *
  generalize (atE (prodF k) (keepEvs 2 E0) 100000).cD = x2 at *
  obtain ⟨ep3, ec3, rfl, _⟩ := hE3
  clear hB3
  generalize (keepEvs 2 E0).length = n3 at *
  go_wp2_with fail
  refine HS1.out.mono ?_
  rintro e w4 ⟨p4, c4, rfl, hB4, ha4⟩
  clear HS1
  go_upto_region 6 with fail
  obtain ⟨V4, hV4⟩ : ∃ V4, V4 = (w4.alloc (.cells #[.int .i64 en, .int .i64 st, .int .i64 g.k, .int .i64 g.n, .slice p4 0 c4] 46)).alloc (.cells #[.int .i64 x0, .int .i64 x1, .int .i64 x2] 61) := ⟨_, rfl⟩
  rw [← hV4]
  have hVa : V4 = allocs w4 [.cells #[.int .i64 en, .int .i64 st, .int .i64 g.k, .int .i64 g.n, .slice p4 0 c4] 46, .cells #[.int .i64 x0, .int .i64 x1, .int .i64 x2] 61] := hV4
  have hB4v : Below w4.heap.size w4 V4 := by rw [hVa]; exact allocs_below _ _
  have q0 : V4.heap[w4.heap.size]? = some (.cells #[.int .i64 en, .int .i64 st, .int .i64 g.k, .int .i64 g.n, .slice p4 0 c4] 46 (0, 0)) := by rw [hVa]; exact allocs_at _ w4 0 _ rfl
  have hB24 : Below w2.heap.size w2 V4 := (H3.out.trans (hB4.mono H3.out.size)).trans (hB4v.mono (by have := H3.out.size; have := hB4.size; omega))
  have H4 := hid (And.intro hB24 (And.intro q0 (ha4.below hB4v)))
  clear hB24 q0 ha4 hB4v hVa hV4 hB4 H3
  exact deep_6 drop en k j b w4.heap.size st g w V4 p4 c4 K H _ E0 hk39 HJ.out.1 HPD HEv (hid ⟨HCD.out.1.below H4.out.1, HT.out.2.1, HT.out.2.2.2.1, HT.out.2.2.2.2, HCD.out.2.trans (H4.out.1.mono HCD.out.2.size), H4.out.2.1, H4.out.2.2⟩) _ (by assumption) _ _ _ _ _ _ _ _ _ _ _ _ _ _ _ _ _ _ _ _ _ _ _ _ _ _ _ _ _ _ _ _ _ _ _ _ _ _ _ _ _ _ _ _ _ _ _ _ _ _ _ _ _ _ _ _ _ _ _ _ _ _ _ _ _ _ _ _ _ _ _ _ _ _ _ _ _ _ _ _ _ _ _ _ _ _ _ _ _ _ _ _ _ _ _ _ _ _ _ _ _ _ _ _ _ _ _ _ _ _ _ _ _ _ _ _ _ _ _ _ _ _ _ _ _ _ _ _ _ _ _ _ _ _ _ _ _ _ _ _ _ _ _ _ _ _ _ _ _ _ _ _ _ _ _ _ _ 
end Go.Proofs.YtkafkipjedpohaaGreatDoor

/-
  upshiftlaw.lent: the walk.
-/
namespace Go.Proofs.YtkafkipjedpohaaGreatDoor
open Go.RowKit

/-- An argument that is a program: of whatever length, nil too. -/
def Given (w : World) (p : Option Addr) (m : Nat) (F : Nat → PF) (CA : Nat → Option Addr) (CC : Nat → Nat) : Prop :=
  1 ≤ m → ∃ pb po, p = some ⟨pb, po, none⟩ ∧ ProgAt w pb po m F CA CC

end Go.Proofs.YtkafkipjedpohaaGreatDoor

/-
  The argument opened: a program that is handed in, as it lies in memory.
-/
namespace Go.Proofs.YtkafkipjedpohaaGreatDoor
open Go.RowKit Go.Deep Go.ChangeShapes

theorem cell_there {w : World} {a : Addr} {v : Value} (h : w.cell? a = some v) : a.block < w.heap.size ∧ a.spot = none := by
  unfold World.cell? at h
  cases hb : w.heap[a.block]? with
  | none => rw [hb] at h; cases h
  | some o =>
    obtain ⟨hl, _⟩ := Array.getElem?_eq_some_iff.1 hb
    rw [hb] at h
    cases o with
    | cells c e f =>
      refine ⟨hl, ?_⟩
      cases hs : a.spot with
      | none => rfl
      | some s => simp [hs] at h
    | _ => cases h

theorem addr_plain {a : Addr} (h : a.spot = none) : a = ⟨a.block, a.off, none⟩ := by
  cases a with
  | mk b o s => simp only at h; subst h; rfl

theorem Tryz.cells3 : Tryz.prog.cellsOf 3 = 1 := by kernel_rfl
section
variable {H : Type} {enc : TypeId × Value → H} {w : World}

end
end Go.Proofs.YtkafkipjedpohaaGreatDoor

/-
  The argument opened: lines that are handed in, as they lie in memory.
-/
namespace Go.Proofs.YtkafkipjedpohaaGreatDoor
open Go.RowKit Go.Deep Go.ChangeShapes

theorem wf_i64 {n : Int} (h : (Lit.int .i64 n).wf = true) : I64 n := by
  unfold Lit.wf at h
  simp only [Bool.and_eq_true, decide_eq_true_eq] at h
  have h1 : IntKind.i64.min ≤ n := h.1
  have h2 : n ≤ IntKind.i64.max := h.2
  exact ⟨by have e : IntKind.i64.min = -9223372036854775808 := by decide
            omega, by have e : IntKind.i64.max = 9223372036854775807 := by decide
                      omega⟩

section
variable {H : Type} {enc : TypeId × Value → H} {w : World}

end
end Go.Proofs.YtkafkipjedpohaaGreatDoor

/-
  The argument opened: events that are handed in, as they lie in memory.
-/
namespace Go.Proofs.YtkafkipjedpohaaGreatDoor
open Go.RowKit Go.Deep Go.ChangeShapes

theorem Tryz.cells65 : Tryz.prog.cellsOf 65 = 3 := by kernel_rfl
theorem Tryz.bytes65 : Tryz.prog.bytesOf 65 = 24 := by kernel_rfl

section
variable {H : Type} {enc : TypeId × Value → H} {w : World}

set_option maxRecDepth 100000 in
/-- Events. -/
theorem open_evs {fuel : Nat} {v : Value} {x : DataW H × List MemPlace} (h : DataW.trod enc Tryz.prog w 0 (fun _ => true) true fuel 57 [v] = some x) (hw : ∀ y ∈ x.1.weights Tryz.prog 57, y ≤ reachBytes) :
    ∃ E : List Ev, EvV w w.heap.size v E ∧ RawOk E ∧ 24 * E.length ≤ reachBytes := by
  rcases open_slice Tryz.underlying57 h with ⟨e, rfl⟩ | ⟨a, len, cap, m, n, D, Pl, e, _, hl, _, hm, rfl, hx⟩
  · injection e with e
    exact ⟨[], ⟨none, 0, e, Nat.le_refl _, fun h => absurd rfl h⟩, fun i hi => absurd hi (by simp), by simp⟩
  · injection e with e
    simp only [if_true] at hm
    subst hm
    have hw1 : 24 * len ≤ reachBytes := by
      have := hw ((len + (m - len)) * 24) (by
        simp only [DataW.weights, Tryz.underlying57, List.length_map, List.length_range, Tryz.bytes65]
        exact List.mem_cons_self)
      omega
    have each : ∀ i, i < len → ∃ q : Int × Int × Int, w.cell? (a.add (i * 3)) = some (.int .i64 q.1) ∧ w.cell? (a.add (i * 3 + 1)) = some (.int .i64 q.2.1) ∧ w.cell? (a.add (i * 3 + 2)) = some (.int .i64 q.2.2) ∧ I64 q.1 ∧ I64 q.2.1 ∧ I64 q.2.2 := by
      intro i hi
      obtain ⟨cs', h1, h2⟩ := hx i (by omega)
      rw [Tryz.cells65] at h1
      obtain ⟨_, hlen, hcell⟩ := World.cells?_some h1
      obtain ⟨y0, y1, y2, n', _, _, g0, g1, g2⟩ := trod_struct3 Tryz.underlying65 h2
      match cs', hlen with
      | [v0, v1, v2], _ =>
        simp only [Tryz.cells3] at g0 g1 g2
        simp at g0 g1 g2
        obtain ⟨z0, e0, _, w0⟩ := DataW.trod_int Tryz.underlying3 g0
        obtain ⟨z1, e1, _, w1⟩ := DataW.trod_int Tryz.underlying3 g1
        obtain ⟨z2, e2, _, w2⟩ := DataW.trod_int Tryz.underlying3 g2
        simp at e0 e1 e2
        have k0 := hcell 0 (by omega)
        have k1 := hcell 1 (by omega)
        have k2 := hcell 2 (by omega)
        rw [add_add] at k0 k1 k2
        exact ⟨(z0, z1, z2), by simpa [e0] using k0, by simpa [e1] using k1, by simpa [e2] using k2, wf_i64 w0, wf_i64 w1, wf_i64 w2⟩
    have inh : Inhabited (Int × Int × Int) := ⟨(0, 0, 0)⟩
    obtain ⟨q, hq⟩ := choose_lt (α := Int × Int × Int) each
    have hgd : ∀ i, i < len → ((List.range len).map fun i => (⟨(q i).1, (q i).2.1, (q i).2.2⟩ : Ev)).getD i ⟨0, 0, 0⟩ = ⟨(q i).1, (q i).2.1, (q i).2.2⟩ := fun i hi => by simp [hi]
    refine ⟨(List.range len).map fun i => ⟨(q i).1, (q i).2.1, (q i).2.2⟩, ⟨some a, m, by simpa using e, by simpa using hl, fun hne => ?_⟩, fun i hi => ?_, by simpa using hw1⟩
    · have hlen1 : 1 ≤ len := by
        cases len with
        | zero => simp at hne
        | succ k => omega
      have h0 := (hq 0 (by omega)).1
      obtain ⟨hlt, hsp⟩ := cell_there h0
      have hsp' : a.spot = none := by simpa [Addr.add] using hsp
      have hlt' : a.block < w.heap.size := by simpa [Addr.add] using hlt
      refine ⟨a.block, a.off, by rw [← addr_plain hsp'], hlt', fun i hi => ?_⟩
      have hi' : i < len := by simpa using hi
      rw [hgd i hi']
      obtain ⟨c0, c1, c2, _⟩ := hq i hi'
      rw [addr_plain hsp', Addr.add_lit] at c0 c1 c2
      exact ⟨c0, c1, c2⟩
    · have hi' : i < len := by simpa using hi
      rw [hgd i hi']
      exact (hq i hi').2.2.2
end
end Go.Proofs.YtkafkipjedpohaaGreatDoor
