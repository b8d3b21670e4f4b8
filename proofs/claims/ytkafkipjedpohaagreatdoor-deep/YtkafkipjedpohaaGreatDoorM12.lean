import Derived.Test.YtkafkipjedpohaaGreatDoorM10

/-
  The project's machine: straight: Print.
-/
namespace Go.Proofs.YtkafkipjedpohaaGreatDoor
open Go.RowKit

set_option maxRecDepth 100000 in
set_option maxHeartbeats 1000000 in
theorem printV (w : World) (B b c : Nat) (t : TypeId) (tag : Nat → Nat) (cur : Array Value) (sv : Value) (st : List V) (v : V) (hb : w.heap[b]? = some (.cells cur t (0, 0))) (ho : cur[6]? = some sv) (hBb : B ≤ b) (hB : B ≤ w.heap.size) (hne : tag b ≠ c) (hrow : Row w B tag c 43 2 sv st.length (vcell st.reverse)) (hn : st.length ≤ 100000) :
    Calls Tryz.prog 142 #[.pointer (some ⟨b, 0, none⟩), .agg #[.int .i64 v.k, .int .i64 v.n]] w fun e w' => e = .returned (.tuple #[]) ∧
      ∃ tag' sv', Row w' B tag' c 43 2 sv' (v :: st).length (vcell (v :: st).reverse) ∧ w'.heap[b]? = some (.cells (cur.setIfInBounds 6 sv') t (0, 0)) ∧ Ch B (fun d => d = c ∨ d = tag b) tag tag' w w' := by
  have hbz := heap_lt hb
  obtain ⟨inf, hi, hz0, hz1, hz2⟩ : ∃ i, Tryz.prog.info? 43 = some i ∧ i.zero = some (.agg #[.int .i64 0, .int .i64 0]) ∧ i.size = 2 ∧ i.bytes = 16 := by
    obtain ⟨i, hi, hzz⟩ := Option.map_eq_some_iff.1 Tryz.info43
    simp only [Prod.mk.injEq] at hzz
    exact ⟨i, hi, hzz.1, hzz.2.1, hzz.2.2⟩
  have hW : Below w.heap.size w (w.alloc (.cells #[.int .i64 v.k, .int .i64 v.n] 43)) := (Below.refl _ _).alloc (Nat.le_refl _) _
  have hsz : (w.alloc (.cells #[.int .i64 v.k, .int .i64 v.n] 43)).heap.size = w.heap.size + 1 := by simp
  have hbW := (hW.block b hbz).trans hb
  have d3 : (w.alloc (.cells #[.int .i64 v.k, .int .i64 v.n] 43)).cell? ⟨b, 6, none⟩ = some sv := (cell_heap hbW).trans ho
  have y3 : (w.alloc (.cells #[.int .i64 v.k, .int .i64 v.n] 43)).frozen? ⟨b, 6, none⟩ = false := frozen_heap hbW
  have b0 : (w.alloc (.cells #[.int .i64 v.k, .int .i64 v.n] 43)).cell? ⟨w.heap.size, 0, none⟩ = some (.int .i64 v.k) := cell_new w _ _ _ _ rfl
  have b1 : (w.alloc (.cells #[.int .i64 v.k, .int .i64 v.n] 43)).cell? ⟨w.heap.size, 1, none⟩ = some (.int .i64 v.n) := cell_new w _ _ _ _ rfl
  have hch : Ch B (fun d => d = c ∨ d = tag b) tag tag w (w.alloc (.cells #[.int .i64 v.k, .int .i64 v.n] 43)) := Ch.of_below hW
  have hrW : Row (w.alloc (.cells #[.int .i64 v.k, .int .i64 v.n] 43)) B tag c 43 2 sv st.length (vcell st.reverse) := hrow.keep (Ch.of_below (p := fun _ => False) hW) (fun h => h)
  have hne1 : some b ≠ sv.ownBlock := hrow.other hne
  have hne2 : some w.heap.size ≠ sv.ownBlock := hrow.otherNew (Nat.le_refl _)
  have HC := hid (And.intro hch (And.intro hrW hbW))
  have HZ := hid hsz
  have HY := hid y3
  have D3 := hid d3
  have B0 := hid b0
  have B1 := hid b1
  have HO := hid ho
  have HN := hid hne
  clear hch hrW hbW hsz y3 hW hrow hb d3 b0 b1 ho hne
  go_enter Tryz.func142, Tryz.ntmps142
  go_wp2
  have d3 := D3.out
  have b0 := B0.out
  have b1 := B1.out
  clear D3 B0 B1
  generalize w.alloc (.cells #[.int .i64 v.k, .int .i64 v.n] 43) = W at *
  have hbs : w.heap.size < W.heap.size := by have := HZ.out; omega
  have hfs : b < W.heap.size := by omega
  go_region_law
    ((refine step_append_lies _ (by rfl) _ _ _ (by rfl) B 43 inf _ 2 16 Tryz.underlying44 hi hz0 hz1 hz2 rfl (by decide) sv st.length _ (by rfl) (by exact (HC.out.2.1.owns.drew).alloc _) ⟨W.heap.size, 0, none⟩ 1 1 [.int .i64 v.k, .int .i64 v.n] (by rfl) (by rfl) (by exact World.news_of_block (Go.Deep.blk_alloc_new W.drew _)) (by intro u hu; simp at hu; rcases hu with rfl | rfl <;> rfl) (by omega) (by unfold maxLen; omega) (by omega) (by simp; omega) (W.heap.size + 1) (by simp) ?_; intro g cap w1 hown1 hgrow hat hlt; have q0 := (grew_cell hgrow (a := ⟨b, 6, none⟩) hfs hne1).trans d3; have q1 := (grew_cell hgrow (a := ⟨w.heap.size, 0, none⟩) hbs hne2).trans b0; have q2 := (grew_cell hgrow (a := ⟨w.heap.size, 1, none⟩) hbs hne2).trans b1; have q3 := (grew_frozen hgrow (a := ⟨b, 6, none⟩) hfs hne1).trans HY.out))
  all_goals
    have hXb : Below W.heap.size W (W.alloc (.cells #[.int .i64 v.k, .int .i64 v.n] 43)).drew := ((Below.refl _ _).alloc (Nat.le_refl _) _).drew
    have hX : Ch B (fun _ => False) tag tag W (W.alloc (.cells #[.int .i64 v.k, .int .i64 v.n] 43)).drew := Ch.of_below hXb
    obtain ⟨tag', hst, hgc⟩ := (HC.out.2.1.keep hX (fun h => h)).grew hown1 hgrow (by rcases hat with h | h; exact Or.inl h; right; rw [h]; simp) rfl
    have hlx : b < (W.alloc (.cells #[.int .i64 v.k, .int .i64 v.n] 43)).drew.heap.size := by simp; omega
    have htf : tag' b = tag b := hgc.tags b hlx
    have hb1 : w1.heap[b]? = some (.cells cur t (0, 0)) := (hgc.block b hlx (Or.inr HN.out)).trans ((hXb.block b hfs).trans HC.out.2.2)
    have hb2 := heap_set (o := 6) hb1 (.slice (some ⟨g, 0, none⟩) (st.length + 1) cap)
    have hcs : Ch B (fun d => d = tag b) tag' tag' w1 (w1.setCell ⟨b, 6, none⟩ (.slice (some ⟨g, 0, none⟩) (st.length + 1) cap)) := Ch.set w1 b _ _ hBb htf
    have hst2 := (hst.keep hcs (fun h => HN.out h.symm)).congr (g := vcell (v :: st).reverse) (fun i hi => by
      rw [List.reverse_cons, ← vcell_snoc _ _ _ (by simpa using hi)]
      simp)
    have hall : Ch B (fun d => d = c ∨ d = tag b) tag tag' w (w1.setCell ⟨b, 6, none⟩ (.slice (some ⟨g, 0, none⟩) (st.length + 1) cap)) :=
      ((HC.out.1.trans (hX.mono (fun _ h => h.elim))).trans (hgc.mono (fun _ h => Or.inl h))).trans (hcs.mono (fun _ h => Or.inr h))
    have HQ := hid (And.intro hst2 (And.intro hb2 hall))
    clear hall hst2 hcs hst hgc hX hXb hown1 hgrow q0 q1 q2 q3 hb1 hb2
    go_end0
    exact ⟨rfl, tag', _, HQ.out⟩

theorem LayM.outs {w w' : World} {B mb : Nat} {A : AdM} {s : Mc} {en : Int} {tag' : Nat → Nat} {ov' : Value} {out' : List V} (h : LayM w B mb A s en) (k : Ch B (fun d => d = 3 ∨ d = 0) A.tag tag' w w')
    (hrun : w'.heap[mb]? = some (.cells (mcells { A with ov := ov' } s en) 130 (0, 0))) (hrow : Row w' B tag' 3 43 2 ov' out'.length (vcell out')) :
    LayM w' B mb { A with tag := tag', ov := ov' } { s with out := out' } en := by
  refine ⟨hrun, ⟨h.own.1, (k.tags mb (heap_lt h.run)).trans h.own.2⟩, h.fr.keep k (by omega), fun i hi => ?_, h.ar.keep k (by omega), hrow, fun i hi => (h.loc i hi).keep k (by omega), fun i hi => (h.stk i hi).keep k (by omega), fun j hj => (h.arr j hj).keep k (by omega)⟩
  obtain ⟨g1, g2, g3⟩ := h.fb i hi
  obtain ⟨g4, g5⟩ := blk_keep g1 k (by rw [g3]; omega)
  exact ⟨g4, g2, g5.trans g3⟩

theorem Cur.print {w0 w : World} {B mb : Nat} {A0 : AdM} {s : Mc} {en : Int} {l : List (Nat × Array Value × TypeId)} (h : Cur w0 B mb A0 s en l w) (v : V) (ho : s.out.length ≤ 100000) :
    Calls Tryz.prog 142 #[.pointer (some ⟨mb, 0, none⟩), .agg #[.int .i64 v.k, .int .i64 v.n]] w fun e w' => e = .returned (.tuple #[]) ∧ Cur w0 B mb A0 { s with out := s.out ++ [v] } en l w' := by
  have hle := h.le.2
  obtain ⟨hB, A, h1, h2, h3, h4⟩ := h
  have hrow := h1.out
  have e1 : s.out.reverse.length = s.out.length := by simp
  refine (printV w B mb 3 _ A.tag _ A.ov s.out.reverse v h1.run rfl h1.own.1 hle (by rw [h1.own.2]; omega) (by rw [e1, List.reverse_reverse]; exact hrow) (by omega)).mono ?_
  rintro e w' ⟨rfl, tag', sv', k1, k2, k3⟩
  have k4 : Ch B (fun d => d = 3 ∨ d = 0) A.tag tag' w w' := k3.mono (fun d hd => by rw [h1.own.2] at hd; exact hd)
  have k5 : Row w' B tag' 3 43 2 sv' (s.out ++ [v]).length (vcell (s.out ++ [v])) := by
    rw [List.reverse_cons, List.reverse_reverse, List.length_cons, e1] at k1
    rw [List.length_append]
    exact k1
  exact ⟨rfl, hB, _, h1.outs (ov' := sv') k4 k2 k5, h2, h3.trans (k4.mono (fun d hd => by unfold N5; omega)), h4.keep k4 (by omega)⟩

set_option maxRecDepth 100000 in
set_option maxHeartbeats 1000000 in
theorem str_print (w : World) (B mb : Nat) (A : AdM) (s : Mc) (en : Int) (f : Fr) (rest : List Fr) (n : Int) (v : V) (st : List V) (hst : f.stk = v :: st) (hL : LayM w B mb A s en) (hs : s.fr = f :: rest) (hB : B ≤ w.heap.size) (hn : st.length ≤ 60) (ho : s.out.length ≤ 100000) :
    Calls Tryz.prog 121 #[.pointer (some ⟨mb, 0, none⟩), .pointer (some ⟨A.FB rest.length, 0, none⟩), .agg #[.int .i64 19, .int .i64 n]] w (StrE w B mb A s en rest (execP 19 n f s.arr s.out)) := by
  have H0 := hid ((Cur.start hL hB).box #[.int .i64 19, .int .i64 n] 33)
  generalize hfb : A.FB rest.length = fb
  have HF := hid hfb
  have hx : execP 19 n f s.arr s.out = ({ f with stk := st }, s.arr, s.out ++ [v], 0) := by
    unfold execP
    simp [hst]
  rw [hx]
  clear hL hfb hx
  go_enter Tryz.func121, Tryz.ntmps121
  go_wp2_with fail
  generalize w.alloc (.cells #[.int .i64 19, .int .i64 n] 33) = W at *
  have hp := H0.out.pop hs hst (by omega)
  rw [HF.out] at hp
  refine hp.mono ?_
  rintro e w2 ⟨rfl, c2⟩
  have H2 := hid c2
  clear hp c2 H0 hst
  go_wp2_with fail
  refine (H2.out.print v ho).mono ?_
  rintro e w3 ⟨rfl, c3⟩
  have HQ := hid (StrE.ok c3.done)
  clear c3
  go_wp2
  go_end0
  exact HQ.out
end Go.Proofs.YtkafkipjedpohaaGreatDoor

/-
  The project's machine: newArray; straight: New.
-/
namespace Go.Proofs.YtkafkipjedpohaaGreatDoor
open Go.RowKit

/-- A new array stands behind the others. -/
theorem LayM.arrnew {w w' : World} {B mb : Nat} {A : AdM} {s : Mc} {en : Int} (h : LayM w B mb A s en) {tag' : Nat → Nat} (hc : Ch B (fun c => c = 0 ∨ c = 2) A.tag tag' w w') {av' nv : Value} {l : List V}
    (hrun : w'.heap[mb]? = some (.cells (mcells { A with av := av' } { s with arr := s.arr ++ [l] } en) 130 (0, 0))) (har : Row w' B tag' 2 44 1 av' (s.arr.length + 1) (upd A.AV s.arr.length nv))
    (hnew : Row w' B tag' (13 + 4 * s.arr.length) 43 2 nv l.length (vcell l)) :
    LayM w' B mb { A with tag := tag', av := av', AV := upd A.AV s.arr.length nv } { s with arr := s.arr ++ [l] } en := by
  refine ⟨hrun, ⟨h.own.1, (hc.tags mb (heap_lt h.run)).trans h.own.2⟩, h.fr.keep hc (by omega), fun i hi => ?_, ?_, h.out.keep hc (by omega), fun i hi => (h.loc i hi).keep hc (by omega), fun i hi => (h.stk i hi).keep hc (by omega), fun j hj => ?_⟩
  · obtain ⟨g1, g2, g3⟩ := h.fb i hi
    obtain ⟨g4, g5⟩ := blk_keep g1 hc (by rw [g3]; omega)
    exact ⟨g4, g2, g5.trans g3⟩
  · show Row w' B tag' 2 _ 1 av' (s.arr ++ [l]).length _
    rw [List.length_append]
    exact har
  · have hj' : j < s.arr.length + 1 := by simpa using hj
    show Row w' B tag' (13 + 4 * j) _ 2 (upd A.AV s.arr.length nv j) ((s.arr ++ [l]).getD j []).length (vcell ((s.arr ++ [l]).getD j []))
    by_cases e : j = s.arr.length
    · subst e
      have e2 : (s.arr ++ [l]).getD s.arr.length [] = l := by simp [List.getD_eq_getElem?_getD]
      rw [e2, upd_same]
      exact hnew
    · have e2 : (s.arr ++ [l]).getD j [] = s.arr.getD j [] := by rw [List.getD_eq_getElem?_getD, List.getD_eq_getElem?_getD, List.getElem?_append_left (by omega)]
      rw [e2, upd_other _ _ _ _ e]
      exact (h.arr j (by omega)).keep hc (by omega)

theorem LayM.arrgrew {w5 v5 w6 : World} {B mb : Nat} {A5 : AdM} {s : Mc} {en : Int} (h : LayM w5 B mb A5 s en) (hB5 : B ≤ w5.heap.size) {n na : Nat} (hn : n ≤ 1000) (hna : s.arr.length = na) {pa : Option Addr} {acap : Nat} (hav : A5.av = .slice pa na acap) {g cap : Nat}
    (hv5 : v5 = w5.setCell ⟨mb, 5, none⟩ (.int .i64 (cellsP s.arr + n)))
    (hown : w6.ownsRow B 44 1 (.slice (some ⟨g, 0, none⟩) (na + 1) cap) (na + 1) (List.map A5.AV (List.range (na * 1)) ++ [.slice (some ⟨v5.heap.size, 0, none⟩) n n]))
    (hgrow : ((v5.alloc (.cells (vArr n) 43)).alloc (.cells #[.slice (some ⟨v5.heap.size, 0, none⟩) n n] 44)).drew.grownBy w6 (Value.slice pa na acap).ownBlock) (hat : (Value.slice pa na acap).ownBlock = some g ∨ g = v5.heap.size + 2) :
    ∃ A7 : AdM, LayM (w6.setCell ⟨mb, 4, none⟩ (.slice (some ⟨g, 0, none⟩) (na + 1) cap)) B mb A7 { s with arr := s.arr ++ [List.replicate n vnil] } en ∧ A7.g = A5.g ∧ A7.av = .slice (some ⟨g, 0, none⟩) (na + 1) cap ∧ Ch B N5 A5.tag A7.tag w5 (w6.setCell ⟨mb, 4, none⟩ (.slice (some ⟨g, 0, none⟩) (na + 1) cap)) := by
  subst hna
  have hrb := heap_lt h.run
  have hcv : Ch B (fun c => c = 0) A5.tag A5.tag w5 v5 := by rw [hv5]; exact Ch.set w5 _ _ _ h.own.1 h.own.2
  have hrunv : v5.heap[mb]? = some (.cells ((mcells A5 s en).setIfInBounds 5 (.int .i64 (cellsP s.arr + n))) 130 (0, 0)) := by rw [hv5]; exact heap_set h.run _
  have hsv : v5.heap.size = w5.heap.size := by rw [hv5]; simp [World.setCell]
  clear hv5
  generalize hT : upd (upd A5.tag v5.heap.size (13 + 4 * s.arr.length)) (v5.heap.size + 1) 5 = T
  have hT0 : ∀ b, b < v5.heap.size → T b = A5.tag b := fun b hb => by rw [← hT, upd_other _ _ _ _ (by omega), upd_other _ _ _ _ (by omega)]
  have hT1 : T v5.heap.size = 13 + 4 * s.arr.length := by rw [← hT, upd_other _ _ _ _ (by omega), upd_same]
  have hnewrow := vArr_row (B := B) (tag := T) v5 n (by omega) (by unfold maxLen; omega) hT1
  have hbX : Below v5.heap.size v5 ((v5.alloc (.cells (vArr n) 43)).alloc (.cells #[.slice (some ⟨v5.heap.size, 0, none⟩) n n] 44)).drew := (((Below.refl _ _).alloc (Nat.le_refl _) _).alloc (by simp) _).drew
  have hbX1 : Below (v5.alloc (.cells (vArr n) 43)).heap.size (v5.alloc (.cells (vArr n) 43)) ((v5.alloc (.cells (vArr n) 43)).alloc (.cells #[.slice (some ⟨v5.heap.size, 0, none⟩) n n] 44)).drew := ((Below.refl _ _).alloc (Nat.le_refl _) _).drew
  have hcX : Ch B (fun _ => False) A5.tag T v5 ((v5.alloc (.cells (vArr n) 43)).alloc (.cells #[.slice (some ⟨v5.heap.size, 0, none⟩) n n] 44)).drew := Ch.of_tags hbX hT0
  have hnewX := hnewrow.below hbX1
  have hszX : ((v5.alloc (.cells (vArr n) 43)).alloc (.cells #[.slice (some ⟨v5.heap.size, 0, none⟩) n n] 44)).drew.heap.size = v5.heap.size + 2 := by simp
  generalize ((v5.alloc (.cells (vArr n) 43)).alloc (.cells #[.slice (some ⟨v5.heap.size, 0, none⟩) n n] 44)).drew = X at *
  have hrow := h.ar
  rw [hav] at hrow
  have hrowX := (hrow.keep hcv (by omega)).keep hcX (fun h => h)
  obtain ⟨tag', har, hgc⟩ := hrowX.grew hown hgrow (by rcases hat with h | h; exact Or.inl h; right; rw [h, hszX]) rfl
  have hc6 : Ch B (fun c => c = 0 ∨ c = 2) A5.tag tag' w5 w6 := ((hcv.mono (fun _ h => Or.inl h)).trans (hcX.mono (fun _ h => h.elim))).trans (hgc.mono (fun _ h => Or.inr h))
  have htr : tag' mb = 0 := (hc6.tags mb hrb).trans h.own.2
  have hcs : Ch B (fun c => c = 0) tag' tag' w6 (w6.setCell ⟨mb, 4, none⟩ (.slice (some ⟨g, 0, none⟩) (s.arr.length + 1) cap)) := Ch.set w6 mb _ _ h.own.1 htr
  have hc7 := hc6.trans (hcs.mono (fun _ h => Or.inl h))
  have hrun6 : w6.heap[mb]? = some (.cells ((mcells A5 s en).setIfInBounds 5 (.int .i64 (cellsP s.arr + n))) 130 (0, 0)) :=
    (hgc.block mb (by rw [hszX]; omega) (Or.inr (by rw [hT0 mb (by omega), h.own.2]; omega))).trans ((hcX.block mb (by omega) (Or.inr (fun h => h))).trans hrunv)
  have hcl : cellsP (s.arr ++ [List.replicate n vnil]) = cellsP s.arr + n := by rw [cells_append]; simp
  refine ⟨_, h.arrnew hc7 (av' := .slice (some ⟨g, 0, none⟩) (s.arr.length + 1) cap) (nv := .slice (some ⟨v5.heap.size, 0, none⟩) n n) (l := List.replicate n vnil) ?_ ?_ ?_, rfl, rfl, hc7.mono (fun c hc => by unfold N5; omega)⟩
  · rw [heap_set hrun6 _]
    unfold mcells
    rw [hcl]
    rfl
  · refine (har.keep hcs (by omega)).congr (fun i hi => ?_)
    by_cases e : i = s.arr.length
    · subst e
      rw [if_neg (by omega), upd_same]
      simp
    · rw [if_pos (by omega), upd_other _ _ _ _ e]
  · rw [List.length_replicate]
    exact (hnewX.keep hgc (by omega)).keep hcs (by omega)

set_option maxRecDepth 100000 in
set_option maxHeartbeats 2000000 in
theorem Cur.newArray {w0 w : World} {B mb : Nat} {A0 : AdM} {s : Mc} {en : Int} {l : List (Nat × Array Value × TypeId)} (h : Cur w0 B mb A0 s en l w) (x : V) (hm : s.arr.length ≤ 150000) (hc : cellsP s.arr ≤ 200) :
    Calls Tryz.prog 139 #[.pointer (some ⟨mb, 0, none⟩), .agg #[.int .i64 x.k, .int .i64 x.n]] w fun e w' =>
      (x.k ≠ 1 ∧ e = trapE 3 ∧ Cur w0 B mb A0 s en l w') ∨ (x.k = 1 ∧ x.n < 0 ∧ e = trapE 5 ∧ Cur w0 B mb A0 s en l w') ∨ (x.k = 1 ∧ 0 ≤ x.n ∧ 200 - cellsP s.arr < x.n ∧ e = trapE 8 ∧ Cur w0 B mb A0 s en l w') ∨
      (x.k = 1 ∧ 0 ≤ x.n ∧ x.n ≤ 200 - cellsP s.arr ∧ e = .returned (.agg #[.int .i64 2, .int .i64 (s.arr.length : Int)]) ∧ Cur w0 B mb A0 { s with arr := s.arr ++ [List.replicate x.n.toNat vnil] } en l w') := by
  have hw0 := h.le.1
  have H0 := hid (cur_two h #[.int .i64 x.k, .int .i64 x.n] #[.int .i64 0, .int .i64 0] 43)
  have HLT := hid h.lt
  clear h
  go_enter Tryz.func139, Tryz.ntmps139
  go_wp2_with fail
  generalize (w.alloc (.cells #[.int .i64 x.k, .int .i64 x.n] 43)).alloc (.cells #[.int .i64 0, .int .i64 0] 43) = W at *
  refine (integerB _ _ _).mono ?_
  rintro e w1 ⟨⟨hk, rfl⟩ | ⟨hk, rfl⟩, k1⟩
  · have H1 := hid (H0.out.below k1)
    have HK := hid hk
    clear H0 hk k1
    have HD := hid (H1.out.drop (l' := l) (fun t ht => List.mem_cons_of_mem _ (List.mem_cons_of_mem _ ht)))
    by_cases hneg : x.n < 0
    · have e1 : decide (x.n < 0) = true := by simpa using hneg
      have HN := hid hneg
      clear hneg
      go_wp2
      exact ⟨rfl, Or.inr (Or.inl ⟨HK.out, HN.out, rfl, HD.out⟩)⟩
    · have e1 : decide (x.n < 0) = false := by simpa using hneg
      have hcl := cells_nonneg s.arr
      obtain ⟨hB, A, h1, h2, h3, h4⟩ := H1.out
      have x5 : w1.cell? ⟨mb, 5, none⟩ = some (.int .i64 (cellsP s.arr)) := by rw [cell_heap h1.run]; rfl
      have z5 : w1.frozen? ⟨mb, 5, none⟩ = false := frozen_heap h1.run
      have hx0 : 0 ≤ x.n := by omega
      have HL := hid (And.intro hB (And.intro h1 (And.intro h2 (And.intro h3 h4))))
      clear hB h1 h2 h3 h4 hneg
      generalize hcc : cellsP s.arr = cc at *
      have HCC := hid hcc
      clear hcc
      have ew : wrap64 (200 - cc) = 200 - cc := by unfold wrap64; omega
      by_cases hfree : 200 - cc < x.n
      · have e2 : decide (200 - cc < x.n) = true := by simpa using hfree
        have HN := hid hfree
        clear hfree
        go_wp2
        refine ⟨rfl, Or.inr (Or.inr (Or.inl ⟨HK.out, hx0, ?_, rfl, HD.out⟩))⟩
        rw [HCC.out]
        exact HN.out
      · have e2 : decide (200 - cc < x.n) = false := by simpa using hfree
        have HN := hid hfree
        have ew2 : wrap64 (cc + x.n) = cc + x.n := by unfold wrap64; omega
        have hx1 : x.n ≤ 200 := by omega
        clear hfree
        go_wp2_with fail
        obtain ⟨pa, acap, hav, hacap⟩ := HL.out.2.1.ar.any
        have hsz : (w1.setCell ⟨mb, 5, none⟩ (.int .i64 (cc + x.n))).heap.size = w1.heap.size := by simp [World.setCell]
        have hcv : Ch B (fun c => c = 0) A.tag A.tag w1 (w1.setCell ⟨mb, 5, none⟩ (.int .i64 (cc + x.n))) := Ch.set w1 _ _ _ HL.out.2.1.own.1 HL.out.2.1.own.2
        have hrun5 := heap_set (o := 5) HL.out.2.1.run (.int .i64 (cc + x.n))
        have r4 : (w1.setCell ⟨mb, 5, none⟩ (.int .i64 (cc + x.n))).cell? ⟨mb, 4, none⟩ = some (.slice pa s.arr.length acap) := by rw [cell_heap hrun5, ← hav]; rfl
        have z4 : (w1.setCell ⟨mb, 5, none⟩ (.int .i64 (cc + x.n))).frozen? ⟨mb, 4, none⟩ = false := frozen_heap hrun5
        have hrow := HL.out.2.1.ar.keep hcv (by omega)
        rw [hav] at hrow
        have hmbz := heap_lt hrun5
        have hBw : B ≤ w1.heap.size := by have := HL.out.2.2.2.1.size; have := HL.out.1; omega
        have hmb0 := HL.out.2.1.own.2
        generalize hv5 : w1.setCell ⟨mb, 5, none⟩ (.int .i64 (cc + x.n)) = V5 at *
        have HV := hid (And.intro hv5 (And.intro hav hsz))
        have HR := hid hrow
        have HZ := hid z4
        have hne1 : some mb ≠ (Value.slice pa s.arr.length acap).ownBlock := hrow.other (by rw [hmb0]; omega)
        clear hv5 hcv hrun5 hrow z4 hav x5 z5 hmb0 hsz
        generalize hnn : s.arr.length = na at *
        have Hna := hid hnn
        clear hnn
        obtain ⟨inf, hi, hz0, hz1, hz2⟩ : ∃ i, Tryz.prog.info? 44 = some i ∧ i.zero = some (.slice none 0 0) ∧ i.size = 1 ∧ i.bytes = 24 := by
          obtain ⟨i, hi, hzz⟩ := Option.map_eq_some_iff.1 Tryz.info44
          simp only [Prod.mk.injEq] at hzz
          exact ⟨i, hi, hzz.1, hzz.2.1, hzz.2.2⟩
        have hmk := make_vals x.n hx0 (by omega)
        have hBV : B ≤ V5.heap.size := by have := HV.out.2.2; omega
        go_region_law ((refine step_append_lies _ (by rfl) _ _ _ (by rfl) B 44 inf _ 1 24 Tryz.underlying51 hi hz0 hz1 hz2 rfl (by decide) (.slice pa na acap) na _ (by rfl) (by exact ((HR.out.owns.drew).alloc _).alloc _) ⟨V5.heap.size + 1, 0, none⟩ 1 1 [.slice (some ⟨V5.heap.size, 0, none⟩) x.n.toNat x.n.toNat] (by rfl) (by rfl) (by exact news1 _ _ _ _) (by intro u hu; simp at hu; subst hu; rfl) (by omega) (by unfold maxLen; omega) (by omega) (by simp; omega) (V5.heap.size + 2) (by simp) ?_; intro g cap w6 hown1 hgrow hat hlt; have y0 := (grew_cell2 hgrow (a := ⟨mb, 4, none⟩) hmbz hne1).trans r4; have y1 := (grew_frozen2 hgrow (a := ⟨mb, 4, none⟩) hmbz hne1).trans HZ.out))
        all_goals
          have hcx : cc + x.n = cellsP s.arr + (x.n.toNat : Nat) := by have := HCC.out; omega
          obtain ⟨A7, l7, g7, a7, c7⟩ := HL.out.2.1.arrgrew hBw (n := x.n.toNat) (by omega) Hna.out HV.out.2.1 (by rw [← hcx]; exact HV.out.1.symm) hown1 hgrow hat
          have c8 : Cur w0 B mb A0 { s with arr := s.arr ++ [List.replicate x.n.toNat vnil] } en ((w.heap.size + 1, #[Value.int .i64 0, Value.int .i64 0], 43) :: (w.heap.size, #[Value.int .i64 x.k, Value.int .i64 x.n], 43) :: l) (w6.setCell ⟨mb, 4, none⟩ (.slice (some ⟨g, 0, none⟩) (na + 1) cap)) :=
            ⟨HL.out.1, A7, l7, g7.trans HL.out.2.2.1, HL.out.2.2.2.1.trans c7, HL.out.2.2.2.2.keep c7 n55⟩
          have r8 : (w6.setCell ⟨mb, 4, none⟩ (.slice (some ⟨g, 0, none⟩) (na + 1) cap)).cell? ⟨mb, 4, none⟩ = some (.slice (some ⟨g, 0, none⟩) (na + 1) cap) := by rw [cell_heap l7.run, ← a7]; rfl
          clear hown1 hgrow hat y0 y1 l7 g7 a7 c7 hlt
          generalize w6.setCell ⟨mb, 4, none⟩ (.slice (some ⟨g, 0, none⟩) (na + 1) cap) = w7 at *
          obtain ⟨x0, x1, t0, t1⟩ := c8.hb.two List.mem_cons_self
          have ew3 : wrap64 ((na : Int) + 1 - 1) = (na : Int) := by unfold wrap64; omega
          have ew4 : IntKind.i64.wrap (na : Int) = (na : Int) := by rw [IntKind.wrap_i64]; omega
          have H9 := hid (c8.write0 (by omega) (fun u hu => by
            rcases List.mem_cons.1 hu with rfl | hu
            · show w.heap.size ≠ _
              omega
            · have := HLT.out u hu
              omega) (.int .i64 2) (.int .i64 (na : Int)))
          clear c8 H1 HD HR HZ
          go_wp2
          obtain ⟨y0, y1, _, _⟩ := H9.out.hb.two List.mem_cons_self
          refine bodyPost_ret (v := .agg #[.int .i64 2, .int .i64 (na : Int)]) (by simp [results, Tryz.results139, go_sem, y0, y1]) rfl (Or.inr (Or.inr (Or.inr ⟨HK.out, hx0, by rw [HCC.out]; exact HN.out, by rw [Hna.out], H9.out.drop (fun t ht => List.mem_cons_of_mem _ (List.mem_cons_of_mem _ ht))⟩)))
  · exact ⟨rfl, Or.inl ⟨hk, rfl, (H0.out.below k1).drop (fun t ht => List.mem_cons_of_mem _ (List.mem_cons_of_mem _ ht))⟩⟩

set_option maxRecDepth 100000 in
set_option maxHeartbeats 1000000 in
theorem str_new (w : World) (B mb : Nat) (A : AdM) (s : Mc) (en : Int) (f : Fr) (rest : List Fr) (n : Int) (x : V) (st : List V) (hst : f.stk = x :: st) (hL : LayM w B mb A s en) (hs : s.fr = f :: rest) (hB : B ≤ w.heap.size) (hn : st.length ≤ 60) (hm : s.arr.length ≤ 150000) (hc : cellsP s.arr ≤ 200) :
    Calls Tryz.prog 121 #[.pointer (some ⟨mb, 0, none⟩), .pointer (some ⟨A.FB rest.length, 0, none⟩), .agg #[.int .i64 15, .int .i64 n]] w (StrE w B mb A s en rest (execP 15 n f s.arr s.out)) := by
  have H0 := hid ((Cur.start hL hB).box #[.int .i64 15, .int .i64 n] 33)
  generalize hfb : A.FB rest.length = fb
  have HF := hid hfb
  have hx : execP 15 n f s.arr s.out = if x.k ≠ 1 then ({ f with stk := st }, s.arr, s.out, 3) else if x.n < 0 then ({ f with stk := st }, s.arr, s.out, 5) else if 200 - cellsP s.arr < x.n then ({ f with stk := st }, s.arr, s.out, 8) else ({ f with stk := ⟨2, (s.arr.length : Int)⟩ :: st }, s.arr ++ [List.replicate x.n.toNat vnil], s.out, 0) := by
    unfold execP
    simp [hst]
  generalize execP 15 n f s.arr s.out = xx at hx ⊢
  have HX := hid hx
  have HM := hid (And.intro hm hc)
  clear hL hfb hx hm hc
  go_enter Tryz.func121, Tryz.ntmps121
  go_wp2_with fail
  generalize w.alloc (.cells #[.int .i64 15, .int .i64 n] 33) = W at *
  have H1 := hid H0.out.drew
  clear H0
  refine region_lex (Hb [(w.heap.size, #[Value.int .i64 15, Value.int .i64 n], 33)]) [(false, 0), (false, 1), (false, 2), (false, 3), (false, 4), (false, 5), (false, 6), (true, 7), (true, 8), (true, 9)] (by kernel_rfl) (by kernel_rfl) (panic_block _ _ _) H1.out.hb ?_
  simp only [lexL, List.getElem?_cons_zero, List.getElem?_cons_succ]
  iterate 7 (refine lexW_free (by rfl) (by intro w' hS'; clear hS'; go_simp; exact rfl) ?_; simp only [Act.put, List.setIfInBounds_toArray, List.set_cons_zero, List.set_cons_succ])
  generalize W.drew = w1 at H1 ⊢
  refine lexW_sole (fun K hK => ?_)
  go_simp
  have hp := H1.out.pop hs hst (by omega)
  rw [HF.out] at hp
  refine hp.mono ?_
  rintro e w2 ⟨rfl, c2⟩
  have H2 := hid c2
  refine hK.out _ _ c2.hb ?_
  clear hK K hp c2 H1
  refine lexW_sole (fun K hK => ?_)
  go_simp
  refine (H2.out.newArray x HM.out.1 HM.out.2).mono ?_
  rintro e w3 (⟨h1, rfl, c3⟩ | ⟨h1, h2, rfl, c3⟩ | ⟨h1, h2, h3, rfl, c3⟩ | ⟨h1, h2, h3, rfl, c3⟩)
  · refine ⟨rfl, ?_⟩
    rw [HX.out.trans (if_pos h1)]
    exact StrE.trap (by decide) c3.done
  · refine ⟨rfl, ?_⟩
    rw [HX.out.trans ((if_neg (fun h => h h1)).trans (if_pos h2))]
    exact StrE.trap (by decide) c3.done
  · refine ⟨rfl, ?_⟩
    rw [HX.out.trans ((if_neg (fun h => h h1)).trans ((if_neg (by omega)).trans (if_pos h3)))]
    exact StrE.trap (by decide) c3.done
  · have H3 := hid c3
    have HX2 := hid (HX.out.trans ((if_neg (fun h => h h1)).trans ((if_neg (by omega)).trans (if_neg (by have h4 : x.n ≤ 200 - cellsP s.arr := h3; omega)))))
    refine hK.out _ _ c3.hb ?_
    clear hK K c3 H2 h1 h2 h3
    refine lexW_sole (fun K hK => ?_)
    go_simp
    have hp := H3.out.push rfl (by show st.length ≤ 64; omega) ⟨2, (s.arr.length : Int)⟩
    rw [HF.out] at hp
    refine hp.mono ?_
    rintro e w9 ⟨rfl, c9⟩
    refine hK.out _ _ c9.hb ?_
    have HQ := hid (StrE.ok c9.done)
    clear hK K c9 hp
    refine lexW_done ?_
    go_wp2
    go_end0
    rw [HX2.out]
    exact HQ.out
end Go.Proofs.YtkafkipjedpohaaGreatDoor
