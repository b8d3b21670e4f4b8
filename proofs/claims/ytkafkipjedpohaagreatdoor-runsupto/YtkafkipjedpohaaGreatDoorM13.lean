import Derived.Test.YtkafkipjedpohaaGreatDoorM10

/-
  The project's machine: newArray; straight: New.
-/
namespace Go.Proofs.YtkafkipjedpohaaGreatDoor
open Go.RowKit

/-- A new array stands behind the others. -/
theorem LayM.arrnew {w w' : World} {B mb : Nat} {A : AdM} {s : Mc} {en : Int} (h : LayM w B mb A s en) {tag' : Nat → Nat} (hc : Ch B (fun c => c = 0 ∨ c = 2) A.tag tag' w w') {av' nv : Value} {l : List V}
    (hrun : w'.heap[mb]? = some (.cells (mcells { A with av := av' } { s with arr := s.arr ++ [l] } en) 130 (0, 0))) (har : Row w' B tag' 2 44 1 av' (s.arr.length + 1) (upd A.AV s.arr.length nv))
    (hnew : Row w' B tag' (13 + 4 * s.arr.length) 43 2 nv l.length (vcell l)) :
    LayM w' B mb { A with tag := tag', av := av', AV := upd A.AV s.arr.length nv } { s with arr := s.arr ++ [l] } en := by
  refine ⟨hrun, ⟨h.own.1, (hc.tags mb (heap_lt h.run)).trans h.own.2⟩, h.fr.keep hc (by omega), fun i hi => ?_, ?_, h.out.keep hc (by omega), fun i hi => (h.loc i hi).keep hc (by omega), fun i hi => (h.stk i hi).keep hc (by omega), fun j hj => ?_⟩
  · obtain ⟨g1, g2, g3⟩ := h.fb i hi
    obtain ⟨g4, g5⟩ := blk_keep g1 hc (by rw [g3]; omega)
    exact ⟨g4, g2, g5.trans g3⟩
  · show Row w' B tag' 2 _ 1 av' (s.arr ++ [l]).length _
    rw [List.length_append]
    exact har
  · have hj' : j < s.arr.length + 1 := by simpa using hj
    show Row w' B tag' (13 + 4 * j) _ 2 (upd A.AV s.arr.length nv j) ((s.arr ++ [l]).getD j []).length (vcell ((s.arr ++ [l]).getD j []))
    by_cases e : j = s.arr.length
    · subst e
      have e2 : (s.arr ++ [l]).getD s.arr.length [] = l := by simp [List.getD_eq_getElem?_getD]
      rw [e2, upd_same]
      exact hnew
    · have e2 : (s.arr ++ [l]).getD j [] = s.arr.getD j [] := by rw [List.getD_eq_getElem?_getD, List.getD_eq_getElem?_getD, List.getElem?_append_left (by omega)]
      rw [e2, upd_other _ _ _ _ e]
      exact (h.arr j (by omega)).keep hc (by omega)

theorem LayM.arrgrew {w5 v5 w6 : World} {B mb : Nat} {A5 : AdM} {s : Mc} {en : Int} (h : LayM w5 B mb A5 s en) (hB5 : B ≤ w5.heap.size) {n na : Nat} (hn : n ≤ 1000) (hna : s.arr.length = na) {pa : Option Addr} {acap : Nat} (hav : A5.av = .slice pa na acap) {g cap : Nat}
    (hv5 : v5 = w5.setCell ⟨mb, 5, none⟩ (.int .i64 (cellsP s.arr + n)))
    (hown : w6.ownsRow B 44 1 (.slice (some ⟨g, 0, none⟩) (na + 1) cap) (na + 1) (List.map A5.AV (List.range (na * 1)) ++ [.slice (some ⟨v5.heap.size, 0, none⟩) n n]))
    (hgrow : ((v5.alloc (.cells (vArr n) 43)).alloc (.cells #[.slice (some ⟨v5.heap.size, 0, none⟩) n n] 44)).drew.grownBy w6 (Value.slice pa na acap).ownBlock) (hat : (Value.slice pa na acap).ownBlock = some g ∨ g = v5.heap.size + 2) :
    ∃ A7 : AdM, LayM (w6.setCell ⟨mb, 4, none⟩ (.slice (some ⟨g, 0, none⟩) (na + 1) cap)) B mb A7 { s with arr := s.arr ++ [List.replicate n vnil] } en ∧ A7.g = A5.g ∧ A7.av = .slice (some ⟨g, 0, none⟩) (na + 1) cap ∧ Ch B N5 A5.tag A7.tag w5 (w6.setCell ⟨mb, 4, none⟩ (.slice (some ⟨g, 0, none⟩) (na + 1) cap)) := by
  subst hna
  have hrb := heap_lt h.run
  have hcv : Ch B (fun c => c = 0) A5.tag A5.tag w5 v5 := by rw [hv5]; exact Ch.set w5 _ _ _ h.own.1 h.own.2
  have hrunv : v5.heap[mb]? = some (.cells ((mcells A5 s en).setIfInBounds 5 (.int .i64 (cellsP s.arr + n))) 130 (0, 0)) := by rw [hv5]; exact heap_set h.run _
  have hsv : v5.heap.size = w5.heap.size := by rw [hv5]; simp [World.setCell]
  clear hv5
  generalize hT : upd (upd A5.tag v5.heap.size (13 + 4 * s.arr.length)) (v5.heap.size + 1) 5 = T
  have hT0 : ∀ b, b < v5.heap.size → T b = A5.tag b := fun b hb => by rw [← hT, upd_other _ _ _ _ (by omega), upd_other _ _ _ _ (by omega)]
  have hT1 : T v5.heap.size = 13 + 4 * s.arr.length := by rw [← hT, upd_other _ _ _ _ (by omega), upd_same]
  have hnewrow := vArr_row (B := B) (tag := T) v5 n (by omega) (by unfold maxLen; omega) hT1
  have hbX : Below v5.heap.size v5 ((v5.alloc (.cells (vArr n) 43)).alloc (.cells #[.slice (some ⟨v5.heap.size, 0, none⟩) n n] 44)).drew := (((Below.refl _ _).alloc (Nat.le_refl _) _).alloc (by simp) _).drew
  have hbX1 : Below (v5.alloc (.cells (vArr n) 43)).heap.size (v5.alloc (.cells (vArr n) 43)) ((v5.alloc (.cells (vArr n) 43)).alloc (.cells #[.slice (some ⟨v5.heap.size, 0, none⟩) n n] 44)).drew := ((Below.refl _ _).alloc (Nat.le_refl _) _).drew
  have hcX : Ch B (fun _ => False) A5.tag T v5 ((v5.alloc (.cells (vArr n) 43)).alloc (.cells #[.slice (some ⟨v5.heap.size, 0, none⟩) n n] 44)).drew := Ch.of_tags hbX hT0
  have hnewX := hnewrow.below hbX1
  have hszX : ((v5.alloc (.cells (vArr n) 43)).alloc (.cells #[.slice (some ⟨v5.heap.size, 0, none⟩) n n] 44)).drew.heap.size = v5.heap.size + 2 := by simp
  generalize ((v5.alloc (.cells (vArr n) 43)).alloc (.cells #[.slice (some ⟨v5.heap.size, 0, none⟩) n n] 44)).drew = X at *
  have hrow := h.ar
  rw [hav] at hrow
  have hrowX := (hrow.keep hcv (by omega)).keep hcX (fun h => h)
  obtain ⟨tag', har, hgc⟩ := hrowX.grew hown hgrow (by rcases hat with h | h; exact Or.inl h; right; rw [h, hszX]) rfl
  have hc6 : Ch B (fun c => c = 0 ∨ c = 2) A5.tag tag' w5 w6 := ((hcv.mono (fun _ h => Or.inl h)).trans (hcX.mono (fun _ h => h.elim))).trans (hgc.mono (fun _ h => Or.inr h))
  have htr : tag' mb = 0 := (hc6.tags mb hrb).trans h.own.2
  have hcs : Ch B (fun c => c = 0) tag' tag' w6 (w6.setCell ⟨mb, 4, none⟩ (.slice (some ⟨g, 0, none⟩) (s.arr.length + 1) cap)) := Ch.set w6 mb _ _ h.own.1 htr
  have hc7 := hc6.trans (hcs.mono (fun _ h => Or.inl h))
  have hrun6 : w6.heap[mb]? = some (.cells ((mcells A5 s en).setIfInBounds 5 (.int .i64 (cellsP s.arr + n))) 130 (0, 0)) :=
    (hgc.block mb (by rw [hszX]; omega) (Or.inr (by rw [hT0 mb (by omega), h.own.2]; omega))).trans ((hcX.block mb (by omega) (Or.inr (fun h => h))).trans hrunv)
  have hcl : cellsP (s.arr ++ [List.replicate n vnil]) = cellsP s.arr + n := by rw [cells_append]; simp
  refine ⟨_, h.arrnew hc7 (av' := .slice (some ⟨g, 0, none⟩) (s.arr.length + 1) cap) (nv := .slice (some ⟨v5.heap.size, 0, none⟩) n n) (l := List.replicate n vnil) ?_ ?_ ?_, rfl, rfl, hc7.mono (fun c hc => by unfold N5; omega)⟩
  · rw [heap_set hrun6 _]
    unfold mcells
    rw [hcl]
    rfl
  · refine (har.keep hcs (by omega)).congr (fun i hi => ?_)
    by_cases e : i = s.arr.length
    · subst e
      rw [if_neg (by omega), upd_same]
      simp
    · rw [if_pos (by omega), upd_other _ _ _ _ e]
  · rw [List.length_replicate]
    exact (hnewX.keep hgc (by omega)).keep hcs (by omega)

set_option maxRecDepth 100000 in
set_option maxHeartbeats 2000000 in
theorem Cur.newArray {w0 w : World} {B mb : Nat} {A0 : AdM} {s : Mc} {en : Int} {l : List (Nat × Array Value × TypeId)} (h : Cur w0 B mb A0 s en l w) (x : V) (hm : s.arr.length ≤ 150000) (hc : cellsP s.arr ≤ 200) :
    Calls Tryz.prog 139 #[.pointer (some ⟨mb, 0, none⟩), .agg #[.int .i64 x.k, .int .i64 x.n]] w fun e w' =>
      (x.k ≠ 1 ∧ e = trapE 3 ∧ Cur w0 B mb A0 s en l w') ∨ (x.k = 1 ∧ x.n < 0 ∧ e = trapE 5 ∧ Cur w0 B mb A0 s en l w') ∨ (x.k = 1 ∧ 0 ≤ x.n ∧ 200 - cellsP s.arr < x.n ∧ e = trapE 8 ∧ Cur w0 B mb A0 s en l w') ∨
      (x.k = 1 ∧ 0 ≤ x.n ∧ x.n ≤ 200 - cellsP s.arr ∧ e = .returned (.agg #[.int .i64 2, .int .i64 (s.arr.length : Int)]) ∧ Cur w0 B mb A0 { s with arr := s.arr ++ [List.replicate x.n.toNat vnil] } en l w') := by
  have hw0 := h.le.1
  have H0 := hid (cur_two h #[.int .i64 x.k, .int .i64 x.n] #[.int .i64 0, .int .i64 0] 43)
  have HLT := hid h.lt
  clear h
  go_enter Tryz.func139, Tryz.ntmps139
  go_wp2_with fail
  generalize (w.alloc (.cells #[.int .i64 x.k, .int .i64 x.n] 43)).alloc (.cells #[.int .i64 0, .int .i64 0] 43) = W at *
  refine (integerB _ _ _).mono ?_
  rintro e w1 ⟨⟨hk, rfl⟩ | ⟨hk, rfl⟩, k1⟩
  · have H1 := hid (H0.out.below k1)
    have HK := hid hk
    clear H0 hk k1
    have HD := hid (H1.out.drop (l' := l) (fun t ht => List.mem_cons_of_mem _ (List.mem_cons_of_mem _ ht)))
    by_cases hneg : x.n < 0
    · have e1 : decide (x.n < 0) = true := by simpa using hneg
      have HN := hid hneg
      clear hneg
      go_wp2
      exact ⟨rfl, Or.inr (Or.inl ⟨HK.out, HN.out, rfl, HD.out⟩)⟩
    · have e1 : decide (x.n < 0) = false := by simpa using hneg
      have hcl := cells_nonneg s.arr
      obtain ⟨hB, A, h1, h2, h3, h4⟩ := H1.out
      have x5 : w1.cell? ⟨mb, 5, none⟩ = some (.int .i64 (cellsP s.arr)) := by rw [cell_heap h1.run]; rfl
      have z5 : w1.frozen? ⟨mb, 5, none⟩ = false := frozen_heap h1.run
      have hx0 : 0 ≤ x.n := by omega
      have HL := hid (And.intro hB (And.intro h1 (And.intro h2 (And.intro h3 h4))))
      clear hB h1 h2 h3 h4 hneg
      generalize hcc : cellsP s.arr = cc at *
      have HCC := hid hcc
      clear hcc
      have ew : wrap64 (200 - cc) = 200 - cc := by unfold wrap64; omega
      by_cases hfree : 200 - cc < x.n
      · have e2 : decide (200 - cc < x.n) = true := by simpa using hfree
        have HN := hid hfree
        clear hfree
        go_wp2
        refine ⟨rfl, Or.inr (Or.inr (Or.inl ⟨HK.out, hx0, ?_, rfl, HD.out⟩))⟩
        rw [HCC.out]
        exact HN.out
      · have e2 : decide (200 - cc < x.n) = false := by simpa using hfree
        have HN := hid hfree
        have ew2 : wrap64 (cc + x.n) = cc + x.n := by unfold wrap64; omega
        have hx1 : x.n ≤ 200 := by omega
        clear hfree
        go_wp2_with fail
        obtain ⟨pa, acap, hav, hacap⟩ := HL.out.2.1.ar.any
        have hsz : (w1.setCell ⟨mb, 5, none⟩ (.int .i64 (cc + x.n))).heap.size = w1.heap.size := by simp [World.setCell]
        have hcv : Ch B (fun c => c = 0) A.tag A.tag w1 (w1.setCell ⟨mb, 5, none⟩ (.int .i64 (cc + x.n))) := Ch.set w1 _ _ _ HL.out.2.1.own.1 HL.out.2.1.own.2
        have hrun5 := heap_set (o := 5) HL.out.2.1.run (.int .i64 (cc + x.n))
        have r4 : (w1.setCell ⟨mb, 5, none⟩ (.int .i64 (cc + x.n))).cell? ⟨mb, 4, none⟩ = some (.slice pa s.arr.length acap) := by rw [cell_heap hrun5, ← hav]; rfl
        have z4 : (w1.setCell ⟨mb, 5, none⟩ (.int .i64 (cc + x.n))).frozen? ⟨mb, 4, none⟩ = false := frozen_heap hrun5
        have hrow := HL.out.2.1.ar.keep hcv (by omega)
        rw [hav] at hrow
        have hmbz := heap_lt hrun5
        have hBw : B ≤ w1.heap.size := by have := HL.out.2.2.2.1.size; have := HL.out.1; omega
        have hmb0 := HL.out.2.1.own.2
        generalize hv5 : w1.setCell ⟨mb, 5, none⟩ (.int .i64 (cc + x.n)) = V5 at *
        have HV := hid (And.intro hv5 (And.intro hav hsz))
        have HR := hid hrow
        have HZ := hid z4
        have hne1 : some mb ≠ (Value.slice pa s.arr.length acap).ownBlock := hrow.other (by rw [hmb0]; omega)
        clear hv5 hcv hrun5 hrow z4 hav x5 z5 hmb0 hsz
        generalize hnn : s.arr.length = na at *
        have Hna := hid hnn
        clear hnn
        obtain ⟨inf, hi, hz0, hz1, hz2⟩ : ∃ i, Tryz.prog.info? 44 = some i ∧ i.zero = some (.slice none 0 0) ∧ i.size = 1 ∧ i.bytes = 24 := by
          obtain ⟨i, hi, hzz⟩ := Option.map_eq_some_iff.1 Tryz.info44
          simp only [Prod.mk.injEq] at hzz
          exact ⟨i, hi, hzz.1, hzz.2.1, hzz.2.2⟩
        have hmk := make_vals x.n hx0 (by omega)
        have hBV : B ≤ V5.heap.size := by have := HV.out.2.2; omega
        go_region_law ((refine step_append_lies _ (by rfl) _ _ _ (by rfl) B 44 inf _ 1 24 Tryz.underlying51 hi hz0 hz1 hz2 rfl (by decide) (.slice pa na acap) na _ (by rfl) (by exact ((HR.out.owns.drew).alloc _).alloc _) ⟨V5.heap.size + 1, 0, none⟩ 1 1 [.slice (some ⟨V5.heap.size, 0, none⟩) x.n.toNat x.n.toNat] (by rfl) (by rfl) (by exact news1 _ _ _ _) (by intro u hu; simp at hu; subst hu; rfl) (by omega) (by unfold maxLen; omega) (by omega) (by simp; omega) (V5.heap.size + 2) (by simp) ?_; intro g cap w6 hown1 hgrow hat hlt; have y0 := (grew_cell2 hgrow (a := ⟨mb, 4, none⟩) hmbz hne1).trans r4; have y1 := (grew_frozen2 hgrow (a := ⟨mb, 4, none⟩) hmbz hne1).trans HZ.out))
        all_goals
          have hcx : cc + x.n = cellsP s.arr + (x.n.toNat : Nat) := by have := HCC.out; omega
          obtain ⟨A7, l7, g7, a7, c7⟩ := HL.out.2.1.arrgrew hBw (n := x.n.toNat) (by omega) Hna.out HV.out.2.1 (by rw [← hcx]; exact HV.out.1.symm) hown1 hgrow hat
          have c8 : Cur w0 B mb A0 { s with arr := s.arr ++ [List.replicate x.n.toNat vnil] } en ((w.heap.size + 1, #[Value.int .i64 0, Value.int .i64 0], 43) :: (w.heap.size, #[Value.int .i64 x.k, Value.int .i64 x.n], 43) :: l) (w6.setCell ⟨mb, 4, none⟩ (.slice (some ⟨g, 0, none⟩) (na + 1) cap)) :=
            ⟨HL.out.1, A7, l7, g7.trans HL.out.2.2.1, HL.out.2.2.2.1.trans c7, HL.out.2.2.2.2.keep c7 n55⟩
          have r8 : (w6.setCell ⟨mb, 4, none⟩ (.slice (some ⟨g, 0, none⟩) (na + 1) cap)).cell? ⟨mb, 4, none⟩ = some (.slice (some ⟨g, 0, none⟩) (na + 1) cap) := by rw [cell_heap l7.run, ← a7]; rfl
          clear hown1 hgrow hat y0 y1 l7 g7 a7 c7 hlt
          generalize w6.setCell ⟨mb, 4, none⟩ (.slice (some ⟨g, 0, none⟩) (na + 1) cap) = w7 at *
          obtain ⟨x0, x1, t0, t1⟩ := c8.hb.two List.mem_cons_self
          have ew3 : wrap64 ((na : Int) + 1 - 1) = (na : Int) := by unfold wrap64; omega
          have ew4 : IntKind.i64.wrap (na : Int) = (na : Int) := by rw [IntKind.wrap_i64]; omega
          have H9 := hid (c8.write0 (by omega) (fun u hu => by
            rcases List.mem_cons.1 hu with rfl | hu
            · show w.heap.size ≠ _
              omega
            · have := HLT.out u hu
              omega) (.int .i64 2) (.int .i64 (na : Int)))
          clear c8 H1 HD HR HZ
          go_wp2
          obtain ⟨y0, y1, _, _⟩ := H9.out.hb.two List.mem_cons_self
          refine bodyPost_ret (v := .agg #[.int .i64 2, .int .i64 (na : Int)]) (by simp [results, Tryz.results139, go_sem, y0, y1]) rfl (Or.inr (Or.inr (Or.inr ⟨HK.out, hx0, by rw [HCC.out]; exact HN.out, by rw [Hna.out], H9.out.drop (fun t ht => List.mem_cons_of_mem _ (List.mem_cons_of_mem _ ht))⟩)))
  · exact ⟨rfl, Or.inl ⟨hk, rfl, (H0.out.below k1).drop (fun t ht => List.mem_cons_of_mem _ (List.mem_cons_of_mem _ ht))⟩⟩

set_option maxRecDepth 100000 in
set_option maxHeartbeats 1000000 in
theorem str_new (w : World) (B mb : Nat) (A : AdM) (s : Mc) (en : Int) (f : Fr) (rest : List Fr) (n : Int) (x : V) (st : List V) (hst : f.stk = x :: st) (hL : LayM w B mb A s en) (hs : s.fr = f :: rest) (hB : B ≤ w.heap.size) (hn : st.length ≤ 60) (hm : s.arr.length ≤ 150000) (hc : cellsP s.arr ≤ 200) :
    Calls Tryz.prog 121 #[.pointer (some ⟨mb, 0, none⟩), .pointer (some ⟨A.FB rest.length, 0, none⟩), .agg #[.int .i64 15, .int .i64 n]] w (StrE w B mb A s en rest (execP 15 n f s.arr s.out)) := by
  have H0 := hid ((Cur.start hL hB).box #[.int .i64 15, .int .i64 n] 33)
  generalize hfb : A.FB rest.length = fb
  have HF := hid hfb
  have hx : execP 15 n f s.arr s.out = if x.k ≠ 1 then ({ f with stk := st }, s.arr, s.out, 3) else if x.n < 0 then ({ f with stk := st }, s.arr, s.out, 5) else if 200 - cellsP s.arr < x.n then ({ f with stk := st }, s.arr, s.out, 8) else ({ f with stk := ⟨2, (s.arr.length : Int)⟩ :: st }, s.arr ++ [List.replicate x.n.toNat vnil], s.out, 0) := by
    unfold execP
    simp [hst]
  generalize execP 15 n f s.arr s.out = xx at hx ⊢
  have HX := hid hx
  have HM := hid (And.intro hm hc)
  clear hL hfb hx hm hc
  go_enter Tryz.func121, Tryz.ntmps121
  go_wp2_with fail
  generalize w.alloc (.cells #[.int .i64 15, .int .i64 n] 33) = W at *
  have H1 := hid H0.out.drew
  clear H0
  refine region_lex (Hb [(w.heap.size, #[Value.int .i64 15, Value.int .i64 n], 33)]) [(false, 0), (false, 1), (false, 2), (false, 3), (false, 4), (false, 5), (false, 6), (true, 7), (true, 8), (true, 9)] (by kernel_rfl) (by kernel_rfl) (panic_block _ _ _) H1.out.hb ?_
  simp only [lexL, List.getElem?_cons_zero, List.getElem?_cons_succ]
  iterate 7 (refine lexW_free (by rfl) (by intro w' hS'; clear hS'; go_simp; exact rfl) ?_; simp only [Act.put, List.setIfInBounds_toArray, List.set_cons_zero, List.set_cons_succ])
  generalize W.drew = w1 at H1 ⊢
  refine lexW_sole (fun K hK => ?_)
  go_simp
  have hp := H1.out.pop hs hst (by omega)
  rw [HF.out] at hp
  refine hp.mono ?_
  rintro e w2 ⟨rfl, c2⟩
  have H2 := hid c2
  refine hK.out _ _ c2.hb ?_
  clear hK K hp c2 H1
  refine lexW_sole (fun K hK => ?_)
  go_simp
  refine (H2.out.newArray x HM.out.1 HM.out.2).mono ?_
  rintro e w3 (⟨h1, rfl, c3⟩ | ⟨h1, h2, rfl, c3⟩ | ⟨h1, h2, h3, rfl, c3⟩ | ⟨h1, h2, h3, rfl, c3⟩)
  · refine ⟨rfl, ?_⟩
    rw [HX.out.trans (if_pos h1)]
    exact StrE.trap (by decide) c3.done
  · refine ⟨rfl, ?_⟩
    rw [HX.out.trans ((if_neg (fun h => h h1)).trans (if_pos h2))]
    exact StrE.trap (by decide) c3.done
  · refine ⟨rfl, ?_⟩
    rw [HX.out.trans ((if_neg (fun h => h h1)).trans ((if_neg (by omega)).trans (if_pos h3)))]
    exact StrE.trap (by decide) c3.done
  · have H3 := hid c3
    have HX2 := hid (HX.out.trans ((if_neg (fun h => h h1)).trans ((if_neg (by omega)).trans (if_neg (by have h4 : x.n ≤ 200 - cellsP s.arr := h3; omega)))))
    refine hK.out _ _ c3.hb ?_
    clear hK K c3 H2 h1 h2 h3
    refine lexW_sole (fun K hK => ?_)
    go_simp
    have hp := H3.out.push rfl (by show st.length ≤ 64; omega) ⟨2, (s.arr.length : Int)⟩
    rw [HF.out] at hp
    refine hp.mono ?_
    rintro e w9 ⟨rfl, c9⟩
    refine hK.out _ _ c9.hb ?_
    have HQ := hid (StrE.ok c9.done)
    clear hK K c9 hp
    refine lexW_done ?_
    go_wp2
    go_end0
    rw [HX2.out]
    exact HQ.out
end Go.Proofs.YtkafkipjedpohaaGreatDoor

/-
  The project's machine: straight: Load, Store.
-/
namespace Go.Proofs.YtkafkipjedpohaaGreatDoor
open Go.RowKit

/-- The locals of the frame at hand. -/
theorem Cur.loc {w0 w : World} {B mb : Nat} {A0 : AdM} {s : Mc} {en : Int} {l : List (Nat × Array Value × TypeId)} (h : Cur w0 B mb A0 s en l w) {f : Fr} {rest : List Fr} (hs : s.fr = f :: rest) {i : Nat} (hi : i < f.loc.length) :
    ∃ lb lcap, w.cell? ⟨A0.FB rest.length, 2, none⟩ = some (.slice (some ⟨lb, 0, none⟩) f.loc.length lcap) ∧ w.cell? ⟨lb, i * 2, none⟩ = some (.int .i64 (f.loc.getD i vnil).k) ∧ w.cell? ⟨lb, i * 2 + 1, none⟩ = some (.int .i64 (f.loc.getD i vnil).n) ∧ w.frozen? ⟨lb, i * 2, none⟩ = false ∧ w.frozen? ⟨lb, i * 2 + 1, none⟩ = false ∧ lb ≠ A0.FB rest.length := by
  obtain ⟨hB, A, h1, h2, h3, h4⟩ := h
  have hfb : A.FB = A0.FB := by unfold AdM.FB; rw [h2]
  have hlen : s.fr.length = rest.length + 1 := by rw [hs]; rfl
  have e0 : frAt s.fr rest.length = f := by rw [hs]; exact frAt_top _ _
  obtain ⟨g1, g2, g3⟩ := h1.fb rest.length (by omega)
  have hloc := h1.loc rest.length (by omega)
  rw [e0] at g1 hloc
  obtain ⟨lb, lcap, hlv, hlb, hlz, hlt, hlc⟩ := hloc.form (by omega)
  rw [hlv] at hloc
  have x0 := hloc.cell (i := i * 2) (by omega)
  have x1 := hloc.cell (i := i * 2 + 1) (by omega)
  rw [(vcell_two _ _).1] at x0
  rw [(vcell_two _ _).2] at x1
  rw [← hfb]
  refine ⟨lb, lcap, ?_, x0, x1, hloc.frozen _, hloc.frozen _, fun e => ?_⟩
  · rw [cell_heap g1, ← hlv]
    rfl
  · rw [e] at hlt
    omega

/-- Push: the locals stay where they are. -/
theorem Cur.pushL {w0 w : World} {B mb : Nat} {A0 : AdM} {s : Mc} {en : Int} {l : List (Nat × Array Value × TypeId)} (h : Cur w0 B mb A0 s en l w) {f : Fr} {rest : List Fr} (hs : s.fr = f :: rest) (hn : f.stk.length ≤ 64) (v : V) :
    Calls Tryz.prog 132 #[.pointer (some ⟨A0.FB rest.length, 3, none⟩), .agg #[.int .i64 v.k, .int .i64 v.n]] w fun e w' => e = .returned (.tuple #[]) ∧ Cur w0 B mb A0 { s with fr := { f with stk := v :: f.stk } :: rest } en l w' ∧
      ∀ lb lcap, 1 ≤ f.loc.length → w.cell? ⟨A0.FB rest.length, 2, none⟩ = some (.slice (some ⟨lb, 0, none⟩) f.loc.length lcap) → w'.cell? ⟨A0.FB rest.length, 2, none⟩ = some (.slice (some ⟨lb, 0, none⟩) f.loc.length lcap) ∧ ∀ o, w'.cell? ⟨lb, o, none⟩ = w.cell? ⟨lb, o, none⟩ := by
  have hle := h.le.2
  obtain ⟨hB, A, h1, h2, h3, h4⟩ := h
  have hfb : A.FB = A0.FB := by unfold AdM.FB; rw [h2]
  rw [← hfb]
  have hlen : s.fr.length = rest.length + 1 := by rw [hs]; rfl
  have e0 : frAt s.fr rest.length = f := by rw [hs]; exact frAt_top _ _
  obtain ⟨g1, g2, g3⟩ := h1.fb rest.length (by omega)
  have hrow := h1.stk rest.length (by omega)
  have hloc := h1.loc rest.length (by omega)
  rw [e0] at g1 hrow hloc
  have hcl := cell_heap (o := 2) g1
  refine (pushV w B _ 3 _ _ A.tag _ _ f.stk v g1 rfl g2 hle (by rw [g3]; omega) hrow (by omega)).mono ?_
  rintro e w' ⟨rfl, tag', sv', k1, k2, k3⟩
  have k4 : Ch B (Tk rest.length) A.tag tag' w w' := k3.mono (fun d hd => by rw [g3] at hd; unfold Tk; omega)
  have hA : Aft (Tk rest.length) w w' B mb A { s with fr := { f with stk := v :: f.stk } :: rest } en := ⟨_, h1.top hs k4 k2 (hloc.keep k3 (by rw [g3]; omega)) k1, rfl, k4⟩
  refine ⟨rfl, Cur.aft hB h2 h3 h4 (fun _ => tk_n5) hA, fun lb lcap hl1 hlc => ?_⟩
  obtain ⟨lb', lcap', hlv, _, hlz, hlt, _⟩ := hloc.form hl1
  rw [hcl] at hlc
  have e1 : (.slice (some ⟨lb', 0, none⟩) f.loc.length lcap' : Value) = .slice (some ⟨lb, 0, none⟩) f.loc.length lcap := by rw [← hlv]; exact Option.some.inj hlc
  injection e1 with e1 _ e2
  injection e1 with e1
  injection e1 with e1 _
  subst e1
  refine ⟨?_, fun o => World.cell?_of_block (k3.block lb' hlz (Or.inr (by rw [hlt, g3]; omega)))⟩
  rw [cell_heap k2]
  exact hlc

/-- Pop: the locals stay where they are. -/
theorem Cur.popL {w0 w : World} {B mb : Nat} {A0 : AdM} {s : Mc} {en : Int} {l : List (Nat × Array Value × TypeId)} (h : Cur w0 B mb A0 s en l w) {f : Fr} {rest : List Fr} (hs : s.fr = f :: rest) {v : V} {st : List V} (hst : f.stk = v :: st) (hn : st.length ≤ 64) :
    Calls Tryz.prog 129 #[.pointer (some ⟨A0.FB rest.length, 3, none⟩)] w fun e w' => e = .returned (.agg #[.int .i64 v.k, .int .i64 v.n]) ∧ Cur w0 B mb A0 { s with fr := { f with stk := st } :: rest } en l w' ∧ w'.cell? ⟨A0.FB rest.length, 2, none⟩ = w.cell? ⟨A0.FB rest.length, 2, none⟩ := by
  obtain ⟨hB, A, h1, h2, h3, h4⟩ := h
  have hfb : A.FB = A0.FB := by unfold AdM.FB; rw [h2]
  rw [← hfb]
  have hlen : s.fr.length = rest.length + 1 := by rw [hs]; rfl
  have e0 : frAt s.fr rest.length = f := by rw [hs]; exact frAt_top _ _
  obtain ⟨g1, g2, g3⟩ := h1.fb rest.length (by omega)
  have hrow := h1.stk rest.length (by omega)
  have hloc := h1.loc rest.length (by omega)
  rw [e0] at g1 hrow hloc
  rw [hst] at hrow
  refine (popV w B _ 3 _ _ A.tag _ _ st v g1 rfl g2 (by rw [g3]; omega) hrow (by omega)).mono ?_
  rintro e w' ⟨rfl, sv', k1, k2, k3⟩
  have k4 : Ch B (Tk rest.length) A.tag A.tag w w' := k3.mono (fun d hd => by rw [g3] at hd; unfold Tk; omega)
  have hA : Aft (Tk rest.length) w w' B mb A { s with fr := { f with stk := st } :: rest } en := ⟨_, h1.top hs k4 k2 (hloc.keep k3 (by rw [g3]; omega)) k1, rfl, k4⟩
  refine ⟨rfl, Cur.aft hB h2 h3 h4 (fun _ => tk_n5) hA, ?_⟩
  rw [cell_heap k2, cell_heap g1]
  rfl

/-- A local is written. -/
theorem Cur.locset {w0 w : World} {B mb : Nat} {A0 : AdM} {s : Mc} {en : Int} {l : List (Nat × Array Value × TypeId)} (h : Cur w0 B mb A0 s en l w) {f : Fr} {rest : List Fr} (hs : s.fr = f :: rest) {i lb lcap : Nat} (hi : i < f.loc.length) (hc : w.cell? ⟨A0.FB rest.length, 2, none⟩ = some (.slice (some ⟨lb, 0, none⟩) f.loc.length lcap)) (v : V) :
    Cur w0 B mb A0 { s with fr := { f with loc := f.loc.set i v } :: rest } en l ((w.setCell ⟨lb, i * 2, none⟩ (.int .i64 v.k)).setCell ⟨lb, i * 2 + 1, none⟩ (.int .i64 v.n)) := by
  obtain ⟨hB, A, h1, h2, h3, h4⟩ := h
  have hfb : A.FB = A0.FB := by unfold AdM.FB; rw [h2]
  rw [← hfb] at hc
  have hlen : s.fr.length = rest.length + 1 := by rw [hs]; rfl
  have e0 : frAt s.fr rest.length = f := by rw [hs]; exact frAt_top _ _
  obtain ⟨g1, g2, g3⟩ := h1.fb rest.length (by omega)
  have hrow := h1.stk rest.length (by omega)
  have hloc := h1.loc rest.length (by omega)
  rw [e0] at g1 hrow hloc
  obtain ⟨lb', lcap', hlv, hlb, hlz, hlt, _⟩ := hloc.form (by omega)
  rw [cell_heap g1] at hc
  have e1 : (.slice (some ⟨lb', 0, none⟩) f.loc.length lcap' : Value) = .slice (some ⟨lb, 0, none⟩) f.loc.length lcap := by rw [← hlv]; exact Option.some.inj hc
  injection e1 with e1 _ e2
  injection e1 with e1
  injection e1 with e1 _
  subst e1
  have hch : Ch B (fun c => c = 11 + 4 * rest.length) A.tag A.tag w ((w.setCell ⟨lb', i * 2, none⟩ (.int .i64 v.k)).setCell ⟨lb', i * 2 + 1, none⟩ (.int .i64 v.n)) :=
    ((Ch.refl B _ A.tag w).setOld (a := ⟨lb', _, none⟩) hlb (fun _ => hlt) _).setOld (a := ⟨lb', _, none⟩) hlb (fun _ => hlt) _
  have k4 : Ch B (Tk rest.length) A.tag A.tag w ((w.setCell ⟨lb', i * 2, none⟩ (.int .i64 v.k)).setCell ⟨lb', i * 2 + 1, none⟩ (.int .i64 v.n)) := hch.mono (fun d hd => by unfold Tk; omega)
  have hl2 : Row ((w.setCell ⟨lb', i * 2, none⟩ (.int .i64 v.k)).setCell ⟨lb', i * 2 + 1, none⟩ (.int .i64 v.n)) B A.tag (11 + 4 * rest.length) 43 2 (A.LV rest.length) (f.loc.set i v).length (vcell (f.loc.set i v)) := by
    rw [List.length_set, hlv]
    rw [hlv] at hloc
    exact ((hloc.set (i * 2) _).set (i * 2 + 1) _).congr (fun c _ => vcell_set _ _ _ hi c)
  have hA : Aft (Tk rest.length) w ((w.setCell ⟨lb', i * 2, none⟩ (.int .i64 v.k)).setCell ⟨lb', i * 2 + 1, none⟩ (.int .i64 v.n)) B mb A { s with fr := { f with loc := f.loc.set i v } :: rest } en :=
    ⟨_, h1.top hs k4 ((hch.block _ (heap_lt g1) (Or.inr (by rw [g3]; omega))).trans g1) hl2 (hrow.keep hch (by omega)), rfl, k4⟩
  exact Cur.aft hB h2 h3 h4 (fun _ => tk_n5) hA

set_option maxRecDepth 100000 in
set_option maxHeartbeats 1000000 in
theorem str_load (w : World) (B mb : Nat) (A : AdM) (s : Mc) (en : Int) (f : Fr) (rest : List Fr) (i : Nat) (hi : i < f.loc.length)  (hL : LayM w B mb A s en) (hs : s.fr = f :: rest) (hB : B ≤ w.heap.size) (hn : f.stk.length ≤ 60) :
    Calls Tryz.prog 121 #[.pointer (some ⟨mb, 0, none⟩), .pointer (some ⟨A.FB rest.length, 0, none⟩), .agg #[.int .i64 2, .int .i64 i]] w (StrE w B mb A s en rest (execP 2 i f s.arr s.out)) := by
  have H0 := hid ((Cur.start hL hB).box #[.int .i64 2, .int .i64 i] 33)
  generalize hfb : A.FB rest.length = fb
  have HF := hid hfb
  have hx : execP 2 i f s.arr s.out = ({ f with stk := f.loc.getD i vnil :: f.stk }, s.arr, s.out, 0) := by
    unfold execP
    simp
  rw [hx]
  obtain ⟨lb, lcap, k0, k1, k2, _, _, _⟩ := H0.out.drew.loc hs hi
  have KL := hid (And.intro k0 (And.intro k1 k2))
  have HI := hid hi
  clear hL hfb hx k0 k1 k2
  go_enter Tryz.func121, Tryz.ntmps121
  go_wp2_with fail
  generalize w.alloc (.cells #[.int .i64 2, .int .i64 i] 33) = W at *
  have H1 := hid H0.out.drew
  rw [HF.out] at KL
  have hi0 : (0 : Int) ≤ (i : Int) := by omega
  have hi1 : (i : Int) < (f.loc.length : Int) := by omega
  clear H0 hi
  refine region_lex (fun w' => Hb [(w.heap.size, #[Value.int .i64 2, Value.int .i64 i], 33)] w' ∧ w'.cell? ⟨fb, 2, none⟩ = some (.slice (some ⟨lb, 0, none⟩) f.loc.length lcap) ∧ w'.cell? ⟨lb, i * 2, none⟩ = some (.int .i64 (f.loc.getD i vnil).k) ∧ w'.cell? ⟨lb, i * 2 + 1, none⟩ = some (.int .i64 (f.loc.getD i vnil).n)) [(false, 0), (false, 1), (false, 2), (false, 3), (false, 4), (false, 5), (false, 6), (false, 7), (false, 8), (false, 9), (false, 10), (true, 11)] (by kernel_rfl) (by kernel_rfl) (panic_block _ _ _) ⟨H1.out.hb, KL.out⟩ ?_
  simp only [lexL, List.getElem?_cons_zero, List.getElem?_cons_succ]
  generalize hll : f.loc.length = ll at *
  have HLL := hid hll
  clear hll
  generalize hlv : f.loc.getD i vnil = lv at *
  have HLV := hid hlv
  clear hlv
  iterate 11 (refine lexW_free (by rfl) (by intro w' hS'; obtain ⟨hb, y0, y1, y2⟩ := hS'; obtain ⟨u0, u1, _, _⟩ := hb.two List.mem_cons_self; clear hb; go_simp; exact rfl) ?_; simp only [Act.put, List.setIfInBounds_toArray, List.set_cons_zero, List.set_cons_succ])
  generalize W.drew = w1 at H1 KL ⊢
  refine lexW_sole (fun K hK => ?_)
  go_simp
  have hp := H1.out.pushL hs (by omega) lv
  rw [HF.out] at hp
  refine hp.mono ?_
  rintro e w3 ⟨rfl, c3, k3⟩
  obtain ⟨q0, q1⟩ := k3 lb lcap (by rw [HLL.out]; have := HI.out; omega) (by rw [HLL.out]; exact KL.out.1)
  rw [HLL.out] at q0
  refine hK.out _ _ ⟨c3.hb, q0, (q1 _).trans KL.out.2.1, (q1 _).trans KL.out.2.2⟩ ?_
  have HQ := hid (StrE.ok c3.done)
  clear hK K c3 hp k3 q0 q1
  refine lexW_done ?_
  go_wp2
  go_end0
  exact HQ.out

set_option maxRecDepth 100000 in
set_option maxHeartbeats 1000000 in
theorem str_store (w : World) (B mb : Nat) (A : AdM) (s : Mc) (en : Int) (f : Fr) (rest : List Fr) (i : Nat) (hi : i < f.loc.length) (v : V) (st : List V) (hst : f.stk = v :: st) (hL : LayM w B mb A s en) (hs : s.fr = f :: rest) (hB : B ≤ w.heap.size) (hn : st.length ≤ 60) :
    Calls Tryz.prog 121 #[.pointer (some ⟨mb, 0, none⟩), .pointer (some ⟨A.FB rest.length, 0, none⟩), .agg #[.int .i64 3, .int .i64 i]] w (StrE w B mb A s en rest (execP 3 i f s.arr s.out)) := by
  have H0 := hid ((Cur.start hL hB).box #[.int .i64 3, .int .i64 i] 33)
  generalize hfb : A.FB rest.length = fb
  have HF := hid hfb
  have hx : execP 3 i f s.arr s.out = ({ f with stk := st, loc := f.loc.set i v }, s.arr, s.out, 0) := by
    unfold execP
    simp [hst]
  rw [hx]
  obtain ⟨lb, lcap, k0, _, _, _, _, kne⟩ := H0.out.drew.loc hs hi
  have KL := hid k0
  have HI := hid hi
  rw [hfb] at kne
  clear hL hfb hx k0
  go_enter Tryz.func121, Tryz.ntmps121
  go_wp2_with fail
  generalize w.alloc (.cells #[.int .i64 3, .int .i64 i] 33) = W at *
  have H1 := hid H0.out.drew
  rw [HF.out] at KL
  have hi0 : (0 : Int) ≤ (i : Int) := by omega
  have hi1 : (i : Int) < (f.loc.length : Int) := by omega
  clear H0 hi
  refine region_lex (fun w' => Hb [(w.heap.size, #[Value.int .i64 3, Value.int .i64 i], 33)] w' ∧ w'.cell? ⟨fb, 2, none⟩ = some (.slice (some ⟨lb, 0, none⟩) f.loc.length lcap)) [(false, 0), (false, 1), (false, 2), (false, 3), (false, 4), (false, 5), (false, 6), (false, 7), (false, 8), (true, 9), (true, 10), (true, 11)] (by kernel_rfl) (by kernel_rfl) (panic_block _ _ _) ⟨H1.out.hb, KL.out⟩ ?_
  simp only [lexL, List.getElem?_cons_zero, List.getElem?_cons_succ]
  generalize hll : f.loc.length = ll at *
  have HLL := hid hll
  clear hll
  iterate 9 (refine lexW_free (by rfl) (by intro w' hS'; obtain ⟨hb, y0⟩ := hS'; obtain ⟨u0, u1, _, _⟩ := hb.two List.mem_cons_self; clear hb; go_simp; exact rfl) ?_; simp only [Act.put, List.setIfInBounds_toArray, List.set_cons_zero, List.set_cons_succ])
  generalize W.drew = w1 at H1 KL ⊢
  refine lexW_sole (fun K hK => ?_)
  go_simp
  have hp := H1.out.popL hs hst (by omega)
  rw [HF.out] at hp
  refine hp.mono ?_
  rintro e w3 ⟨rfl, c3, k3⟩
  have H3 := hid c3
  have K3 := hid (k3.trans KL.out)
  refine hK.out _ _ ⟨c3.hb, K3.out⟩ ?_
  clear hK K c3 hp k3 hst
  refine lexW_sole (fun K hK => ?_)
  go_simp
  refine hK.out _ _ ⟨H3.out.hb, K3.out⟩ ?_
  clear hK K
  obtain ⟨lb2, lcap2, k0, k1, k2, f1, f2, _⟩ := H3.out.loc rfl (i := i) (by show i < f.loc.length; rw [HLL.out]; exact HI.out)
  rw [HF.out] at k0
  have e1 := k0.symm.trans K3.out
  have e2 : lb2 = lb := by
    injection e1 with e1
    injection e1 with e1
    injection e1 with e1
    injection e1 with e1
  subst e2
  have H4 := hid (H3.out.locset rfl (i := i) (lb := lb2) (lcap := lcap) (by show i < f.loc.length; rw [HLL.out]; exact HI.out) (by rw [HF.out]; show _ = some (Value.slice _ f.loc.length lcap); rw [HLL.out]; exact K3.out) v)
  clear e1 k0
  refine lexW_sole (fun K hK => ?_)
  go_simp
  refine hK.out _ _ ⟨H4.out.hb, ?_⟩ ?_
  · rw [World.cell?_setCell_far _ _ _ _ kne, World.cell?_setCell_far _ _ _ _ kne]
    exact K3.out
  have HQ := hid (StrE.ok H4.out.done)
  clear hK K
  refine lexW_done ?_
  go_wp2
  go_end0
  exact HQ.out

end Go.Proofs.YtkafkipjedpohaaGreatDoor

/-
  The project's machine: straight, of any instruction that goes on to the next; count, pass, turns.
-/
namespace Go.Proofs.YtkafkipjedpohaaGreatDoor
open Go.RowKit

theorem str_any (w : World) (B mb : Nat) (A : AdM) (s : Mc) (en : Int) (f : Fr) (rest : List Fr) (op a : Int) (m : Nat) (locals n : Int) (hl : legalP op a locals n m = true) (h10 : op ≠ 10) (h11 : op ≠ 11) (h13 : op ≠ 13) (h14 : op ≠ 14)
    (hp : popsP op a ≤ f.stk.length) (hok : AllOk m s.arr.length f.stk) (hloc : (f.loc.length : Int) = locals) (hh : f.stk.length ≤ 40) (hL : LayM w B mb A s en) (hs : s.fr = f :: rest) (hB : B ≤ w.heap.size) (ho : s.out.length ≤ 100000) (hm : s.arr.length ≤ 150000) (hc : cellsP s.arr ≤ 200) :
    Calls Tryz.prog 121 #[.pointer (some ⟨mb, 0, none⟩), .pointer (some ⟨A.FB rest.length, 0, none⟩), .agg #[.int .i64 op, .int .i64 a]] w (StrE w B mb A s en rest (execP op a f s.arr s.out)) := by
  have hr := legal_range hl
  by_cases e : op = 0
  · subst e
    exact str_const w B mb A s en f rest a hL hs hB (by omega)
  by_cases e : op = 1
  · subst e
    exact str_nil w B mb A s en f rest a hL hs hB (by omega)
  by_cases e : op = 12
  · subst e
    exact str_fun w B mb A s en f rest a hL hs hB (by omega)
  by_cases e : op = 2
  · subst e
    have hf : 0 ≤ a ∧ a < locals := by simpa [legalP] using hl
    have h := str_load w B mb A s en f rest a.toNat (by omega) hL hs hB (by omega)
    rw [show ((a.toNat : Nat) : Int) = a by omega] at h
    exact h
  have hp1 : 1 ≤ f.stk.length := by
    have : 1 ≤ popsP op a := by unfold popsP popsT; rw [if_neg h13, if_neg (by omega)]; split <;> (try split) <;> omega
    omega
  obtain ⟨x, r, hst⟩ : ∃ x r, f.stk = x :: r := by
    cases hc : f.stk with
    | nil => rw [hc] at hp1; simp at hp1
    | cons x r => exact ⟨x, r, rfl⟩
  have hlr : r.length + 1 = f.stk.length := by rw [hst]; rfl
  by_cases e : op = 3
  · subst e
    have hf : 0 ≤ a ∧ a < locals := by simpa [legalP] using hl
    have h := str_store w B mb A s en f rest a.toNat (by omega) x r hst hL hs hB (by omega)
    rw [show ((a.toNat : Nat) : Int) = a by omega] at h
    exact h
  have hxk : x.k = 2 → 0 ≤ x.n ∧ x.n < s.arr.length := (hok x (by rw [hst]; exact List.mem_cons_self)).1
  by_cases e : op = 19
  · subst e
    exact str_print w B mb A s en f rest a x r hst hL hs hB (by omega) ho
  by_cases e : op = 20
  · subst e
    exact str_pop w B mb A s en f rest a x r hst hL hs hB (by omega)
  by_cases e : op = 21
  · subst e
    exact str_dup w B mb A s en f rest a x r hst hL hs hB (by omega)
  by_cases e : op = 15
  · subst e
    exact str_new w B mb A s en f rest a x r hst hL hs hB (by omega) hm hc
  by_cases e : op = 18
  · subst e
    exact str_len w B mb A s en f rest a x r hst hxk hL hs hB (by omega)
  have hp2 : 2 ≤ f.stk.length := by
    have : 2 ≤ popsP op a := by unfold popsP popsT; rw [if_neg h13, if_neg (by omega)]; split <;> (try split) <;> omega
    omega
  obtain ⟨y, q, hst2⟩ : ∃ y q, r = y :: q := by
    cases hc : r with
    | nil => rw [hc] at hlr; simp at hlr; omega
    | cons x r => exact ⟨x, r, rfl⟩
  subst hst2
  have hlq : q.length + 1 = (y :: q).length := rfl
  have hyk : y.k = 2 → 0 ≤ y.n ∧ y.n < s.arr.length := (hok y (by rw [hst]; simp)).1
  by_cases e : op = 16
  · subst e
    exact str_get w B mb A s en f rest a x y q hst hyk hL hs hB (by omega)
  by_cases e : op = 9
  · subst e
    exact str_equal w B mb A s en f rest a x y q hst hL hs hB (by omega)
  by_cases e : op = 17
  · subst e
    have hp3 : 3 ≤ f.stk.length := by
      have : 3 ≤ popsP 17 a := by simp [popsP, popsT]
      omega
    obtain ⟨z, p, hst3⟩ : ∃ z p, q = z :: p := by
      cases hc : q with
      | nil => rw [hc] at hlq hlr; simp at hlr; omega
      | cons x r => exact ⟨x, r, rfl⟩
    subst hst3
    have hzk : z.k = 2 → 0 ≤ z.n ∧ z.n < s.arr.length := (hok z (by rw [hst]; simp)).1
    exact str_set w B mb A s en f rest a x y z p hst hzk hL hs hB (by simp at hlr; omega)
  exact str_reckon w B mb A s en f rest a op (by omega) x y q hst hL hs hB (by omega)

theorem turnsM (op : Int) (w : World) : Calls Tryz.prog 119 #[.int .i64 op] w fun e w' => e = .returned (.bool (decide (op = 10 ∨ op = 11 ∨ op = 13 ∨ op = 14))) ∧ w' = w := by
  by_cases e : op = 10
  · subst e
    go_enter Tryz.func119, Tryz.ntmps119
    go_wp2
    go_ret
    exact ⟨rfl, rfl⟩
  by_cases e : op = 11
  · subst e
    go_enter Tryz.func119, Tryz.ntmps119
    go_wp2
    go_ret
    exact ⟨rfl, rfl⟩
  by_cases e : op = 13
  · subst e
    go_enter Tryz.func119, Tryz.ntmps119
    go_wp2
    go_ret
    exact ⟨rfl, rfl⟩
  by_cases e : op = 14
  · subst e
    go_enter Tryz.func119, Tryz.ntmps119
    go_wp2
    go_ret
    exact ⟨rfl, rfl⟩
  have h : decide (op = 10 ∨ op = 11 ∨ op = 13 ∨ op = 14) = false := by simp; omega
  rw [h]
  have o1 : (op == 10) = false := by simp; omega
  have o2 : (op == 11) = false := by simp; omega
  have o3 : (op == 13) = false := by simp; omega
  have o4 : (op == 14) = false := by simp; omega
  clear h
  go_enter Tryz.func119, Tryz.ntmps119
  go_wp2
  go_ret
  exact ⟨rfl, rfl⟩
end Go.Proofs.YtkafkipjedpohaaGreatDoor
