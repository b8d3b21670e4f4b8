import Derived.Test.YtkafkipjedpohaaGreatDoorM7
import Derived.Test.YtkafkipjedpohaaGreatDoorM2
import Derived.Test.YtkafkipjedpohaaGreatDoorA5

/-
  The project's machine: straight: Const, Nil, Fun, Load, Pop, Equal, Len, Dup.
-/
namespace Go.Proofs.YtkafkipjedpohaaGreatDoor
open Go.RowKit

/-- What straight leaves: of the frame at hand, the arrays, what was printed; or a trap. -/
def StrE (w : World) (B mb : Nat) (A : AdM) (s : Mc) (en : Int) (rest : List Fr) (x : Fr × List (List V) × List V × Int) (e : Ending) (w' : World) : Prop :=
  ((x.2.2.2 = 0 ∧ e = .returned (.tuple #[])) ∨ (x.2.2.2 ≠ 0 ∧ e = trapE x.2.2.2)) ∧ Aft N5 w w' B mb A { s with fr := x.1 :: rest, arr := x.2.1, out := x.2.2.1 } en
theorem StrE.ok {w : World} {B mb : Nat} {A : AdM} {s : Mc} {en : Int} {rest : List Fr} {f' : Fr} {arr : List (List V)} {out : List V} {w' : World} (h : Aft N5 w w' B mb A { s with fr := f' :: rest, arr := arr, out := out } en) : StrE w B mb A s en rest (f', arr, out, 0) (.returned (.tuple #[])) w' :=
  ⟨Or.inl ⟨rfl, rfl⟩, h⟩
theorem StrE.trap {w : World} {B mb : Nat} {A : AdM} {s : Mc} {en : Int} {rest : List Fr} {f' : Fr} {arr : List (List V)} {out : List V} {t : Int} {w' : World} (ht : t ≠ 0) (h : Aft N5 w w' B mb A { s with fr := f' :: rest, arr := arr, out := out } en) : StrE w B mb A s en rest (f', arr, out, t) (trapE t) w' :=
  ⟨Or.inr ⟨ht, rfl⟩, h⟩

theorem functionB (n : Int) (w : World) : Calls Tryz.prog 134 #[.int .i64 n] w fun e w' => e = .returned (.agg #[.int .i64 3, .int .i64 n]) ∧ Below w.heap.size w w' := by
  refine (functionM n w).mono ?_
  rintro e w' ⟨h, rfl⟩
  exact ⟨h, (Below.refl _ _).alloc (Nat.le_refl _) _⟩

set_option maxRecDepth 100000 in
set_option maxHeartbeats 1000000 in
theorem str_const (w : World) (B mb : Nat) (A : AdM) (s : Mc) (en : Int) (f : Fr) (rest : List Fr) (n : Int) (hL : LayM w B mb A s en) (hs : s.fr = f :: rest) (hB : B ≤ w.heap.size) (hn : f.stk.length ≤ 60) :
    Calls Tryz.prog 121 #[.pointer (some ⟨mb, 0, none⟩), .pointer (some ⟨A.FB rest.length, 0, none⟩), .agg #[.int .i64 0, .int .i64 n]] w (StrE w B mb A s en rest (execP 0 n f s.arr s.out)) := by
  have H0 := hid ((Cur.start hL hB).box #[.int .i64 0, .int .i64 n] 33)
  generalize hfb : A.FB rest.length = fb
  have HF := hid hfb
  clear hL hfb
  go_enter Tryz.func121, Tryz.ntmps121
  go_wp2_with fail
  generalize w.alloc (.cells #[.int .i64 0, .int .i64 n] 33) = W at *
  have H1 := hid H0.out.drew
  clear H0
  refine region_lex (Hb [(w.heap.size, #[Value.int .i64 0, Value.int .i64 n], 33)]) [(false, 0), (false, 1), (false, 2), (false, 3), (false, 4), (true, 5), (true, 6)] (by kernel_rfl) (by kernel_rfl) (panic_block _ _ _) H1.out.hb ?_
  simp only [lexL, List.getElem?_cons_zero, List.getElem?_cons_succ]
  iterate 5 (refine lexW_free (by rfl) (by intro w' hS'; obtain ⟨y0, y1, _, _⟩ := hS'.two List.mem_cons_self; clear hS'; go_simp; exact rfl) ?_; simp only [Act.put, List.setIfInBounds_toArray, List.set_cons_zero, List.set_cons_succ])
  generalize W.drew = w1 at H1 ⊢
  refine lexW_sole (fun K hK => ?_)
  go_simp
  refine (numberB _ _).mono ?_
  rintro e w2 ⟨rfl, k2⟩
  have H2 := hid (H1.out.below k2)
  refine hK.out _ _ H2.out.hb ?_
  clear hK K H1 k2
  refine lexW_sole (fun K hK => ?_)
  go_simp
  have hp := H2.out.push hs (by omega) (vnum n)
  rw [HF.out] at hp
  refine hp.mono ?_
  rintro e w3 ⟨rfl, c3⟩
  refine hK.out _ _ c3.hb ?_
  have HQ := hid (StrE.ok c3.done)
  clear hK K c3 hp
  refine lexW_done ?_
  go_wp2
  go_end0
  exact HQ.out
set_option maxRecDepth 100000 in
set_option maxHeartbeats 1000000 in
theorem str_fun (w : World) (B mb : Nat) (A : AdM) (s : Mc) (en : Int) (f : Fr) (rest : List Fr) (n : Int) (hL : LayM w B mb A s en) (hs : s.fr = f :: rest) (hB : B ≤ w.heap.size) (hn : f.stk.length ≤ 60) :
    Calls Tryz.prog 121 #[.pointer (some ⟨mb, 0, none⟩), .pointer (some ⟨A.FB rest.length, 0, none⟩), .agg #[.int .i64 12, .int .i64 n]] w (StrE w B mb A s en rest (execP 12 n f s.arr s.out)) := by
  have H0 := hid ((Cur.start hL hB).box #[.int .i64 12, .int .i64 n] 33)
  generalize hfb : A.FB rest.length = fb
  have HF := hid hfb
  clear hL hfb
  go_enter Tryz.func121, Tryz.ntmps121
  go_wp2_with fail
  generalize w.alloc (.cells #[.int .i64 12, .int .i64 n] 33) = W at *
  have H1 := hid H0.out.drew
  clear H0
  refine region_lex (Hb [(w.heap.size, #[Value.int .i64 12, Value.int .i64 n], 33)]) [(false, 0), (false, 1), (false, 2), (false, 3), (false, 4), (true, 5), (true, 6)] (by kernel_rfl) (by kernel_rfl) (panic_block _ _ _) H1.out.hb ?_
  simp only [lexL, List.getElem?_cons_zero, List.getElem?_cons_succ]
  iterate 5 (refine lexW_free (by rfl) (by intro w' hS'; obtain ⟨y0, y1, _, _⟩ := hS'.two List.mem_cons_self; clear hS'; go_simp; exact rfl) ?_; simp only [Act.put, List.setIfInBounds_toArray, List.set_cons_zero, List.set_cons_succ])
  generalize W.drew = w1 at H1 ⊢
  refine lexW_sole (fun K hK => ?_)
  go_simp
  refine (functionB _ _).mono ?_
  rintro e w2 ⟨rfl, k2⟩
  have H2 := hid (H1.out.below k2)
  refine hK.out _ _ H2.out.hb ?_
  clear hK K H1 k2
  refine lexW_sole (fun K hK => ?_)
  go_simp
  have hp := H2.out.push hs (by omega) ⟨3, n⟩
  rw [HF.out] at hp
  refine hp.mono ?_
  rintro e w3 ⟨rfl, c3⟩
  refine hK.out _ _ c3.hb ?_
  have HQ := hid (StrE.ok c3.done)
  clear hK K c3 hp
  refine lexW_done ?_
  go_wp2
  go_end0
  exact HQ.out
set_option maxRecDepth 100000 in
set_option maxHeartbeats 1000000 in
theorem str_nil (w : World) (B mb : Nat) (A : AdM) (s : Mc) (en : Int) (f : Fr) (rest : List Fr) (n : Int)  (hL : LayM w B mb A s en) (hs : s.fr = f :: rest) (hB : B ≤ w.heap.size) (hn : f.stk.length ≤ 60) :
    Calls Tryz.prog 121 #[.pointer (some ⟨mb, 0, none⟩), .pointer (some ⟨A.FB rest.length, 0, none⟩), .agg #[.int .i64 1, .int .i64 n]] w (StrE w B mb A s en rest (execP 1 n f s.arr s.out)) := by
  have H0 := hid ((Cur.start hL hB).box #[.int .i64 1, .int .i64 n] 33)
  generalize hfb : A.FB rest.length = fb
  have HF := hid hfb
  clear hL hfb
  go_enter Tryz.func121, Tryz.ntmps121
  go_wp2_with fail
  have hp := H0.out.push hs (by omega) vnil
  rw [HF.out] at hp
  refine hp.mono ?_
  rintro e w3 ⟨rfl, c3⟩
  have HQ := hid (StrE.ok c3.done)
  clear c3 hp
  go_wp2
  go_end0
  exact HQ.out

set_option maxRecDepth 100000 in
set_option maxHeartbeats 1000000 in
theorem str_pop (w : World) (B mb : Nat) (A : AdM) (s : Mc) (en : Int) (f : Fr) (rest : List Fr) (n : Int) (v : V) (st : List V) (hst : f.stk = v :: st) (hL : LayM w B mb A s en) (hs : s.fr = f :: rest) (hB : B ≤ w.heap.size) (hn : st.length ≤ 60) :
    Calls Tryz.prog 121 #[.pointer (some ⟨mb, 0, none⟩), .pointer (some ⟨A.FB rest.length, 0, none⟩), .agg #[.int .i64 20, .int .i64 n]] w (StrE w B mb A s en rest (execP 20 n f s.arr s.out)) := by
  have H0 := hid ((Cur.start hL hB).box #[.int .i64 20, .int .i64 n] 33)
  generalize hfb : A.FB rest.length = fb
  have HF := hid hfb
  have hx : execP 20 n f s.arr s.out = ({ f with stk := st }, s.arr, s.out, 0) := by unfold execP; simp [hst]
  rw [hx]
  clear hL hfb hx
  go_enter Tryz.func121, Tryz.ntmps121
  go_wp2_with fail
  have hp := H0.out.pop hs hst (by omega)
  rw [HF.out] at hp
  refine hp.mono ?_
  rintro e w3 ⟨rfl, c3⟩
  have HQ := hid (StrE.ok c3.done)
  clear c3 hp
  go_wp2
  go_end0
  exact HQ.out

set_option maxRecDepth 100000 in
set_option maxHeartbeats 1000000 in
theorem str_equal (w : World) (B mb : Nat) (A : AdM) (s : Mc) (en : Int) (f : Fr) (rest : List Fr) (n : Int) (b a : V) (st : List V) (hst : f.stk = b :: a :: st) (hL : LayM w B mb A s en) (hs : s.fr = f :: rest) (hB : B ≤ w.heap.size) (hn : st.length ≤ 60) :
    Calls Tryz.prog 121 #[.pointer (some ⟨mb, 0, none⟩), .pointer (some ⟨A.FB rest.length, 0, none⟩), .agg #[.int .i64 9, .int .i64 n]] w (StrE w B mb A s en rest (execP 9 n f s.arr s.out)) := by
  have H0 := hid ((Cur.start hL hB).box #[.int .i64 9, .int .i64 n] 33)
  generalize hfb : A.FB rest.length = fb
  have HF := hid hfb
  have hx : execP 9 n f s.arr s.out = ({ f with stk := (twoP 9 a b).1 :: st }, s.arr, s.out, 0) := by
    have h2 : (twoP 9 a b).2 = 0 := by unfold twoP; rw [if_pos rfl]
    unfold execP
    simp [hst, h2]
  rw [hx]
  clear hL hfb hx
  go_enter Tryz.func121, Tryz.ntmps121
  go_wp2_with fail
  generalize w.alloc (.cells #[.int .i64 9, .int .i64 n] 33) = W at *
  have hp := H0.out.popTwo H0.out.lt hs hst hn
  rw [HF.out] at hp
  refine hp.mono ?_
  rintro e w2 ⟨rfl, c2⟩
  have H2 := hid (cur_two c2 #[.int .i64 a.k, .int .i64 a.n] #[.int .i64 b.k, .int .i64 b.n] 43)
  clear c2 hp H0 hst
  go_wp2_with fail
  generalize (w2.alloc (.cells #[.int .i64 a.k, .int .i64 a.n] 43)).alloc (.cells #[.int .i64 b.k, .int .i64 b.n] 43) = W2 at *
  have H3 := hid H2.out.drew
  clear H2
  refine region_lex (Hb [(w2.heap.size + 1, #[Value.int .i64 b.k, Value.int .i64 b.n], 43), (w2.heap.size, #[Value.int .i64 a.k, Value.int .i64 a.n], 43), (w.heap.size, #[Value.int .i64 9, Value.int .i64 n], 33)]) [(false, 0), (false, 1), (false, 2), (false, 3), (false, 4), (true, 5), (true, 6)] (by kernel_rfl) (by kernel_rfl) (panic_block _ _ _) H3.out.hb ?_
  simp only [lexL, List.getElem?_cons_zero, List.getElem?_cons_succ]
  iterate 5 (refine lexW_free (by rfl) (by intro w' hS'; obtain ⟨y0, y1, _, _⟩ := hS'.two List.mem_cons_self; obtain ⟨u0, u1, _, _⟩ := hS'.two (List.mem_cons_of_mem _ List.mem_cons_self); obtain ⟨v0, v1, _, _⟩ := hS'.two (List.mem_cons_of_mem _ (List.mem_cons_of_mem _ List.mem_cons_self)); clear hS'; go_simp; exact rfl) ?_; simp only [Act.put, List.setIfInBounds_toArray, List.set_cons_zero, List.set_cons_succ])
  generalize W2.drew = w3 at H3 ⊢
  refine lexW_sole (fun K hK => ?_)
  go_simp
  refine (equalB a b _).mono ?_
  rintro e w4 ⟨rfl, k4⟩
  have H4 := hid (H3.out.below k4)
  refine hK.out _ _ H4.out.hb ?_
  clear hK K H3 k4
  refine lexW_sole (fun K hK => ?_)
  go_simp
  have hp := H4.out.push rfl (by show st.length ≤ 64; omega) (twoP 9 a b).1
  rw [HF.out] at hp
  refine hp.mono ?_
  rintro e w5 ⟨rfl, c5⟩
  refine hK.out _ _ c5.hb ?_
  have HQ := hid (StrE.ok c5.done)
  clear hK K c5 hp
  refine lexW_done ?_
  go_wp2
  go_end0
  exact HQ.out

set_option maxRecDepth 100000 in
set_option maxHeartbeats 1000000 in
theorem str_reckon (w : World) (B mb : Nat) (A : AdM) (s : Mc) (en : Int) (f : Fr) (rest : List Fr) (n : Int) (op : Int) (hop : op = 4 ∨ op = 5 ∨ op = 6 ∨ op = 7 ∨ op = 8) (b a : V) (st : List V) (hst : f.stk = b :: a :: st) (hL : LayM w B mb A s en) (hs : s.fr = f :: rest) (hB : B ≤ w.heap.size) (hn : st.length ≤ 60) :
    Calls Tryz.prog 121 #[.pointer (some ⟨mb, 0, none⟩), .pointer (some ⟨A.FB rest.length, 0, none⟩), .agg #[.int .i64 op, .int .i64 n]] w (StrE w B mb A s en rest (execP op n f s.arr s.out)) := by
  have H0 := hid ((Cur.start hL hB).box #[.int .i64 op, .int .i64 n] 33)
  generalize hfb : A.FB rest.length = fb
  have HF := hid hfb
  have hx : execP op n f s.arr s.out = if (twoP op a b).2 = 0 then ({ f with stk := (twoP op a b).1 :: st }, s.arr, s.out, 0) else ({ f with stk := st }, s.arr, s.out, (twoP op a b).2) := by
    unfold execP
    rcases hop with rfl | rfl | rfl | rfl | rfl <;> simp [hst]
  generalize execP op n f s.arr s.out = xx at hx ⊢
  have HX := hid hx
  have HO := hid hop
  have ho : ((op == 0) = false ∧ (op == 1) = false ∧ (op == 12) = false ∧ (op == 2) = false ∧ (op == 3) = false) ∧ ((op == 4) = true ∨ ((op == 4) = false ∧ (op == 5) = true) ∨ ((op == 4) = false ∧ (op == 5) = false ∧ (op == 6) = true) ∨ ((op == 4) = false ∧ (op == 5) = false ∧ (op == 6) = false ∧ (op == 7) = true) ∨ ((op == 4) = false ∧ (op == 5) = false ∧ (op == 6) = false ∧ (op == 7) = false ∧ (op == 8) = true)) := by
    rcases hop with rfl | rfl | rfl | rfl | rfl <;> decide
  have HO2 := hid ho
  clear hL hfb hx hop ho
  obtain ⟨⟨o0, o1, o2, o3, o4⟩, o5⟩ := HO2.out
  go_enter Tryz.func121, Tryz.ntmps121
  rcases o5 with o5 | ⟨o5, o6⟩ | ⟨o5, o6, o7⟩ | ⟨o5, o6, o7, o8⟩ | ⟨o5, o6, o7, o8, o9⟩
  all_goals
    go_wp2_with fail
    generalize w.alloc (.cells #[.int .i64 op, .int .i64 n] 33) = W at *
    have hp := H0.out.popTwo H0.out.lt hs hst hn
    rw [HF.out] at hp
    refine hp.mono ?_
    rintro e w2 ⟨rfl, c2⟩
    have H2 := hid (cur_two c2 #[.int .i64 a.k, .int .i64 a.n] #[.int .i64 b.k, .int .i64 b.n] 43)
    clear c2 hp H0 hst
    go_wp2_with fail
    generalize (w2.alloc (.cells #[.int .i64 a.k, .int .i64 a.n] 43)).alloc (.cells #[.int .i64 b.k, .int .i64 b.n] 43) = W2 at *
    have H3 := hid H2.out.drew
    clear H2
    refine region_lex (Hb [(w2.heap.size + 1, #[Value.int .i64 b.k, Value.int .i64 b.n], 43), (w2.heap.size, #[Value.int .i64 a.k, Value.int .i64 a.n], 43), (w.heap.size, #[Value.int .i64 op, Value.int .i64 n], 33)]) [(false, 0), (false, 1), (false, 2), (false, 3), (false, 4), (false, 6), (false, 7), (true, 5), (true, 8), (true, 9)] (by kernel_rfl) (by kernel_rfl) (panic_block _ _ _) H3.out.hb ?_
    simp only [lexL, List.getElem?_cons_zero, List.getElem?_cons_succ]
    iterate 7 (refine lexW_free (by rfl) (by intro w' hS'; obtain ⟨y0, y1, _, _⟩ := hS'.two List.mem_cons_self; obtain ⟨u0, u1, _, _⟩ := hS'.two (List.mem_cons_of_mem _ List.mem_cons_self); obtain ⟨v0, v1, _, _⟩ := hS'.two (List.mem_cons_of_mem _ (List.mem_cons_of_mem _ List.mem_cons_self)); clear hS'; go_simp; exact rfl) ?_; simp only [Act.put, List.setIfInBounds_toArray, List.set_cons_zero, List.set_cons_succ])
    generalize W2.drew = w3 at H3 ⊢
    refine lexW_sole (fun K hK => ?_)
    go_simp
    refine (ruleM op HO.out _).mono ?_
    rintro e w4 ⟨rfl, rfl⟩
    refine hK.out _ _ H3.out.hb ?_
    clear hK K
    refine lexW_sole (fun K hK => ?_)
    go_simp
    refine (reckonedA op HO.out a b _).mono ?_
    rintro e w4 ⟨⟨h2, rfl⟩ | ⟨h2, rfl⟩, k4⟩
    · have H4 := hid (H3.out.below k4)
      have HX2 := hid (HX.out.trans (if_pos h2))
      refine hK.out _ _ H4.out.hb ?_
      clear hK K H3 k4 h2
      refine lexW_sole (fun K hK => ?_)
      go_simp
      have hp := H4.out.push rfl (by show st.length ≤ 64; omega) (twoP op a b).1
      rw [HF.out] at hp
      refine hp.mono ?_
      rintro e w5 ⟨rfl, c5⟩
      refine hK.out _ _ c5.hb ?_
      have HQ := hid (StrE.ok c5.done)
      clear hK K c5 hp
      refine lexW_done ?_
      go_wp2
      go_end0
      rw [HX2.out]
      exact HQ.out
    · refine ⟨rfl, ?_⟩
      rw [HX.out.trans (if_neg h2)]
      exact StrE.trap h2 (H3.out.below k4).done

end Go.Proofs.YtkafkipjedpohaaGreatDoor

/-
  upshiftref's arrays: Get.
-/
namespace Go.Proofs.YtkafkipjedpohaaGreatDoor
open Go.RowKit

/-- A box of a value, behind a pop: what stands then. -/
structure Boxed (w W : World) (B rb bx : Nat) (A A' : Ad) (s : Mc) (x : V) : Prop where
  lay : LayA W B rb A' s
  pv : A'.pv = A.pv
  fv : A'.fv = A.fv
  ch : Ch B Five A.tag A'.tag w W
  box0 : W.cell? ⟨bx, 0, none⟩ = some (.int .i64 x.k)
  box1 : W.cell? ⟨bx, 1, none⟩ = some (.int .i64 x.n)
  tag : A'.tag bx = 5
  lt : bx < W.heap.size
  old : w.heap.size ≤ bx

end Go.Proofs.YtkafkipjedpohaaGreatDoor

/-
  upshiftref's arrays: Set.
-/
namespace Go.Proofs.YtkafkipjedpohaaGreatDoor
open Go.RowKit

theorem vcell_set (l : List V) (i : Nat) (v : V) (hi : i < l.length) (c : Nat) : upd (upd (vcell l) (i * 2) (.int .i64 v.k)) (i * 2 + 1) (.int .i64 v.n) c = vcell (l.set i v) c := by
  unfold upd vcell
  by_cases e1 : c = i * 2 + 1
  · rw [if_pos e1, if_neg (by omega), show c / 2 = i by omega]
    simp [List.getD_eq_getElem?_getD, hi]
  · rw [if_neg e1]
    by_cases e0 : c = i * 2
    · rw [if_pos e0, if_pos (by omega), show c / 2 = i by omega]
      simp [List.getD_eq_getElem?_getD, hi]
    · rw [if_neg e0]
      have hne : i ≠ c / 2 := by omega
      simp [List.getD_eq_getElem?_getD, List.getElem?_set_ne hne]

theorem getD_set_same (arr : List (List V)) (j : Nat) (l : List V) (hj : j < arr.length) : (arr.set j l).getD j [] = l := by
  simp [List.getD_eq_getElem?_getD, hj]
theorem getD_set_other (arr : List (List V)) (i j : Nat) (l : List V) (h : j ≠ i) : (arr.set i l).getD j [] = arr.getD j [] := by
  simp [List.getD_eq_getElem?_getD, List.getElem?_set_ne (Ne.symm h)]

end Go.Proofs.YtkafkipjedpohaaGreatDoor

/-
  upshiftref's arrays: New.
-/
namespace Go.Proofs.YtkafkipjedpohaaGreatDoor
open Go.RowKit

theorem Tryz.info44 : (Tryz.prog.info? 44).map (fun i => (i.zero, i.size, i.bytes)) = some (some (.slice none 0 0), 1, 24) := by kernel_rfl

theorem grew_cell2 {W w1 : World} {o o' : Obj} {row : Option Nat} (hg : ((W.drew.alloc o).alloc o').grownBy w1 row) {a : Addr} (ha : a.block < W.heap.size) (hne : some a.block ≠ row) : w1.cell? a = W.cell? a := by
  have h1 : w1.heap[a.block]? = ((W.drew.alloc o).alloc o').heap[a.block]? := hg.block a.block (by show a.block < ((W.heap.push o).push o').size; simp; omega) hne
  have h2 : ((W.drew.alloc o).alloc o').heap[a.block]? = W.heap[a.block]? := (((Below.refl W.heap.size W).drew.alloc (Nat.le_refl _) o).alloc (by simp) o').block a.block ha
  exact World.cell?_of_block (h1.trans h2)
theorem grew_frozen2 {W w1 : World} {o o' : Obj} {row : Option Nat} (hg : ((W.drew.alloc o).alloc o').grownBy w1 row) {a : Addr} (ha : a.block < W.heap.size) (hne : some a.block ≠ row) : w1.frozen? a = W.frozen? a := by
  have h1 : w1.heap[a.block]? = ((W.drew.alloc o).alloc o').heap[a.block]? := hg.block a.block (by show a.block < ((W.heap.push o).push o').size; simp; omega) hne
  have h2 : ((W.drew.alloc o).alloc o').heap[a.block]? = W.heap[a.block]? := (((Below.refl W.heap.size W).drew.alloc (Nat.le_refl _) o).alloc (by simp) o').block a.block ha
  exact World.frozen?_of_block (h1.trans h2)

def vArr (n : Nat) : Array Value := madeCells #[.int .i64 0, .int .i64 0] (n * 2)
theorem make_vals (n : Int) (h0 : 0 ≤ n) (hn : n ≤ 1000) (wx : World) : (Instr.makeSlice 44 (.int .i64 n) (.int .i64 n)).run Tryz.prog wx = .ok (.slice (some ⟨wx.heap.size, 0, none⟩) n.toNat n.toNat) (wx.alloc (.cells (vArr n.toNat) 43)) := by
  have h := run_make_rows (P := Tryz.prog) 44 43 _ _ 2 16 Tryz.underlying44 Tryz.info43 rfl .i64 .i64 n.toNat (by omega) (by omega) wx
  rw [show ((n.toNat : Nat) : Int) = n by omega] at h
  exact h
theorem vArr_row {B : Nat} {tag : Nat → Nat} {c : Nat} (w : World) (n : Nat) (hB : B ≤ w.heap.size) (hn : n ≤ maxLen) (ht : tag w.heap.size = c) : Row (w.alloc (.cells (vArr n) 43)) B tag c 43 2 (.slice (some ⟨w.heap.size, 0, none⟩) n n) n (vcell (List.replicate n vnil)) := by
  refine Or.inr ⟨w.heap.size, n, vArr n, rfl, hB, ht, Go.Deep.blk_alloc_new _ _, Nat.le_refl _, hn, by simp [vArr, size_madeCells], fun i hi => ?_⟩
  have h2 : i / 2 < n := by omega
  have : i % 2 = 0 ∨ i % 2 = 1 := by omega
  rcases this with e | e <;> simp [vArr, madeCells, hi, e, vcell, List.getD_eq_getElem?_getD, h2, vnil]

theorem news1 (w : World) (o : Obj) (v : Value) (t : TypeId) : ∀ j u, [v][j]? = some u → ((w.alloc o).alloc (.cells #[v] t)).drew.cell? ((⟨w.heap.size + 1, 0, none⟩ : Addr).add j) = some u := by
  have hb : ((w.alloc o).alloc (.cells #[v] t)).drew.heap[w.heap.size + 1]? = some (.cells #[v] t (0, 0)) := by
    have h := Go.Deep.blk_alloc_new (w.alloc o) (.cells #[v] t)
    have e : (w.alloc o).heap.size = w.heap.size + 1 := by simp
    rw [e] at h
    exact h
  exact World.news_of_block hb

end Go.Proofs.YtkafkipjedpohaaGreatDoor
