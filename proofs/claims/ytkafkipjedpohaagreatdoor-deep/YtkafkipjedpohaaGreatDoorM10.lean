import Derived.Test.YtkafkipjedpohaaGreatDoorM9

/-
  The project's machine: straight: Len, Get, Set.
-/
namespace Go.Proofs.YtkafkipjedpohaaGreatDoor
open Go.RowKit

theorem LayM.arrset {w : World} {B mb : Nat} {A : AdM} {s : Mc} {en : Int} (h : LayM w B mb A s en) {j i xb cap : Nat} (hj : j < s.arr.length) (hv : A.AV j = .slice (some ⟨xb, 0, none⟩) (s.arr.getD j []).length cap) (hi : i < (s.arr.getD j []).length) (v : V) :
    LayM ((w.setCell ⟨xb, i * 2, none⟩ (.int .i64 v.k)).setCell ⟨xb, i * 2 + 1, none⟩ (.int .i64 v.n)) B mb A { s with arr := s.arr.set j ((s.arr.getD j []).set i v) } en ∧
      Ch B (fun c => c = 13 + 4 * j) A.tag A.tag w ((w.setCell ⟨xb, i * 2, none⟩ (.int .i64 v.k)).setCell ⟨xb, i * 2 + 1, none⟩ (.int .i64 v.n)) := by
  have hrow := h.arr j hj
  rw [hv] at hrow
  obtain ⟨b', cap', hb', hB, hlt, ht, _⟩ := hrow.form (by omega)
  injection hb' with e1 e2 e3
  injection e1 with e1
  injection e1 with e1 e4
  subst e1
  have hch : Ch B (fun c => c = 13 + 4 * j) A.tag A.tag w ((w.setCell ⟨xb, i * 2, none⟩ (.int .i64 v.k)).setCell ⟨xb, i * 2 + 1, none⟩ (.int .i64 v.n)) :=
    ((Ch.refl B _ A.tag w).setOld (a := ⟨xb, _, none⟩) hB (fun _ => ht) _).setOld (a := ⟨xb, _, none⟩) hB (fun _ => ht) _
  refine ⟨⟨?_, h.own, h.fr.keep hch (by omega), fun k hk => ?_, ?_, h.out.keep hch (by omega), fun k hk => (h.loc k hk).keep hch (by omega), fun k hk => (h.stk k hk).keep hch (by omega), fun k hk => ?_⟩, hch⟩
  · have hc : cellsP (s.arr.set j ((s.arr.getD j []).set i v)) = cellsP s.arr := cells_set _ _ _ (by rw [List.length_set])
    have : mcells A { s with arr := s.arr.set j ((s.arr.getD j []).set i v) } en = mcells A s en := by unfold mcells; rw [hc]
    rw [this]
    exact (hch.block mb (heap_lt h.run) (Or.inr (by rw [h.own.2]; omega))).trans h.run
  · obtain ⟨g1, g2, g3⟩ := h.fb k hk
    obtain ⟨g4, g5⟩ := blk_keep g1 hch (by rw [g3]; omega)
    exact ⟨g4, g2, g5.trans g3⟩
  · show Row _ B A.tag 2 _ 1 A.av (s.arr.set j _).length A.AV
    rw [List.length_set]
    exact h.ar.keep hch (by omega)
  · have hk' : k < s.arr.length := by simpa using hk
    show Row _ B A.tag (13 + 4 * k) _ 2 (A.AV k) ((s.arr.set j ((s.arr.getD j []).set i v)).getD k []).length (vcell ((s.arr.set j ((s.arr.getD j []).set i v)).getD k []))
    by_cases e : k = j
    · subst e
      rw [getD_set_same _ _ _ hk', List.length_set, hv]
      exact ((hrow.set (i * 2) _).set (i * 2 + 1) _).congr (fun c _ => vcell_set _ _ _ hi c)
    · rw [getD_set_other _ _ _ _ e]
      exact (h.arr k hk').keep hch (by omega)

theorem Cur.length {w0 w : World} {B mb : Nat} {A0 : AdM} {s : Mc} {en : Int} {l : List (Nat × Array Value × TypeId)} (h : Cur w0 B mb A0 s en l w) (v : V) (hv : v.k = 2 → 0 ≤ v.n ∧ v.n < s.arr.length) :
    Calls Tryz.prog 140 #[.pointer (some ⟨mb, 0, none⟩), .agg #[.int .i64 v.k, .int .i64 v.n]] w fun e w' =>
      ((v.k = 2 ∧ e = .returned (.agg #[.int .i64 1, .int .i64 (s.arr.getD v.n.toNat []).length])) ∨ (v.k ≠ 2 ∧ e = trapE 3)) ∧ Cur w0 B mb A0 s en l w' := by
  have h' := h
  obtain ⟨hB, A, h1, h2, h3, h4⟩ := h
  refine (lengthB h1 v hv w (Below.refl _ _)).mono ?_
  rintro e w' ⟨he, hb⟩
  exact ⟨he, h'.below hb⟩

theorem vcell_two (l : List V) (i : Nat) : vcell l (i * 2) = .int .i64 (l.getD i vnil).k ∧ vcell l (i * 2 + 1) = .int .i64 (l.getD i vnil).n := by
  unfold vcell
  rw [if_pos (by omega), if_neg (by omega), show i * 2 / 2 = i by omega, show (i * 2 + 1) / 2 = i by omega]
  exact ⟨rfl, rfl⟩

/-- What the address of an array's cell is good for. -/
def CellAt (w0 : World) (B mb : Nat) (A0 : AdM) (s : Mc) (en : Int) (l : List (Nat × Array Value × TypeId)) (j i b o : Nat) (w : World) : Prop :=
  w.cell? ⟨b, o, none⟩ = some (.int .i64 ((s.arr.getD j []).getD i vnil).k) ∧ w.cell? ⟨b, o + 1, none⟩ = some (.int .i64 ((s.arr.getD j []).getD i vnil).n) ∧ w.frozen? ⟨b, o, none⟩ = false ∧ w.frozen? ⟨b, o + 1, none⟩ = false ∧
    ∀ v : V, Cur w0 B mb A0 { s with arr := s.arr.set j ((s.arr.getD j []).set i v) } en l ((w.setCell ⟨b, o, none⟩ (.int .i64 v.k)).setCell ⟨b, o + 1, none⟩ (.int .i64 v.n))

theorem Cur.cell {w0 w : World} {B mb : Nat} {A0 : AdM} {s : Mc} {en : Int} {l : List (Nat × Array Value × TypeId)} (h : Cur w0 B mb A0 s en l w) (a i : V) (hv : a.k = 2 → 0 ≤ a.n ∧ a.n < s.arr.length) :
    Calls Tryz.prog 141 #[.pointer (some ⟨mb, 0, none⟩), .agg #[.int .i64 a.k, .int .i64 a.n], .agg #[.int .i64 i.k, .int .i64 i.n]] w fun e w' =>
      ((whereP s.arr a i = 0 ∧ ∃ b o, e = .returned (.pointer (some ⟨b, o, none⟩)) ∧ CellAt w0 B mb A0 s en l a.n.toNat i.n.toNat b o w') ∨ (whereP s.arr a i ≠ 0 ∧ e = trapE (whereP s.arr a i))) ∧ Cur w0 B mb A0 s en l w' := by
  have h' := h
  obtain ⟨hB, A, h1, h2, h3, h4⟩ := h
  refine (cellB h1 a i hv w (Below.refl _ _)).mono ?_
  rintro e w' ⟨he, hb⟩
  refine ⟨?_, h'.below hb⟩
  rcases he with ⟨hw, b, cp, hA, rfl⟩ | ⟨hw, rfl⟩
  · obtain ⟨o1, o2, o3, o4⟩ := where_ok hw
    have hj : a.n.toNat < s.arr.length := by have := hv o1; omega
    have hi : i.n.toNat < (s.arr.getD a.n.toNat []).length := by omega
    have hL := h1.below hb
    have hr := hL.arr _ hj
    rw [hA] at hr
    have hm := hr.cell (i := i.n.toNat * 2) (by omega)
    have hm1 := hr.cell (i := i.n.toNat * 2 + 1) (by omega)
    rw [(vcell_two _ _).1] at hm
    rw [(vcell_two _ _).2] at hm1
    refine Or.inl ⟨hw, b, _, rfl, hm, hm1, hr.frozen _, hr.frozen _, fun v => ?_⟩
    obtain ⟨q1, q2⟩ := hL.arrset hj hA hi v
    refine ⟨hB, A, q1, h2, (h3.trans' hb).trans (q2.mono (fun d hd => by unfold N5; omega)), (h4.keep (Ch.of_below (p := fun _ => False) (B := B) hb) (fun h => h)).keep q2 (by omega)⟩
  · exact Or.inr ⟨hw, rfl⟩

set_option maxRecDepth 100000 in
set_option maxHeartbeats 1000000 in
theorem str_len (w : World) (B mb : Nat) (A : AdM) (s : Mc) (en : Int) (f : Fr) (rest : List Fr) (n : Int) (v : V) (st : List V) (hst : f.stk = v :: st) (hv : v.k = 2 → 0 ≤ v.n ∧ v.n < s.arr.length) (hL : LayM w B mb A s en) (hs : s.fr = f :: rest) (hB : B ≤ w.heap.size) (hn : st.length ≤ 60) :
    Calls Tryz.prog 121 #[.pointer (some ⟨mb, 0, none⟩), .pointer (some ⟨A.FB rest.length, 0, none⟩), .agg #[.int .i64 18, .int .i64 n]] w (StrE w B mb A s en rest (execP 18 n f s.arr s.out)) := by
  have H0 := hid ((Cur.start hL hB).box #[.int .i64 18, .int .i64 n] 33)
  generalize hfb : A.FB rest.length = fb
  have HF := hid hfb
  have hx : execP 18 n f s.arr s.out = if v.k ≠ 2 then ({ f with stk := st }, s.arr, s.out, 3) else ({ f with stk := vnum ((s.arr.getD v.n.toNat []).length : Int) :: st }, s.arr, s.out, 0) := by
    unfold execP
    simp [hst]
  generalize execP 18 n f s.arr s.out = xx at hx ⊢
  have HX := hid hx
  have HV := hid hv
  clear hL hfb hx hv
  go_enter Tryz.func121, Tryz.ntmps121
  go_wp2_with fail
  generalize w.alloc (.cells #[.int .i64 18, .int .i64 n] 33) = W at *
  have H1 := hid H0.out.drew
  clear H0
  refine region_lex (Hb [(w.heap.size, #[Value.int .i64 18, Value.int .i64 n], 33)]) [(false, 0), (false, 1), (false, 2), (false, 3), (false, 4), (false, 5), (false, 6), (true, 7), (true, 8), (true, 9)] (by kernel_rfl) (by kernel_rfl) (panic_block _ _ _) H1.out.hb ?_
  simp only [lexL, List.getElem?_cons_zero, List.getElem?_cons_succ]
  iterate 7 (refine lexW_free (by rfl) (by intro w' hS';  clear hS'; go_simp; exact rfl) ?_; simp only [Act.put, List.setIfInBounds_toArray, List.set_cons_zero, List.set_cons_succ])
  generalize W.drew = w1 at H1 ⊢
  refine lexW_sole (fun K hK => ?_)
  go_simp
  have hp := H1.out.pop hs hst (by omega)
  rw [HF.out] at hp
  refine hp.mono ?_
  rintro e w2 ⟨rfl, c2⟩
  have H2 := hid c2
  refine hK.out _ _ c2.hb ?_
  clear hK K hp c2 H1
  refine lexW_sole (fun K hK => ?_)
  go_simp
  refine (H2.out.length v HV.out).mono ?_
  rintro e w3 ⟨⟨hk, rfl⟩ | ⟨hk, rfl⟩, c3⟩
  · have H3 := hid c3
    have HX2 := hid (HX.out.trans (if_neg (fun h => h hk)))
    refine hK.out _ _ c3.hb ?_
    clear hK K c3 H2 hk
    generalize ((s.arr.getD v.n.toNat []).length : Int) = al at *
    refine lexW_sole (fun K hK => ?_)
    go_simp
    have hp := H3.out.push rfl (by show st.length ≤ 64; omega) (vnum al)
    rw [HF.out] at hp
    refine hp.mono ?_
    rintro e w9 ⟨rfl, c9⟩
    refine hK.out _ _ c9.hb ?_
    have HQ := hid (StrE.ok c9.done)
    clear hK K c9 hp
    refine lexW_done ?_
    go_wp2
    go_end0
    rw [HX2.out]
    exact HQ.out
  · refine ⟨rfl, ?_⟩
    rw [HX.out.trans (if_pos hk)]
    exact StrE.trap (by decide) c3.done

set_option maxRecDepth 100000 in
set_option maxHeartbeats 1000000 in
theorem str_get (w : World) (B mb : Nat) (A : AdM) (s : Mc) (en : Int) (f : Fr) (rest : List Fr) (n : Int) (b a : V) (st : List V) (hst : f.stk = b :: a :: st) (hv : a.k = 2 → 0 ≤ a.n ∧ a.n < s.arr.length) (hL : LayM w B mb A s en) (hs : s.fr = f :: rest) (hB : B ≤ w.heap.size) (hn : st.length ≤ 60) :
    Calls Tryz.prog 121 #[.pointer (some ⟨mb, 0, none⟩), .pointer (some ⟨A.FB rest.length, 0, none⟩), .agg #[.int .i64 16, .int .i64 n]] w (StrE w B mb A s en rest (execP 16 n f s.arr s.out)) := by
  have H0 := hid ((Cur.start hL hB).box #[.int .i64 16, .int .i64 n] 33)
  generalize hfb : A.FB rest.length = fb
  have HF := hid hfb
  have hx : execP 16 n f s.arr s.out = if whereP s.arr a b = 0 then ({ f with stk := (s.arr.getD a.n.toNat []).getD b.n.toNat vnil :: st }, s.arr, s.out, 0) else ({ f with stk := st }, s.arr, s.out, whereP s.arr a b) := by
    unfold execP
    simp [hst]
  generalize execP 16 n f s.arr s.out = xx at hx ⊢
  have HX := hid hx
  have HV := hid hv
  clear hL hfb hx hv
  go_enter Tryz.func121, Tryz.ntmps121
  go_wp2_with fail
  generalize w.alloc (.cells #[.int .i64 16, .int .i64 n] 33) = W at *
  have hp := H0.out.popTwo H0.out.lt hs hst hn
  rw [HF.out] at hp
  refine hp.mono ?_
  rintro e w2 ⟨rfl, c2⟩
  have H2 := hid (cur_two c2 #[.int .i64 a.k, .int .i64 a.n] #[.int .i64 b.k, .int .i64 b.n] 43)
  clear c2 hp H0 hst
  go_wp2_with fail
  generalize (w2.alloc (.cells #[.int .i64 a.k, .int .i64 a.n] 43)).alloc (.cells #[.int .i64 b.k, .int .i64 b.n] 43) = W2 at *
  have H3 := hid H2.out.drew
  clear H2
  refine region_lex (Hb [(w2.heap.size + 1, #[Value.int .i64 b.k, Value.int .i64 b.n], 43), (w2.heap.size, #[Value.int .i64 a.k, Value.int .i64 a.n], 43), (w.heap.size, #[Value.int .i64 16, Value.int .i64 n], 33)]) [(false, 0), (false, 1), (false, 2), (false, 3), (false, 4), (false, 5), (true, 6), (true, 7), (true, 8), (true, 9)] (by kernel_rfl) (by kernel_rfl) (panic_block _ _ _) H3.out.hb ?_
  simp only [lexL, List.getElem?_cons_zero, List.getElem?_cons_succ]
  iterate 6 (refine lexW_free (by rfl) (by intro w' hS'; obtain ⟨y0, z0, _, _⟩ := hS'.two List.mem_cons_self; obtain ⟨y1, z1, _, _⟩ := hS'.two (List.mem_cons_of_mem _ List.mem_cons_self); clear hS'; go_simp; exact rfl) ?_; simp only [Act.put, List.setIfInBounds_toArray, List.set_cons_zero, List.set_cons_succ])
  generalize W2.drew = w3 at H3 ⊢
  refine lexW_sole (fun K hK => ?_)
  go_simp
  refine (H3.out.cell a b HV.out).mono ?_
  rintro e w4 ⟨⟨hw, bb, oo, rfl, k0, k1, _, _, _⟩ | ⟨hw, rfl⟩, c4⟩
  · have H4 := hid c4
    have HX2 := hid (HX.out.trans (if_pos hw))
    generalize (s.arr.getD a.n.toNat []).getD b.n.toNat vnil = x at *
    refine hK.out _ _ c4.hb ?_
    clear hK K c4 H3 hw
    refine lexW_sole (fun K hK => ?_)
    go_simp
    refine hK.out _ _ H4.out.hb ?_
    clear hK K
    refine lexW_sole (fun K hK => ?_)
    go_simp
    refine hK.out _ _ H4.out.hb ?_
    clear hK K
    refine lexW_sole (fun K hK => ?_)
    go_simp
    have hp := H4.out.push rfl (by show st.length ≤ 64; omega) x
    rw [HF.out] at hp
    refine hp.mono ?_
    rintro e w9 ⟨rfl, c9⟩
    refine hK.out _ _ c9.hb ?_
    have HQ := hid (StrE.ok c9.done)
    clear hK K c9 hp
    refine lexW_done ?_
    go_wp2
    go_end0
    rw [HX2.out]
    exact HQ.out
  · refine ⟨rfl, ?_⟩
    rw [HX.out.trans (if_neg hw)]
    exact StrE.trap hw c4.done

end Go.Proofs.YtkafkipjedpohaaGreatDoor

/-
  The project's machine: straight: Set, Dup, Print.
-/
namespace Go.Proofs.YtkafkipjedpohaaGreatDoor
open Go.RowKit

set_option maxRecDepth 100000 in
set_option maxHeartbeats 1000000 in
theorem str_set (w : World) (B mb : Nat) (A : AdM) (s : Mc) (en : Int) (f : Fr) (rest : List Fr) (n : Int) (v i a : V) (st : List V) (hst : f.stk = v :: i :: a :: st) (hv : a.k = 2 → 0 ≤ a.n ∧ a.n < s.arr.length) (hL : LayM w B mb A s en) (hs : s.fr = f :: rest) (hB : B ≤ w.heap.size) (hn : st.length ≤ 58) :
    Calls Tryz.prog 121 #[.pointer (some ⟨mb, 0, none⟩), .pointer (some ⟨A.FB rest.length, 0, none⟩), .agg #[.int .i64 17, .int .i64 n]] w (StrE w B mb A s en rest (execP 17 n f s.arr s.out)) := by
  have H0 := hid ((Cur.start hL hB).box #[.int .i64 17, .int .i64 n] 33)
  generalize hfb : A.FB rest.length = fb
  have HF := hid hfb
  have hx : execP 17 n f s.arr s.out = if whereP s.arr a i = 0 then ({ f with stk := st }, s.arr.set a.n.toNat ((s.arr.getD a.n.toNat []).set i.n.toNat v), s.out, 0) else ({ f with stk := st }, s.arr, s.out, whereP s.arr a i) := by
    unfold execP
    simp [hst]
  generalize execP 17 n f s.arr s.out = xx at hx ⊢
  have HX := hid hx
  have HV := hid hv
  clear hL hfb hx hv
  go_enter Tryz.func121, Tryz.ntmps121
  go_wp2_with fail
  generalize w.alloc (.cells #[.int .i64 17, .int .i64 n] 33) = W at *
  have hp := H0.out.pop hs hst (by simp; omega)
  rw [HF.out] at hp
  refine hp.mono ?_
  rintro e w1 ⟨rfl, c1⟩
  have H1 := hid (c1.box #[.int .i64 v.k, .int .i64 v.n] 43)
  clear c1 hp H0 hst
  go_wp2_with fail
  generalize w1.alloc (.cells #[.int .i64 v.k, .int .i64 v.n] 43) = W1 at *
  have hp := H1.out.popTwo (b := i) (a := a) (st := st) H1.out.lt rfl rfl (by omega)
  rw [HF.out] at hp
  refine hp.mono ?_
  rintro e w2 ⟨rfl, c2⟩
  have H2 := hid (cur_two c2 #[.int .i64 a.k, .int .i64 a.n] #[.int .i64 i.k, .int .i64 i.n] 43)
  clear c2 hp H1
  go_wp2_with fail
  generalize (w2.alloc (.cells #[.int .i64 a.k, .int .i64 a.n] 43)).alloc (.cells #[.int .i64 i.k, .int .i64 i.n] 43) = W2 at *
  have H3 := hid H2.out.drew
  clear H2
  refine region_lex (Hb [(w2.heap.size + 1, #[Value.int .i64 i.k, Value.int .i64 i.n], 43), (w2.heap.size, #[Value.int .i64 a.k, Value.int .i64 a.n], 43), (w1.heap.size, #[Value.int .i64 v.k, Value.int .i64 v.n], 43), (w.heap.size, #[Value.int .i64 17, Value.int .i64 n], 33)]) [(false, 0), (false, 1), (false, 2), (false, 4), (true, 3), (true, 5), (true, 6)] (by kernel_rfl) (by kernel_rfl) (panic_block _ _ _) H3.out.hb ?_
  simp only [lexL, List.getElem?_cons_zero, List.getElem?_cons_succ]
  iterate 4 (refine lexW_free (by rfl) (by intro w' hS'; obtain ⟨y0, z0, _, _⟩ := hS'.two List.mem_cons_self; obtain ⟨y1, z1, _, _⟩ := hS'.two (List.mem_cons_of_mem _ List.mem_cons_self); obtain ⟨y2, z2, _, _⟩ := hS'.two (List.mem_cons_of_mem _ (List.mem_cons_of_mem _ List.mem_cons_self)); clear hS'; go_simp; exact rfl) ?_; simp only [Act.put, List.setIfInBounds_toArray, List.set_cons_zero, List.set_cons_succ])
  generalize W2.drew = w3 at H3 ⊢
  refine lexW_sole (fun K hK => ?_)
  go_simp
  refine (H3.out.cell a i HV.out).mono ?_
  rintro e w4 ⟨⟨hw, bb, oo, rfl, k0, k1, f0, f1, kc⟩ | ⟨hw, rfl⟩, c4⟩
  · have H4 := hid c4
    have H5 := hid (kc v)
    have HX2 := hid (HX.out.trans (if_pos hw))
    generalize (s.arr.getD a.n.toNat []).getD i.n.toNat vnil = x at *
    refine hK.out _ _ c4.hb ?_
    clear hK K c4 H3 hw kc
    refine lexW_sole (fun K hK => ?_)
    go_simp
    refine hK.out _ _ H4.out.hb ?_
    clear hK K
    refine lexW_sole (fun K hK => ?_)
    go_simp
    refine hK.out _ _ H5.out.hb ?_
    have HQ := hid (StrE.ok H5.out.done)
    clear hK K
    refine lexW_done ?_
    go_wp2
    go_end0
    rw [HX2.out]
    exact HQ.out
  · refine ⟨rfl, ?_⟩
    rw [HX.out.trans (if_neg hw)]
    exact StrE.trap hw c4.done

set_option maxRecDepth 100000 in
set_option maxHeartbeats 1000000 in
theorem topV (w : World) (b o n sb c : Nat) (v : V) (h : w.cell? ⟨b, o, none⟩ = some (.slice (some ⟨sb, 0, none⟩) (n + 1) c)) (h0 : w.cell? ⟨sb, n * 2, none⟩ = some (.int .i64 v.k)) (h1 : w.cell? ⟨sb, n * 2 + 1, none⟩ = some (.int .i64 v.n)) (hn : n ≤ 100000) :
    Calls Tryz.prog 143 #[.pointer (some ⟨b, o, none⟩)] w fun e w' => e = .returned (.agg #[.int .i64 v.k, .int .i64 v.n]) ∧ Below w.heap.size w w' := by
  have hW : Below w.heap.size w (w.alloc (.cells #[.int .i64 0, .int .i64 0] 43)) := (Below.refl _ _).alloc (Nat.le_refl _) _
  have hbx : (w.alloc (.cells #[.int .i64 0, .int .i64 0] 43)).heap[w.heap.size]? = some (.cells #[.int .i64 0, .int .i64 0] 43 (0, 0)) := Go.Deep.blk_alloc_new _ _
  have HL := hid (And.intro hW (And.intro hbx (And.intro h (And.intro h0 h1))))
  clear hW hbx h h0 h1
  go_enter Tryz.func143, Tryz.ntmps143
  go_wp2_with fail
  generalize w.alloc (.cells #[.int .i64 0, .int .i64 0] 43) = W at *
  have S0 := hid (show Sb W w.heap.size 43 W.drew from (show Sb W w.heap.size 43 W from ⟨Below.refl _ _, _, _, HL.out.2.1⟩).drew)
  have HC := hid (fun (w' : World) (h : Sb W w.heap.size 43 w') => (show w'.cell? ⟨b, o, none⟩ = some (.slice (some ⟨sb, 0, none⟩) (n + 1) c) ∧ w'.cell? ⟨sb, n * 2, none⟩ = some (.int .i64 v.k) ∧ w'.cell? ⟨sb, n * 2 + 1, none⟩ = some (.int .i64 v.n) from by
    obtain ⟨k1, _, k2, k3, k4⟩ := HL.out
    have hh := k1.trans h.1
    exact ⟨(hh.cell (p := ⟨b, o, none⟩) (World.block_lt_of_cell? w _ k2)).trans k2, (hh.cell (p := ⟨sb, n * 2, none⟩) (World.block_lt_of_cell? w _ k3)).trans k3, (hh.cell (p := ⟨sb, n * 2 + 1, none⟩) (World.block_lt_of_cell? w _ k4)).trans k4⟩))
  refine region_lex (Sb W w.heap.size 43) [(false, 0), (false, 1), (false, 2), (false, 3), (false, 4), (false, 5), (false, 6), (false, 7), (false, 8), (false, 9), (false, 10), (false, 11), (true, 12)] (by kernel_rfl) (by kernel_rfl) (panic_frame _ _ _) S0.out ?_
  simp only [lexL, List.getElem?_cons_zero, List.getElem?_cons_succ]
  have hw64 : IntKind.i64.wrap (n : Int) = (n : Int) := by rw [IntKind.wrap_i64]; omega
  have i0 : (0 : Int) ≤ (n : Int) := by omega
  have i1 : (n : Int) < (n : Int) + 1 := by omega
  iterate 12 (refine lexW_free (by rfl) (by intro w' hS'; obtain ⟨y0, y1, y2⟩ := HC.out w' hS'; clear hS'; go_simp; exact rfl) ?_; simp only [Act.put, List.setIfInBounds_toArray, List.set_cons_zero, List.set_cons_succ])
  generalize W.drew = w1 at S0 ⊢
  obtain ⟨x, y, y0, y1, z0, z1⟩ := S0.out.cells
  refine lexW_sole (fun K hK => ?_)
  go_simp
  refine hK.out _ _ (S0.out.set _ _) ?_
  clear hK K
  refine lexW_done ?_
  go_wp2
  obtain ⟨r0, r1⟩ := S0.out.read (.int .i64 v.k) (.int .i64 v.n)
  exact bodyPost_ret (v := .agg #[.int .i64 v.k, .int .i64 v.n]) (by simp [results, Tryz.results143, go_sem, r0, r1]) rfl ⟨rfl, HL.out.1.trans (S0.out.set _ _).1⟩

theorem Cur.top {w0 w : World} {B mb : Nat} {A0 : AdM} {s : Mc} {en : Int} {l : List (Nat × Array Value × TypeId)} (h : Cur w0 B mb A0 s en l w) {f : Fr} {rest : List Fr} (hs : s.fr = f :: rest) {v : V} {st : List V} (hst : f.stk = v :: st) (hn : st.length ≤ 64) :
    Calls Tryz.prog 143 #[.pointer (some ⟨A0.FB rest.length, 3, none⟩)] w fun e w' => e = .returned (.agg #[.int .i64 v.k, .int .i64 v.n]) ∧ Cur w0 B mb A0 s en l w' := by
  have h' := h
  obtain ⟨hB, A, h1, h2, h3, h4⟩ := h
  have hfb : A.FB = A0.FB := by unfold AdM.FB; rw [h2]
  rw [← hfb]
  have hlen : s.fr.length = rest.length + 1 := by rw [hs]; rfl
  have e0 : frAt s.fr rest.length = f := by rw [hs]; exact frAt_top _ _
  obtain ⟨g1, g2, g3⟩ := h1.fb rest.length (by omega)
  have hrow := h1.stk rest.length (by omega)
  rw [e0] at g1 hrow
  rw [hst, List.length_cons, List.reverse_cons] at hrow
  obtain ⟨sb, scap, hsv, hsb, hsz, hstg, hsc⟩ := hrow.form (by omega)
  rw [hsv] at hrow
  have x0 := hrow.cell (i := st.length * 2) (by omega)
  have x1 := hrow.cell (i := st.length * 2 + 1) (by omega)
  have hlr : st.reverse.length = st.length := by simp
  have ht := vcell_top st.reverse v
  rw [hlr] at ht
  rw [ht.1] at x0
  rw [ht.2] at x1
  have c3 : w.cell? ⟨A.FB rest.length, 3, none⟩ = some (.slice (some ⟨sb, 0, none⟩) (st.length + 1) scap) := by rw [cell_heap g1, ← hsv]; rfl
  refine (topV w _ 3 st.length sb scap v c3 x0 x1 (by omega)).mono ?_
  rintro e w' ⟨rfl, hb⟩
  exact ⟨rfl, h'.below hb⟩

set_option maxRecDepth 100000 in
set_option maxHeartbeats 1000000 in
theorem str_dup (w : World) (B mb : Nat) (A : AdM) (s : Mc) (en : Int) (f : Fr) (rest : List Fr) (n : Int) (v : V) (st : List V) (hst : f.stk = v :: st) (hL : LayM w B mb A s en) (hs : s.fr = f :: rest) (hB : B ≤ w.heap.size) (hn : st.length ≤ 60) :
    Calls Tryz.prog 121 #[.pointer (some ⟨mb, 0, none⟩), .pointer (some ⟨A.FB rest.length, 0, none⟩), .agg #[.int .i64 21, .int .i64 n]] w (StrE w B mb A s en rest (execP 21 n f s.arr s.out)) := by
  have H0 := hid ((Cur.start hL hB).box #[.int .i64 21, .int .i64 n] 33)
  generalize hfb : A.FB rest.length = fb
  have HF := hid hfb
  have hx : execP 21 n f s.arr s.out = ({ f with stk := v :: v :: st }, s.arr, s.out, 0) := by
    unfold execP
    simp [hst]
  rw [hx]
  clear hL hfb hx
  go_enter Tryz.func121, Tryz.ntmps121
  go_wp2_with fail
  generalize w.alloc (.cells #[.int .i64 21, .int .i64 n] 33) = W at *
  have H1 := hid H0.out.drew
  clear H0
  refine region_lex (Hb [(w.heap.size, #[Value.int .i64 21, Value.int .i64 n], 33)]) [(false, 0), (false, 1), (false, 2), (false, 3), (false, 4), (false, 5), (true, 6), (true, 7)] (by kernel_rfl) (by kernel_rfl) (panic_block _ _ _) H1.out.hb ?_
  simp only [lexL, List.getElem?_cons_zero, List.getElem?_cons_succ]
  iterate 6 (refine lexW_free (by rfl) (by intro w' hS';  clear hS'; go_simp; exact rfl) ?_; simp only [Act.put, List.setIfInBounds_toArray, List.set_cons_zero, List.set_cons_succ])
  generalize W.drew = w1 at H1 ⊢
  refine lexW_sole (fun K hK => ?_)
  go_simp
  have hp := H1.out.top hs hst (by omega)
  rw [HF.out] at hp
  refine hp.mono ?_
  rintro e w2 ⟨rfl, c2⟩
  have H2 := hid c2
  refine hK.out _ _ c2.hb ?_
  clear hK K hp c2 H1
  refine lexW_sole (fun K hK => ?_)
  go_simp
  have hp := H2.out.push hs (by rw [hst]; simp; omega) v
  rw [HF.out, hst] at hp
  refine hp.mono ?_
  rintro e w9 ⟨rfl, c9⟩
  refine hK.out _ _ c9.hb ?_
  have HQ := hid (StrE.ok c9.done)
  clear hK K c9 hp hst
  refine lexW_done ?_
  go_wp2
  go_end0
  exact HQ.out

end Go.Proofs.YtkafkipjedpohaaGreatDoor
