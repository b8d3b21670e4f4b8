import Derived.Test.YtkafkipjedpohaaGreatDoorPureJ

/-
  Compiled code of the project's machine: two values read.
-/
namespace Go.Proofs.YtkafkipjedpohaaGreatDoor
open Go.RowKit

/-- A function value that reads two: the right one first. -/
def TwoV (l : Bxs) (o1 o2 : Opd) (v : Value) : Prop :=
  ∃ rb lb vr vl, v = .func (.func 194) #[] #[ptr rb, ptr lb] ∧ (rb, #[vr], 224) ∈ l ∧ (lb, #[vl], 224) ∈ l ∧ OpdV l o1 vr ∧ OpdV l o2 vl
theorem TwoV.mono {l l' : Bxs} {o1 o2 : Opd} {v : Value} (h : TwoV l o1 o2 v) (hl : ∀ t, t ∈ l → t ∈ l') : TwoV l' o1 o2 v := by
  obtain ⟨rb, lb, vr, vl, h1, h2, h3, h4, h5⟩ := h
  exact ⟨rb, lb, vr, vl, h1, hl _ h2, hl _ h3, h4.mono hl, h5.mono hl⟩
theorem cf_two (args : Array Value) (X : World) : (callFunc 194 args).run Tryz.prog X = .ok (.enter 194 args) X := by go_simp
theorem TwoV.fn {l : Bxs} {o1 o2 : Opd} {v : Value} (h : TwoV l o1 o2 v) : ∃ g cap, FnV v g cap := by
  obtain ⟨rb, lb, vr, vl, h1, _⟩ := h
  exact ⟨_, _, h1, cf_two⟩

theorem Hb.one {l : Bxs} {w : World} (h : Hb l w) {b : Nat} {c0 : Value} {t : TypeId} (hm : (b, #[c0], t) ∈ l) : w.cell? ⟨b, 0, none⟩ = some c0 := (h.cell hm 0).trans rfl

/-- What a call that reads two leaves. -/
def TwoE (w0 : World) (B mb : Nat) (A0 : AdM) (s : Mc) (en : Int) (l : Bxs) (f : Fr) (rest : List Fr) (o1 o2 : Opd) (e : Ending) (w' : World) : Prop :=
  e = .returned (.tuple #[.agg #[.int .i64 (o2.get f.loc (o1.get f.loc f.stk).2).1.k, .int .i64 (o2.get f.loc (o1.get f.loc f.stk).2).1.n], .agg #[.int .i64 (o1.get f.loc f.stk).1.k, .int .i64 (o1.get f.loc f.stk).1.n]]) ∧
    Cur w0 B mb A0 { s with fr := { f with stk := (o2.get f.loc (o1.get f.loc f.stk).2).2 } :: rest } en l w'

theorem get_len (o : Opd) (l st : List V) : (o.get l st).2.length ≤ st.length := by
  cases o with
  | pop => simp [Opd.get]
  | con x => exact Nat.le_refl _
  | loc i => exact Nat.le_refl _

set_option maxRecDepth 100000 in
set_option maxHeartbeats 1000000 in
theorem Cur.getTwo {w0 w : World} {B mb : Nat} {A0 : AdM} {s : Mc} {en : Int} {l : Bxs} (h : Cur w0 B mb A0 s en l w) {f : Fr} {rest : List Fr} (hs : s.fr = f :: rest) {o1 o2 : Opd} {g : Nat} {cap : Array Value} (hv : TwoV l o1 o2 (.func (.func g) #[] cap)) (ho : OpdsOk f.loc [o1, o2] f.stk) (hn : f.stk.length ≤ 60) :
    Calls Tryz.prog g (#[ptr (A0.FB rest.length)] ++ cap) w (TwoE w0 B mb A0 s en l f rest o1 o2) := by
  obtain ⟨rb, lb, vr, vl, h1, h2, h3, h4, h5⟩ := hv
  injection h1 with h1 _ h6
  injection h1 with h1
  subst h1 h6
  show Calls Tryz.prog 194 #[ptr (A0.FB rest.length), ptr rb, ptr lb] w _
  obtain ⟨g1, c1, e1, f1⟩ := h4.fn
  obtain ⟨g2, c2, e2, f2⟩ := h5.fn
  subst e1 e2
  have H0 := hid (cur_two h #[.int .i64 0, .int .i64 0] #[.int .i64 0, .int .i64 0] 43)
  have hm1 : ∀ t, t ∈ l → t ∈ (w.heap.size + 1, #[Value.int .i64 0, Value.int .i64 0], 43) :: (w.heap.size, #[Value.int .i64 0, Value.int .i64 0], 43) :: l := fun t ht => List.mem_cons_of_mem _ (List.mem_cons_of_mem _ ht)
  have HG1 := hid (H0.out.get hs (h4.mono hm1) ho.1 hn)
  have HO := hid (And.intro h5 (And.intro ho.2.1 (Nat.le_trans (get_len o1 f.loc f.stk) hn)))
  have hle := h.le.1
  have HL := hid h.lt
  have d1 := H0.out.hb.one (hm1 _ h2)
  have d2 := H0.out.hb.one (hm1 _ h3)
  have HM := hid (And.intro h2 h3)
  unfold TwoE
  generalize hx : (o1.get f.loc f.stk).1 = x at *
  generalize hst : (o1.get f.loc f.stk).2 = st at *
  generalize hy : (o2.get f.loc st).1 = y at *
  generalize hst2 : (o2.get f.loc st).2 = st2 at *
  have HX := hid (And.intro hx (And.intro hst (And.intro hy hst2)))
  have hrz : rb < w.heap.size := h.lt _ h2
  have hlz : lb < w.heap.size := h.lt _ h3
  generalize hfb : A0.FB rest.length = fb at *
  have HF := hid hfb
  clear hx hst hy hst2 hfb h4 h5 ho hn h h2 h3
  go_enter Tryz.func194, Tryz.ntmps194
  go_wp2_with fail
  generalize (w.alloc (.cells #[.int .i64 0, .int .i64 0] 43)).alloc (.cells #[.int .i64 0, .int .i64 0] 43) = W at *
  refine HG1.out.mono ?_
  rintro e w1 ⟨he, c1', _⟩
  rw [HX.out.1] at he
  rw [HX.out.2.1] at c1'
  subst he
  have hl1 : ∀ u, u ∈ (w.heap.size, #[Value.int .i64 0, Value.int .i64 0], 43) :: l → u.1 ≠ w.heap.size + 1 := fun u hu => by
    rcases List.mem_cons.1 hu with rfl | hu
    · show w.heap.size ≠ _
      omega
    · have := HL.out u hu
      omega
  have c2' := c1'.write0 (by omega) hl1 (.int .i64 x.k) (.int .i64 x.n)
  obtain ⟨x0, x1, z0, z1⟩ := c1'.hb.two List.mem_cons_self
  have d3 := c1'.hb.one (hm1 _ HM.out.2)
  have H2 := hid c2'
  clear c1' c2' hl1 H0 HG1 d1 d2
  go_wp2_with fail
  clear x0 x1 z0 z1 d3
  generalize (w1.setCell ⟨w.heap.size + 1, 0, none⟩ (.int .i64 x.k)).setCell ⟨w.heap.size + 1, 1, none⟩ (.int .i64 x.n) = w2 at *
  have hm2 : ∀ t, t ∈ l → t ∈ (w.heap.size + 1, #[Value.int .i64 x.k, Value.int .i64 x.n], 43) :: (w.heap.size, #[Value.int .i64 0, Value.int .i64 0], 43) :: l := fun t ht => List.mem_cons_of_mem _ (List.mem_cons_of_mem _ ht)
  have hp := H2.out.get (f := { f with stk := st }) (rest := rest) (o := o2) rfl (HO.out.1.mono hm2) HO.out.2.1 HO.out.2.2
  rw [HF.out] at hp
  refine hp.mono ?_
  rintro e w3 ⟨he, c3, _⟩
  have he' : e = .returned (.agg #[.int .i64 y.k, .int .i64 y.n]) := by rw [he, ← HX.out.2.2.1]
  subst he'
  clear he
  have c3 : Cur w0 B mb A0 { s with fr := { f with stk := st2 } :: rest } en ((w.heap.size + 1, #[Value.int .i64 x.k, Value.int .i64 x.n], 43) :: (w.heap.size, #[Value.int .i64 0, Value.int .i64 0], 43) :: l) w3 := by rw [← HX.out.2.2.2]; exact c3
  have hl2 : ∀ u, u ∈ [(w.heap.size + 1, #[Value.int .i64 x.k, Value.int .i64 x.n], 43)] ++ l → u.1 ≠ w.heap.size := fun u hu => by
    rcases List.mem_cons.1 hu with rfl | hu
    · show w.heap.size + 1 ≠ _
      omega
    · have := HL.out u hu
      omega
  have hl3 : ∀ u, u ∈ (w.heap.size, #[Value.int .i64 y.k, Value.int .i64 y.n], 43) :: l → u.1 ≠ w.heap.size + 1 := fun u hu => by
    rcases List.mem_cons.1 hu with rfl | hu
    · show w.heap.size ≠ _
      omega
    · have := HL.out u hu
      omega
  have c4 := c3.write1 (by omega) hl2 (.int .i64 y.k) (.int .i64 y.n)
  obtain ⟨x0, x1, z0, z1⟩ := c3.hb.two (List.mem_cons_of_mem _ List.mem_cons_self)
  have H4 := hid c4
  have HLL := hid (And.intro hl2 hl3)
  clear c3 c4 hp H2 hl2 hl3 HO
  go_wp2_with fail
  clear x0 x1 z0 z1
  generalize (w3.setCell ⟨w.heap.size, 0, none⟩ (.int .i64 y.k)).setCell ⟨w.heap.size, 1, none⟩ (.int .i64 y.n) = w4 at *
  have H5 := hid H4.out.drew
  refine region_lex (Hb ((w.heap.size + 1, #[Value.int .i64 x.k, Value.int .i64 x.n], 43) :: (w.heap.size, #[Value.int .i64 y.k, Value.int .i64 y.n], 43) :: l)) [(false, 0), (false, 1), (true, 2), (true, 3)] (by kernel_rfl) (by kernel_rfl) (panic_frame _ _ _) H5.out.hb ?_
  simp only [lexL, List.getElem?_cons_zero, List.getElem?_cons_succ]
  iterate 2 (refine lexW_free (by rfl) (by intro w' hS'; obtain ⟨y0, y1, _, _⟩ := hS'.two List.mem_cons_self; obtain ⟨u0, u1, _, _⟩ := hS'.two (List.mem_cons_of_mem _ List.mem_cons_self); clear hS'; go_simp; exact rfl) ?_; simp only [Act.put, List.setIfInBounds_toArray, List.set_cons_zero, List.set_cons_succ])
  generalize w4.drew = w5 at H5 ⊢
  obtain ⟨y0, y1, g0, g1'⟩ := H5.out.hb.two (List.mem_cons_of_mem _ List.mem_cons_self)
  have H6 := hid (H5.out.write1 (by omega) HLL.out.1 (.int .i64 y.k) (.int .i64 y.n))
  refine lexW_sole (fun K hK => ?_)
  go_simp
  refine hK.out _ _ H6.out.hb ?_
  clear hK K y0 y1 g0 g1'
  generalize (w5.setCell ⟨w.heap.size, 0, none⟩ (.int .i64 y.k)).setCell ⟨w.heap.size, 1, none⟩ (.int .i64 y.n) = w6 at *
  obtain ⟨y0, y1, g0, g1'⟩ := H6.out.hb.two List.mem_cons_self
  have H7 := hid (H6.out.write0 (by omega) HLL.out.2 (.int .i64 x.k) (.int .i64 x.n))
  refine lexW_sole (fun K hK => ?_)
  go_simp
  refine hK.out _ _ H7.out.hb ?_
  clear hK K y0 y1 g0 g1'
  generalize (w6.setCell ⟨w.heap.size + 1, 0, none⟩ (.int .i64 x.k)).setCell ⟨w.heap.size + 1, 1, none⟩ (.int .i64 x.n) = w7 at *
  refine lexW_done ?_
  clear HL H4 H5 H6 HLL
  go_wp2
  obtain ⟨y0, y1, g0, g1'⟩ := H7.out.hb.two List.mem_cons_self
  obtain ⟨u0, u1, v0, v1⟩ := H7.out.hb.two (List.mem_cons_of_mem _ List.mem_cons_self)
  exact bodyPost_ret (v := .tuple #[.agg #[.int .i64 y.k, .int .i64 y.n], .agg #[.int .i64 x.k, .int .i64 x.n]]) (by simp [results, Tryz.results194, go_sem, y0, y1, u0, u1]) rfl ⟨rfl, H7.out.drop (fun t ht => List.mem_cons_of_mem _ (List.mem_cons_of_mem _ ht))⟩
end Go.Proofs.YtkafkipjedpohaaGreatDoor

/-
  Compiled code of the project's machine: the values that are pushed.
-/
namespace Go.Proofs.YtkafkipjedpohaaGreatDoor
open Go.RowKit

/-- What a call that reckons a value leaves: x is what the instruction does. -/
def ValE (w0 : World) (B mb : Nat) (A0 : AdM) (s : Mc) (en : Int) (l : Bxs) (f : Fr) (rest : List Fr) (x : Fr × List (List V) × List V × Int) (e : Ending) (w' : World) : Prop :=
  (∃ v st arr, x = ({ f with stk := v :: st }, arr, s.out, 0) ∧ st.length ≤ 60 ∧ e = .returned (.agg #[.int .i64 v.k, .int .i64 v.n]) ∧ Cur w0 B mb A0 { s with fr := { f with stk := st } :: rest, arr := arr } en l w') ∨
  (x.2.2.2 ≠ 0 ∧ e = trapE x.2.2.2 ∧ Cur w0 B mb A0 { s with fr := x.1 :: rest, arr := x.2.1, out := x.2.2.1 } en l w')

theorem ValE.trap {w0 : World} {B mb : Nat} {A0 : AdM} {s : Mc} {en : Int} {l : Bxs} {f f' : Fr} {rest : List Fr} {x : Fr × List (List V) × List V × Int} {w' : World} {t : Int} {arr : List (List V)} {out : List V} (hx : x = (f', arr, out, t)) (ht : t ≠ 0) (c : Cur w0 B mb A0 { s with fr := f' :: rest, arr := arr, out := out } en l w') : ValE w0 B mb A0 s en l f rest x (trapE t) w' := by
  subst hx
  exact Or.inr ⟨ht, rfl, c⟩

theorem Mc.same {s : Mc} {f : Fr} {rest : List Fr} (hs : s.fr = f :: rest) : ({ s with fr := f :: rest } : Mc) = s := by
  obtain ⟨fr, arr, out, gives, steps, fin, high, made, cH, cU, cD⟩ := s
  simp only at hs
  rw [hs]

set_option maxRecDepth 100000 in
set_option maxHeartbeats 1000000 in
theorem val_dup {w0 w : World} {B mb : Nat} {A0 : AdM} {s : Mc} {en : Int} {l : Bxs} (h : Cur w0 B mb A0 s en l w) {f : Fr} {rest : List Fr} (hs : s.fr = f :: rest) (a : Int) (v : V) (st : List V) (hst : f.stk = v :: st) (hn : f.stk.length ≤ 60) :
    Calls Tryz.prog 184 #[ptr mb, ptr (A0.FB rest.length)] w (ValE w0 B mb A0 s en l f rest (execP 21 a { f with stk := (gets f.loc [] f.stk).1 ++ (gets f.loc [] f.stk).2 } s.arr s.out)) := by
  have hx : execP 21 a { f with stk := (gets f.loc [] f.stk).1 ++ (gets f.loc [] f.stk).2 } s.arr s.out = ({ f with stk := v :: f.stk }, s.arr, s.out, 0) := by simp [gets, execP, hst]
  have HX := hid hx
  generalize execP 21 a { f with stk := (gets f.loc [] f.stk).1 ++ (gets f.loc [] f.stk).2 } s.arr s.out = xx at *
  have H0 := hid (h.box #[.int .i64 0, .int .i64 0] 43)
  have hlen : st.length ≤ 64 := by rw [hst] at hn; simp at hn; omega
  have HP := hid (H0.out.top hs hst hlen)
  have hle := h.le.1
  have HB := hid h.boxfar
  have HN := hid hn
  have HS := hid (Mc.same (s := s) (f := { f with stk := f.stk }) (rest := rest) hs)
  generalize hfb : A0.FB rest.length = fb at *
  clear hfb hx hn hst hlen h
  go_enter Tryz.func184, Tryz.ntmps184
  go_wp2_with fail
  generalize w.alloc (.cells #[.int .i64 0, .int .i64 0] 43) = W at *
  refine HP.out.mono ?_
  rintro e w1 ⟨rfl, c1⟩
  obtain ⟨x0, x1, z0, z1⟩ := c1.hb.two List.mem_cons_self
  have c2 := c1.write0 hle HB.out (.int .i64 v.k) (.int .i64 v.n)
  rw [← HS.out] at c2
  have HW := hid c2
  clear c1 c2 HP H0 HS
  go_wp2
  obtain ⟨y0, y1, _, _⟩ := HW.out.hb.two List.mem_cons_self
  exact bodyPost_ret (v := .agg #[.int .i64 v.k, .int .i64 v.n]) (by simp [results, Tryz.results184, go_sem, y0, y1]) rfl (Or.inl ⟨v, _, _, HX.out, HN.out, rfl, HW.out.drop (fun t ht => List.mem_cons_of_mem _ ht)⟩)

set_option maxRecDepth 100000 in
set_option maxHeartbeats 1000000 in
theorem val_equal {w0 w : World} {B mb : Nat} {A0 : AdM} {s : Mc} {en : Int} {l : Bxs} (h : Cur w0 B mb A0 s en l w) {f : Fr} {rest : List Fr} (hs : s.fr = f :: rest) (a : Int) (o1 o2 : Opd) (vt : Value) (b : Nat) (hb : (b, #[vt], 230) ∈ l) (hv : TwoV l o1 o2 vt) (ho : OpdsOk f.loc [o1, o2] f.stk) (hn : f.stk.length ≤ 60) :
    Calls Tryz.prog 186 #[ptr mb, ptr (A0.FB rest.length), ptr b] w (ValE w0 B mb A0 s en l f rest (execP 9 a { f with stk := (gets f.loc [o1, o2] f.stk).1 ++ (gets f.loc [o1, o2] f.stk).2 } s.arr s.out)) := by
  have hx : execP 9 a { f with stk := (gets f.loc [o1, o2] f.stk).1 ++ (gets f.loc [o1, o2] f.stk).2 } s.arr s.out = ({ f with stk := (twoP 9 (o2.get f.loc (o1.get f.loc f.stk).2).1 (o1.get f.loc f.stk).1).1 :: (o2.get f.loc (o1.get f.loc f.stk).2).2 }, s.arr, s.out, 0) := by
    simp [gets, execP, twoP]
  generalize execP 9 a { f with stk := (gets f.loc [o1, o2] f.stk).1 ++ (gets f.loc [o1, o2] f.stk).2 } s.arr s.out = xx at *
  obtain ⟨g1, c1, e1, f1⟩ := hv.fn
  subst e1
  have H0 := hid (h.box #[.int .i64 0, .int .i64 0] 43)
  have hm1 : ∀ t, t ∈ l → t ∈ (w.heap.size, #[Value.int .i64 0, Value.int .i64 0], 43) :: l := fun t ht => List.mem_cons_of_mem _ ht
  have HG1 := hid (H0.out.getTwo hs (hv.mono hm1) ho hn)
  have hle := h.le.1
  have HB := hid h.boxfar
  have d1 := H0.out.hb.one (hm1 _ hb)
  have hbz : b < w.heap.size := h.lt _ hb
  have hnn : (o2.get f.loc (o1.get f.loc f.stk).2).2.length ≤ 60 := by have h1 := get_len o1 f.loc f.stk; have h2 := get_len o2 f.loc (o1.get f.loc f.stk).2; omega
  have HN := hid hnn
  clear hnn ho hv h
  unfold TwoE at HG1
  generalize hxx : (o1.get f.loc f.stk).1 = x at *
  generalize hyy : (o2.get f.loc (o1.get f.loc f.stk).2).1 = y at *
  generalize hst2 : (o2.get f.loc (o1.get f.loc f.stk).2).2 = st2 at *
  have HX := hid hx
  generalize hfb : A0.FB rest.length = fb at *
  clear hfb hx hxx hyy hst2 hb hn
  go_enter Tryz.func186, Tryz.ntmps186
  go_wp2_with fail
  generalize w.alloc (.cells #[.int .i64 0, .int .i64 0] 43) = W at *
  refine HG1.out.mono ?_
  rintro e w1 ⟨rfl, c1'⟩
  have H1 := hid c1'
  clear c1' HG1 H0 d1
  go_wp2_with fail
  refine (equalB y x w1).mono ?_
  rintro e w2 ⟨rfl, k2⟩
  have c3 := H1.out.below k2
  obtain ⟨x0, x1, z0, z1⟩ := c3.hb.two List.mem_cons_self
  have HW := hid (c3.write0 hle HB.out (.int .i64 (twoP 9 y x).1.k) (.int .i64 (twoP 9 y x).1.n))
  clear c3 k2 H1
  generalize (twoP 9 y x).1 = v at *
  go_wp2
  obtain ⟨y0, y1, _, _⟩ := HW.out.hb.two List.mem_cons_self
  exact bodyPost_ret (v := .agg #[.int .i64 v.k, .int .i64 v.n]) (by simp [results, Tryz.results186, go_sem, y0, y1]) rfl (Or.inl ⟨v, _, _, HX.out, HN.out, rfl, HW.out.drop (fun t ht => List.mem_cons_of_mem _ ht)⟩)

set_option maxRecDepth 100000 in
set_option maxHeartbeats 1000000 in
theorem val_len {w0 w : World} {B mb : Nat} {A0 : AdM} {s : Mc} {en : Int} {l : Bxs} (h : Cur w0 B mb A0 s en l w) {f : Fr} {rest : List Fr} (hs : s.fr = f :: rest) (a : Int) (o : Opd) (vo : Value) (b : Nat) (hb : (b, #[vo], 224) ∈ l) (hv : OpdV l o vo) (ho : OpdOk f.loc.length f.stk o) (hn : f.stk.length ≤ 60) (hk : (o.get f.loc f.stk).1.k = 2 → 0 ≤ (o.get f.loc f.stk).1.n ∧ (o.get f.loc f.stk).1.n < s.arr.length) :
    Calls Tryz.prog 189 #[ptr mb, ptr (A0.FB rest.length), ptr b] w (ValE w0 B mb A0 s en l f rest (execP 18 a { f with stk := (gets f.loc [o] f.stk).1 ++ (gets f.loc [o] f.stk).2 } s.arr s.out)) := by
  have hx : execP 18 a { f with stk := (gets f.loc [o] f.stk).1 ++ (gets f.loc [o] f.stk).2 } s.arr s.out = if (o.get f.loc f.stk).1.k ≠ 2 then ({ f with stk := (o.get f.loc f.stk).2 }, s.arr, s.out, 3) else ({ f with stk := vnum ((s.arr.getD (o.get f.loc f.stk).1.n.toNat []).length : Int) :: (o.get f.loc f.stk).2 }, s.arr, s.out, 0) := by
    simp [gets, execP]
  generalize execP 18 a { f with stk := (gets f.loc [o] f.stk).1 ++ (gets f.loc [o] f.stk).2 } s.arr s.out = xx at *
  obtain ⟨g1, c1, e1, f1⟩ := hv.fn
  subst e1
  have H0 := hid (h.box #[.int .i64 0, .int .i64 0] 43)
  have hm1 : ∀ t, t ∈ l → t ∈ (w.heap.size, #[Value.int .i64 0, Value.int .i64 0], 43) :: l := fun t ht => List.mem_cons_of_mem _ ht
  have HG1 := hid (H0.out.get hs (hv.mono hm1) ho hn)
  have hle := h.le.1
  have HB := hid h.boxfar
  have d1 := H0.out.hb.one (hm1 _ hb)
  have hbz : b < w.heap.size := h.lt _ hb
  have hnn : (o.get f.loc f.stk).2.length ≤ 60 := Nat.le_trans (get_len o f.loc f.stk) hn
  have HN := hid hnn
  clear hnn ho hv h
  unfold GetE at HG1
  generalize hxx : (o.get f.loc f.stk).1 = x at *
  generalize hst2 : (o.get f.loc f.stk).2 = st2 at *
  have HX' := hid hx
  have HK := hid hk
  generalize hfb : A0.FB rest.length = fb at *
  clear hfb hx hxx hst2 hb hn hk
  go_enter Tryz.func189, Tryz.ntmps189
  go_wp2_with fail
  generalize w.alloc (.cells #[.int .i64 0, .int .i64 0] 43) = W at *
  refine HG1.out.mono ?_
  rintro e w1 ⟨rfl, c1', _⟩
  have H1 := hid c1'
  clear c1' HG1 H0 d1
  go_wp2_with fail
  refine (H1.out.length x HK.out).mono ?_
  rintro e w2 ⟨⟨hk2, he⟩ | ⟨hk2, rfl⟩, c3⟩
  · have HX := hid (HX'.out.trans (if_neg (by omega)))
    have he' : e = .returned (.agg #[.int .i64 (vnum ((s.arr.getD x.n.toNat []).length : Int)).k, .int .i64 (vnum ((s.arr.getD x.n.toNat []).length : Int)).n]) := he
    clear he
    generalize vnum ((s.arr.getD x.n.toNat []).length : Int) = v at *
    subst he'
    obtain ⟨x0, x1, z0, z1⟩ := c3.hb.two List.mem_cons_self
    have HW := hid (c3.write0 hle HB.out (.int .i64 v.k) (.int .i64 v.n))
    clear c3 H1 HK HX'
    go_wp2
    obtain ⟨y0, y1, _, _⟩ := HW.out.hb.two List.mem_cons_self
    exact bodyPost_ret (v := .agg #[.int .i64 v.k, .int .i64 v.n]) (by simp [results, Tryz.results189, go_sem, y0, y1]) rfl (Or.inl ⟨v, _, _, HX.out, HN.out, rfl, HW.out.drop (fun t ht => List.mem_cons_of_mem _ ht)⟩)
  · have hx2 := HX'.out.trans (if_pos hk2)
    exact ⟨rfl, ValE.trap hx2 (by decide) (c3.drop (fun t ht => List.mem_cons_of_mem _ ht))⟩

set_option maxRecDepth 100000 in
set_option maxHeartbeats 1000000 in
theorem val_reckon {w0 w : World} {B mb : Nat} {A0 : AdM} {s : Mc} {en : Int} {l : Bxs} (h : Cur w0 B mb A0 s en l w) {f : Fr} {rest : List Fr} (hs : s.fr = f :: rest) (a : Int) (op : Int) (hop : op = 4 ∨ op = 5 ∨ op = 6 ∨ op = 7 ∨ op = 8) (o1 o2 : Opd) (vt : Value) (b : Nat) (hb : (b, #[vt], 230) ∈ l) (hv : TwoV l o1 o2 vt) (ho : OpdsOk f.loc [o1, o2] f.stk) (hn : f.stk.length ≤ 60) (rb : Nat) (hr : (rb, #[.func (.func (ruleP op)) #[] #[]], 204) ∈ l) :
    Calls Tryz.prog 187 #[ptr mb, ptr (A0.FB rest.length), ptr b, ptr rb] w (ValE w0 B mb A0 s en l f rest (execP op a { f with stk := (gets f.loc [o1, o2] f.stk).1 ++ (gets f.loc [o1, o2] f.stk).2 } s.arr s.out)) := by
  have hx : execP op a { f with stk := (gets f.loc [o1, o2] f.stk).1 ++ (gets f.loc [o1, o2] f.stk).2 } s.arr s.out = if (twoP op (o2.get f.loc (o1.get f.loc f.stk).2).1 (o1.get f.loc f.stk).1).2 = 0 then ({ f with stk := (twoP op (o2.get f.loc (o1.get f.loc f.stk).2).1 (o1.get f.loc f.stk).1).1 :: (o2.get f.loc (o1.get f.loc f.stk).2).2 }, s.arr, s.out, 0) else ({ f with stk := (o2.get f.loc (o1.get f.loc f.stk).2).2 }, s.arr, s.out, (twoP op (o2.get f.loc (o1.get f.loc f.stk).2).1 (o1.get f.loc f.stk).1).2) := by
    rcases hop with rfl | rfl | rfl | rfl | rfl <;> simp [gets, execP]
  generalize execP op a { f with stk := (gets f.loc [o1, o2] f.stk).1 ++ (gets f.loc [o1, o2] f.stk).2 } s.arr s.out = xx at *
  have hrz : rb < w.heap.size := h.lt _ hr
  obtain ⟨g1, c1, e1, f1⟩ := hv.fn
  subst e1
  have H0 := hid (h.box #[.int .i64 0, .int .i64 0] 43)
  have hm1 : ∀ t, t ∈ l → t ∈ (w.heap.size, #[Value.int .i64 0, Value.int .i64 0], 43) :: l := fun t ht => List.mem_cons_of_mem _ ht
  have HG1 := hid (H0.out.getTwo hs (hv.mono hm1) ho hn)
  have hle := h.le.1
  have HB := hid h.boxfar
  have d1 := H0.out.hb.one (hm1 _ hb)
  have hbz : b < w.heap.size := h.lt _ hb
  have hnn : (o2.get f.loc (o1.get f.loc f.stk).2).2.length ≤ 60 := by have h1 := get_len o1 f.loc f.stk; have h2 := get_len o2 f.loc (o1.get f.loc f.stk).2; omega
  have HN := hid hnn
  clear hnn ho hv h
  unfold TwoE at HG1
  generalize hxx : (o1.get f.loc f.stk).1 = x at *
  generalize hyy : (o2.get f.loc (o1.get f.loc f.stk).2).1 = y at *
  generalize hst2 : (o2.get f.loc (o1.get f.loc f.stk).2).2 = st2 at *
  have HX' := hid hx
  have HO := hid hop
  have HR := hid hr
  have hm2 : ∀ t, t ∈ l → t ∈ (w.heap.size, #[Value.int .i64 0, Value.int .i64 0], 43) :: l := hm1
  generalize hrf : ruleP op = rf at *
  have HRF := hid hrf
  generalize hfb : A0.FB rest.length = fb at *
  clear hfb hx hxx hyy hst2 hb hn hop hr hrf
  go_enter Tryz.func187, Tryz.ntmps187
  go_wp2_with fail
  generalize w.alloc (.cells #[.int .i64 0, .int .i64 0] 43) = W at *
  refine HG1.out.mono ?_
  rintro e w1 ⟨rfl, c1'⟩
  have hsz1 := c1'.lt _ List.mem_cons_self
  have hsz1 : w.heap.size < w1.heap.size := hsz1
  have H1 := hid (cur_two c1' #[.int .i64 y.k, .int .i64 y.n] #[.int .i64 x.k, .int .i64 x.n] 43)
  clear c1' HG1 H0 d1
  have d2 := H1.out.hb.one (List.mem_cons_of_mem _ (List.mem_cons_of_mem _ (hm2 _ HR.out)))
  obtain ⟨u0, u1, _, _⟩ := H1.out.hb.two List.mem_cons_self
  obtain ⟨v0, v1, _, _⟩ := H1.out.hb.two (List.mem_cons_of_mem _ List.mem_cons_self)
  go_wp2_with fail
  clear d2 u0 u1 v0 v1
  generalize (w1.alloc (.cells #[.int .i64 y.k, .int .i64 y.n] 43)).alloc (.cells #[.int .i64 x.k, .int .i64 x.n] 43) = W1 at *
  have hrk := reckonedA op HO.out y x W1
  rw [HRF.out] at hrk
  refine hrk.mono ?_
  clear hrk
  rintro e w2 ⟨⟨h2, rfl⟩ | ⟨h2, rfl⟩, k2⟩
  · have HX := hid (HX'.out.trans (if_pos h2))
    have c3 := (H1.out.below k2).drop (l' := (w.heap.size, #[Value.int .i64 0, Value.int .i64 0], 43) :: l) (fun t ht => List.mem_cons_of_mem _ (List.mem_cons_of_mem _ ht))
    obtain ⟨x0, x1, z0, z1⟩ := c3.hb.two List.mem_cons_self
    have HW := hid (c3.write0 hle HB.out (.int .i64 (twoP op y x).1.k) (.int .i64 (twoP op y x).1.n))
    clear c3 k2 H1 h2 HX'
    generalize (twoP op y x).1 = v at *
    go_wp2
    obtain ⟨y0, y1, _, _⟩ := HW.out.hb.two List.mem_cons_self
    exact bodyPost_ret (v := .agg #[.int .i64 v.k, .int .i64 v.n]) (by simp [results, Tryz.results187, go_sem, y0, y1]) rfl (Or.inl ⟨v, _, _, HX.out, HN.out, rfl, HW.out.drop (fun t ht => List.mem_cons_of_mem _ ht)⟩)
  · have hx2 := HX'.out.trans (if_neg h2)
    exact ⟨rfl, ValE.trap hx2 h2 ((H1.out.below k2).drop (fun t ht => List.mem_cons_of_mem _ (List.mem_cons_of_mem _ (List.mem_cons_of_mem _ ht))))⟩

set_option maxRecDepth 100000 in
set_option maxHeartbeats 1000000 in
theorem val_new {w0 w : World} {B mb : Nat} {A0 : AdM} {s : Mc} {en : Int} {l : Bxs} (h : Cur w0 B mb A0 s en l w) {f : Fr} {rest : List Fr} (hs : s.fr = f :: rest) (a : Int) (o : Opd) (vo : Value) (b : Nat) (hb : (b, #[vo], 224) ∈ l) (hv : OpdV l o vo) (ho : OpdOk f.loc.length f.stk o) (hn : f.stk.length ≤ 60) (hm : s.arr.length ≤ 150000) (hc : cellsP s.arr ≤ 200) :
    Calls Tryz.prog 188 #[ptr mb, ptr (A0.FB rest.length), ptr b] w (ValE w0 B mb A0 s en l f rest (execP 15 a { f with stk := (gets f.loc [o] f.stk).1 ++ (gets f.loc [o] f.stk).2 } s.arr s.out)) := by
  have hx : execP 15 a { f with stk := (gets f.loc [o] f.stk).1 ++ (gets f.loc [o] f.stk).2 } s.arr s.out = if (o.get f.loc f.stk).1.k ≠ 1 then ({ f with stk := (o.get f.loc f.stk).2 }, s.arr, s.out, 3) else if (o.get f.loc f.stk).1.n < 0 then ({ f with stk := (o.get f.loc f.stk).2 }, s.arr, s.out, 5) else if 200 - cellsP s.arr < (o.get f.loc f.stk).1.n then ({ f with stk := (o.get f.loc f.stk).2 }, s.arr, s.out, 8) else ({ f with stk := ⟨2, (s.arr.length : Int)⟩ :: (o.get f.loc f.stk).2 }, s.arr ++ [List.replicate (o.get f.loc f.stk).1.n.toNat vnil], s.out, 0) := by
    simp [gets, execP]
  generalize execP 15 a { f with stk := (gets f.loc [o] f.stk).1 ++ (gets f.loc [o] f.stk).2 } s.arr s.out = xx at *
  obtain ⟨g1, c1, e1, f1⟩ := hv.fn
  subst e1
  have H0 := hid (h.box #[.int .i64 0, .int .i64 0] 43)
  have hm1 : ∀ t, t ∈ l → t ∈ (w.heap.size, #[Value.int .i64 0, Value.int .i64 0], 43) :: l := fun t ht => List.mem_cons_of_mem _ ht
  have HG1 := hid (H0.out.get hs (hv.mono hm1) ho hn)
  have hle := h.le.1
  have HB := hid h.boxfar
  have d1 := H0.out.hb.one (hm1 _ hb)
  have hbz : b < w.heap.size := h.lt _ hb
  have hnn : (o.get f.loc f.stk).2.length ≤ 60 := Nat.le_trans (get_len o f.loc f.stk) hn
  have HN := hid hnn
  clear hnn ho hv h
  unfold GetE at HG1
  generalize hxx : (o.get f.loc f.stk).1 = x at *
  generalize hst2 : (o.get f.loc f.stk).2 = st2 at *
  have HX' := hid hx
  have HK := hid (And.intro hm hc)
  generalize hfb : A0.FB rest.length = fb at *
  clear hfb hx hxx hst2 hb hn hm hc
  go_enter Tryz.func188, Tryz.ntmps188
  go_wp2_with fail
  generalize w.alloc (.cells #[.int .i64 0, .int .i64 0] 43) = W at *
  refine HG1.out.mono ?_
  rintro e w1 ⟨rfl, c1', _⟩
  have H1 := hid c1'
  clear c1' HG1 H0 d1
  go_wp2_with fail
  refine (H1.out.newArray x HK.out.1 HK.out.2).mono ?_
  rintro e w2 (⟨k1, rfl, c3⟩ | ⟨k1, k2, rfl, c3⟩ | ⟨k1, k2, k3, rfl, c3⟩ | ⟨k1, k2, k3, he, c3⟩)
  · have hx2 := HX'.out.trans (if_pos k1)
    exact ⟨rfl, ValE.trap hx2 (by decide) (c3.drop (fun t ht => List.mem_cons_of_mem _ ht))⟩
  · have hx2 := HX'.out.trans ((if_neg (by omega)).trans (if_pos k2))
    exact ⟨rfl, ValE.trap hx2 (by decide) (c3.drop (fun t ht => List.mem_cons_of_mem _ ht))⟩
  · have hx2 := HX'.out.trans ((if_neg (by omega)).trans ((if_neg (by omega)).trans (if_pos k3)))
    exact ⟨rfl, ValE.trap hx2 (by decide) (c3.drop (fun t ht => List.mem_cons_of_mem _ ht))⟩
  · have HX := hid (HX'.out.trans ((if_neg (by omega)).trans ((if_neg (by omega)).trans (if_neg (show ¬ 200 - cellsP s.arr < x.n from by have : x.n ≤ 200 - cellsP s.arr := k3; omega)))))
    have he' : e = .returned (.agg #[.int .i64 (⟨2, (s.arr.length : Int)⟩ : V).k, .int .i64 (⟨2, (s.arr.length : Int)⟩ : V).n]) := he
    clear he k1 k2 k3
    generalize (⟨2, (s.arr.length : Int)⟩ : V) = v at *
    subst he'
    obtain ⟨x0, x1, z0, z1⟩ := c3.hb.two List.mem_cons_self
    have HW := hid (c3.write0 hle HB.out (.int .i64 v.k) (.int .i64 v.n))
    clear c3 H1 HK HX'
    go_wp2
    obtain ⟨y0, y1, _, _⟩ := HW.out.hb.two List.mem_cons_self
    exact bodyPost_ret (v := .agg #[.int .i64 v.k, .int .i64 v.n]) (by simp [results, Tryz.results188, go_sem, y0, y1]) rfl (Or.inl ⟨v, _, _, HX.out, HN.out, rfl, HW.out.drop (fun t ht => List.mem_cons_of_mem _ ht)⟩)

set_option maxRecDepth 100000 in
set_option maxHeartbeats 1000000 in
theorem val_get {w0 w : World} {B mb : Nat} {A0 : AdM} {s : Mc} {en : Int} {l : Bxs} (h : Cur w0 B mb A0 s en l w) {f : Fr} {rest : List Fr} (hs : s.fr = f :: rest) (a : Int) (o1 o2 : Opd) (vt : Value) (b : Nat) (hb : (b, #[vt], 230) ∈ l) (hv : TwoV l o1 o2 vt) (ho : OpdsOk f.loc [o1, o2] f.stk) (hn : f.stk.length ≤ 60) (hk : (o2.get f.loc (o1.get f.loc f.stk).2).1.k = 2 → 0 ≤ (o2.get f.loc (o1.get f.loc f.stk).2).1.n ∧ (o2.get f.loc (o1.get f.loc f.stk).2).1.n < s.arr.length) :
    Calls Tryz.prog 190 #[ptr mb, ptr (A0.FB rest.length), ptr b] w (ValE w0 B mb A0 s en l f rest (execP 16 a { f with stk := (gets f.loc [o1, o2] f.stk).1 ++ (gets f.loc [o1, o2] f.stk).2 } s.arr s.out)) := by
  have hx : execP 16 a { f with stk := (gets f.loc [o1, o2] f.stk).1 ++ (gets f.loc [o1, o2] f.stk).2 } s.arr s.out = if whereP s.arr (o2.get f.loc (o1.get f.loc f.stk).2).1 (o1.get f.loc f.stk).1 = 0 then ({ f with stk := (s.arr.getD (o2.get f.loc (o1.get f.loc f.stk).2).1.n.toNat []).getD (o1.get f.loc f.stk).1.n.toNat vnil :: (o2.get f.loc (o1.get f.loc f.stk).2).2 }, s.arr, s.out, 0) else ({ f with stk := (o2.get f.loc (o1.get f.loc f.stk).2).2 }, s.arr, s.out, whereP s.arr (o2.get f.loc (o1.get f.loc f.stk).2).1 (o1.get f.loc f.stk).1) := by
    simp [gets, execP]
  generalize execP 16 a { f with stk := (gets f.loc [o1, o2] f.stk).1 ++ (gets f.loc [o1, o2] f.stk).2 } s.arr s.out = xx at *
  obtain ⟨g1, c1, e1, f1⟩ := hv.fn
  subst e1
  have H0 := hid (h.box #[.int .i64 0, .int .i64 0] 43)
  have hm1 : ∀ t, t ∈ l → t ∈ (w.heap.size, #[Value.int .i64 0, Value.int .i64 0], 43) :: l := fun t ht => List.mem_cons_of_mem _ ht
  have HG1 := hid (H0.out.getTwo hs (hv.mono hm1) ho hn)
  have hle := h.le.1
  have HB := hid h.boxfar
  have d1 := H0.out.hb.one (hm1 _ hb)
  have hbz : b < w.heap.size := h.lt _ hb
  have hnn : (o2.get f.loc (o1.get f.loc f.stk).2).2.length ≤ 60 := by have h1 := get_len o1 f.loc f.stk; have h2 := get_len o2 f.loc (o1.get f.loc f.stk).2; omega
  have HN := hid hnn
  clear hnn ho hv h
  unfold TwoE at HG1
  generalize hxx : (o1.get f.loc f.stk).1 = x at *
  generalize hyy : (o2.get f.loc (o1.get f.loc f.stk).2).1 = y at *
  generalize hst2 : (o2.get f.loc (o1.get f.loc f.stk).2).2 = st2 at *
  have HX' := hid hx
  have HK := hid hk
  generalize hfb : A0.FB rest.length = fb at *
  clear hfb hx hxx hyy hst2 hb hn hk
  go_enter Tryz.func190, Tryz.ntmps190
  go_wp2_with fail
  generalize w.alloc (.cells #[.int .i64 0, .int .i64 0] 43) = W at *
  refine HG1.out.mono ?_
  rintro e w1 ⟨rfl, c1'⟩
  have H1 := hid c1'
  clear c1' HG1 H0 d1
  go_wp2_with fail
  refine (H1.out.cell y x HK.out).mono ?_
  rintro e w2 ⟨⟨hw, bb, oo, rfl, k0, k1, _, _, _⟩ | ⟨hw, rfl⟩, c3⟩
  · have HX := hid (HX'.out.trans (if_pos hw))
    have k0' : w2.cell? ⟨bb, oo, none⟩ = some (.int .i64 ((s.arr.getD y.n.toNat []).getD x.n.toNat vnil).k) := k0
    have k1' : w2.cell? ⟨bb, oo + 1, none⟩ = some (.int .i64 ((s.arr.getD y.n.toNat []).getD x.n.toNat vnil).n) := k1
    clear k0 k1
    generalize (s.arr.getD y.n.toNat []).getD x.n.toNat vnil = v at *
    obtain ⟨x0, x1, z0, z1⟩ := c3.hb.two List.mem_cons_self
    have HW := hid (c3.write0 hle HB.out (.int .i64 v.k) (.int .i64 v.n))
    clear c3 H1 HK HX' hw
    go_wp2
    obtain ⟨y0, y1, _, _⟩ := HW.out.hb.two List.mem_cons_self
    exact bodyPost_ret (v := .agg #[.int .i64 v.k, .int .i64 v.n]) (by simp [results, Tryz.results190, go_sem, y0, y1]) rfl (Or.inl ⟨v, _, _, HX.out, HN.out, rfl, HW.out.drop (fun t ht => List.mem_cons_of_mem _ ht)⟩)
  · have hx2 := HX'.out.trans (if_neg hw)
    exact ⟨rfl, ValE.trap hx2 hw (c3.drop (fun t ht => List.mem_cons_of_mem _ ht))⟩
end Go.Proofs.YtkafkipjedpohaaGreatDoor
