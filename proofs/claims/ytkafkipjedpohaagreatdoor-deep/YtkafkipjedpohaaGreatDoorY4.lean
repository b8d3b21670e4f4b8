import Derived.Test.YtkafkipjedpohaaGreatDoorY2

/-
  Compiled code of the project's machine: deeds; what pushes, Pop, Print.
-/
namespace Go.Proofs.YtkafkipjedpohaaGreatDoor
open Go.RowKit

/-- A function value that reckons what an instruction pushes. -/
def ValV (l : Bxs) (op : Int) (os : List Opd) (v : Value) : Prop :=
  (op = 21 ∧ os = [] ∧ v = .func (.func 184) #[] #[]) ∨
  (op = 9 ∧ ∃ o1 o2 b vt, os = [o1, o2] ∧ v = .func (.func 186) #[] #[ptr b] ∧ (b, #[vt], 230) ∈ l ∧ TwoV l o1 o2 vt) ∨
  ((op = 4 ∨ op = 5 ∨ op = 6 ∨ op = 7 ∨ op = 8) ∧ ∃ o1 o2 b vt rb, os = [o1, o2] ∧ v = .func (.func 187) #[] #[ptr b, ptr rb] ∧ (b, #[vt], 230) ∈ l ∧ (rb, #[.func (.func (ruleP op)) #[] #[]], 204) ∈ l ∧ TwoV l o1 o2 vt) ∨
  (op = 15 ∧ ∃ o b vo, os = [o] ∧ v = .func (.func 188) #[] #[ptr b] ∧ (b, #[vo], 224) ∈ l ∧ OpdV l o vo) ∨
  (op = 18 ∧ ∃ o b vo, os = [o] ∧ v = .func (.func 189) #[] #[ptr b] ∧ (b, #[vo], 224) ∈ l ∧ OpdV l o vo) ∨
  (op = 16 ∧ ∃ o1 o2 b vt, os = [o1, o2] ∧ v = .func (.func 190) #[] #[ptr b] ∧ (b, #[vt], 230) ∈ l ∧ TwoV l o1 o2 vt)

theorem ValV.mono {l l' : Bxs} {op : Int} {os : List Opd} {v : Value} (h : ValV l op os v) (hl : ∀ t, t ∈ l → t ∈ l') : ValV l' op os v := by
  rcases h with h | ⟨h1, o1, o2, b, vt, h2, h3, h4, h5⟩ | ⟨h1, o1, o2, b, vt, rb, h2, h3, h4, h5, h6⟩ | ⟨h1, o, b, vo, h2, h3, h4, h5⟩ | ⟨h1, o, b, vo, h2, h3, h4, h5⟩ | ⟨h1, o1, o2, b, vt, h2, h3, h4, h5⟩
  · exact Or.inl h
  · exact Or.inr (Or.inl ⟨h1, o1, o2, b, vt, h2, h3, hl _ h4, h5.mono hl⟩)
  · exact Or.inr (Or.inr (Or.inl ⟨h1, o1, o2, b, vt, rb, h2, h3, hl _ h4, hl _ h5, h6.mono hl⟩))
  · exact Or.inr (Or.inr (Or.inr (Or.inl ⟨h1, o, b, vo, h2, h3, hl _ h4, h5.mono hl⟩)))
  · exact Or.inr (Or.inr (Or.inr (Or.inr (Or.inl ⟨h1, o, b, vo, h2, h3, hl _ h4, h5.mono hl⟩))))
  · exact Or.inr (Or.inr (Or.inr (Or.inr (Or.inr ⟨h1, o1, o2, b, vt, h2, h3, hl _ h4, h5.mono hl⟩))))

theorem cf_dup (args : Array Value) (X : World) : (callFunc 184 args).run Tryz.prog X = .ok (.enter 184 args) X := by go_simp
theorem cf_equal (args : Array Value) (X : World) : (callFunc 186 args).run Tryz.prog X = .ok (.enter 186 args) X := by go_simp
theorem cf_reckon (args : Array Value) (X : World) : (callFunc 187 args).run Tryz.prog X = .ok (.enter 187 args) X := by go_simp
theorem cf_array1 (args : Array Value) (X : World) : (callFunc 188 args).run Tryz.prog X = .ok (.enter 188 args) X := by go_simp
theorem cf_array2 (args : Array Value) (X : World) : (callFunc 189 args).run Tryz.prog X = .ok (.enter 189 args) X := by go_simp
theorem cf_array3 (args : Array Value) (X : World) : (callFunc 190 args).run Tryz.prog X = .ok (.enter 190 args) X := by go_simp

theorem ValV.fn {l : Bxs} {op : Int} {os : List Opd} {v : Value} (h : ValV l op os v) : ∃ g cap, FnV v g cap := by
  rcases h with ⟨_, _, h3⟩ | ⟨h1, o1, o2, b, vt, h2, h3, h4, h5⟩ | ⟨h1, o1, o2, b, vt, rb, h2, h3, h4, h5, h6⟩ | ⟨h1, o, b, vo, h2, h3, h4, h5⟩ | ⟨h1, o, b, vo, h2, h3, h4, h5⟩ | ⟨h1, o1, o2, b, vt, h2, h3, h4, h5⟩
  · exact ⟨_, _, h3, cf_dup⟩
  · exact ⟨_, _, h3, cf_equal⟩
  · exact ⟨_, _, h3, cf_reckon⟩
  · exact ⟨_, _, h3, cf_array1⟩
  · exact ⟨_, _, h3, cf_array2⟩
  · exact ⟨_, _, h3, cf_array3⟩

/-- What of a deed that is an instruction must be so. -/
structure InsOk (m : Nat) (s : Mc) (f : Fr) (op a : Int) (os : List Opd) : Prop where
  ok : OpdsOk f.loc os f.stk
  all : AllOk m s.arr.length ((gets f.loc os f.stk).1 ++ (gets f.loc os f.stk).2)
  pops : popsP op a ≤ ((gets f.loc os f.stk).1 ++ (gets f.loc os f.stk).2).length
  stk : f.stk.length ≤ 60
  arr : s.arr.length ≤ 150000
  cells : cellsP s.arr ≤ 200
  out : s.out.length ≤ 100000

theorem Cur.val {m : Nat} {w0 w : World} {B mb : Nat} {A0 : AdM} {s : Mc} {en : Int} {l : Bxs} (h : Cur w0 B mb A0 s en l w) {f : Fr} {rest : List Fr} (hs : s.fr = f :: rest) {op a : Int} {os : List Opd} {g : Nat} {cap : Array Value} (hv : ValV l op os (.func (.func g) #[] cap)) (hi : InsOk m s f op a os) :
    Calls Tryz.prog g (#[ptr mb, ptr (A0.FB rest.length)] ++ cap) w (ValE w0 B mb A0 s en l f rest (execP op a { f with stk := (gets f.loc os f.stk).1 ++ (gets f.loc os f.stk).2 } s.arr s.out)) := by
  have hall := hi.all
  have hok := hi.ok
  rcases hv with ⟨h1, h2, h3⟩ | ⟨h1, o1, o2, b, vt, h2, h3, h4, h5⟩ | ⟨h1, o1, o2, b, vt, rb, h2, h3, h4, h5, h6⟩ | ⟨h1, o, b, vo, h2, h3, h4, h5⟩ | ⟨h1, o, b, vo, h2, h3, h4, h5⟩ | ⟨h1, o1, o2, b, vt, h2, h3, h4, h5⟩
  all_goals
    injection h3 with e1 _ e2
    injection e1 with e1
    subst e1 e2 h2
  · subst h1
    have hp := hi.pops
    have : ((gets f.loc [] f.stk).1 ++ (gets f.loc [] f.stk).2) = f.stk := rfl
    rw [this] at hp
    obtain ⟨v, st, hst⟩ : ∃ v st, f.stk = v :: st := by
      cases hc : f.stk with
      | nil => rw [hc] at hp; simp [popsP, popsT] at hp
      | cons x r => exact ⟨x, r, rfl⟩
    exact val_dup h hs a v st hst hi.stk
  · subst h1
    exact val_equal h hs a o1 o2 vt b h4 h5 hok hi.stk
  · exact val_reckon h hs a op h1 o1 o2 vt b h4 h6 hok hi.stk rb h5
  · subst h1
    exact val_new h hs a o vo b h4 h5 hok.1 hi.stk hi.arr hi.cells
  · subst h1
    exact val_len h hs a o vo b h4 h5 hok.1 hi.stk (hall _ (by simp [gets])).1
  · subst h1
    exact val_get h hs a o1 o2 vt b h4 h5 hok hi.stk (hall _ (by simp [gets])).1

/-- What a deed that is an instruction leaves. -/
def InsE (w0 : World) (B mb : Nat) (A0 : AdM) (s : Mc) (en : Int) (l : Bxs) (rest : List Fr) (x : Fr × List (List V) × List V × Int) (e : Ending) (w' : World) : Prop :=
  ((x.2.2.2 = 0 ∧ e = .returned (.tuple #[])) ∨ (x.2.2.2 ≠ 0 ∧ e = trapE x.2.2.2)) ∧ Cur w0 B mb A0 { s with fr := x.1 :: rest, arr := x.2.1, out := x.2.2.1 } en l w'

theorem InsE.ok {w0 w' : World} {B mb : Nat} {A0 : AdM} {s : Mc} {en : Int} {l : Bxs} {rest : List Fr} {f' : Fr} {arr : List (List V)} {out : List V} {x : Fr × List (List V) × List V × Int} (hx : x = (f', arr, out, 0)) (h : Cur w0 B mb A0 { s with fr := f' :: rest, arr := arr, out := out } en l w') : InsE w0 B mb A0 s en l rest x (.returned (.tuple #[])) w' := by
  subst hx
  exact ⟨Or.inl ⟨rfl, rfl⟩, h⟩
theorem InsE.trap {w0 w' : World} {B mb : Nat} {A0 : AdM} {s : Mc} {en : Int} {l : Bxs} {rest : List Fr} {x : Fr × List (List V) × List V × Int} (hx : x.2.2.2 ≠ 0) (h : Cur w0 B mb A0 { s with fr := x.1 :: rest, arr := x.2.1, out := x.2.2.1 } en l w') : InsE w0 B mb A0 s en l rest x (trapE x.2.2.2) w' := ⟨Or.inr ⟨hx, rfl⟩, h⟩

set_option maxRecDepth 100000 in
set_option maxHeartbeats 1000000 in
theorem deed_push {m : Nat} {w0 w : World} {B mb : Nat} {A0 : AdM} {s : Mc} {en : Int} {l : Bxs} (h : Cur w0 B mb A0 s en l w) {f : Fr} {rest : List Fr} (hs : s.fr = f :: rest) {op a : Int} {os : List Opd} {vv : Value} {b : Nat} (hb : (b, #[vv], 229) ∈ l) (hv : ValV l op os vv) (hi : InsOk m s f op a os) :
    Calls Tryz.prog 193 #[ptr mb, ptr (A0.FB rest.length), ptr b] w (InsE w0 B mb A0 s en l rest (execP op a { f with stk := (gets f.loc os f.stk).1 ++ (gets f.loc os f.stk).2 } s.arr s.out)) := by
  obtain ⟨g, cap, e1, f1⟩ := hv.fn
  subst e1
  have HV := hid (h.drew.val hs hv hi)
  have H0 := hid h.drew
  have HB := hid hb
  generalize execP op a { f with stk := (gets f.loc os f.stk).1 ++ (gets f.loc os f.stk).2 } s.arr s.out = xx at *
  generalize hfb : A0.FB rest.length = fb at *
  have HF := hid hfb
  clear hfb hv hi h hb
  go_enter Tryz.func193, Tryz.ntmps193
  go_wp2_with fail
  refine region_lex (Hb l) [(false, 0), (false, 1), (false, 2), (false, 3), (false, 4), (false, 5), (true, 6), (true, 7)] (by kernel_rfl) (by kernel_rfl) (panic_body _ _) H0.out.hb ?_
  simp only [lexL, List.getElem?_cons_zero, List.getElem?_cons_succ]
  iterate 6 (refine lexW_free (by rfl) (by intro w' hS'; have y0 := hS'.one HB.out; clear hS'; go_simp; exact rfl) ?_; simp only [Act.put, List.setIfInBounds_toArray, List.set_cons_zero, List.set_cons_succ])
  generalize w.drew = w1 at HV H0 ⊢
  refine lexW_sole (fun K hK => ?_)
  go_simp
  refine HV.out.mono ?_
  rintro e w2 (⟨v, st, arr, hx, hst, rfl, c2⟩ | ⟨hx, rfl, c2⟩)
  · have H2 := hid c2
    have HX := hid hx
    refine hK.out _ _ c2.hb ?_
    clear hK K hx c2 HV H0
    refine lexW_sole (fun K hK => ?_)
    go_simp
    have hp := H2.out.push rfl (by show st.length ≤ 64; omega) v
    rw [HF.out] at hp
    refine hp.mono ?_
    rintro e w3 ⟨rfl, c3⟩
    refine hK.out _ _ c3.hb ?_
    have HQ := hid c3
    clear hK K c3 hp
    refine lexW_done ?_
    go_wp2
    go_end0
    exact InsE.ok HX.out HQ.out
  · exact ⟨rfl, InsE.trap hx c2⟩

set_option maxRecDepth 100000 in
set_option maxHeartbeats 1000000 in
theorem deed_drop {w0 w : World} {B mb : Nat} {A0 : AdM} {s : Mc} {en : Int} {l : Bxs} (h : Cur w0 B mb A0 s en l w) {f : Fr} {rest : List Fr} (hs : s.fr = f :: rest) (a : Int) (ho : f.stk ≠ []) (hn : f.stk.length ≤ 60) :
    Calls Tryz.prog 182 #[ptr mb, ptr (A0.FB rest.length)] w (InsE w0 B mb A0 s en l rest (execP 20 a { f with stk := (gets f.loc [.pop] f.stk).1 ++ (gets f.loc [.pop] f.stk).2 } s.arr s.out)) := by
  obtain ⟨v, st, hst⟩ : ∃ v st, f.stk = v :: st := by
    cases hc : f.stk with
    | nil => exact absurd hc ho
    | cons x r => exact ⟨x, r, rfl⟩
  have hx : execP 20 a { f with stk := (gets f.loc [.pop] f.stk).1 ++ (gets f.loc [.pop] f.stk).2 } s.arr s.out = ({ f with stk := st }, s.arr, s.out, 0) := by simp [gets, Opd.get, execP, hst]
  have HX := hid hx
  generalize execP 20 a { f with stk := (gets f.loc [.pop] f.stk).1 ++ (gets f.loc [.pop] f.stk).2 } s.arr s.out = xx at *
  have HP := hid (h.pop hs hst (by rw [hst] at hn; simp at hn; omega))
  generalize hfb : A0.FB rest.length = fb at *
  clear hfb hx hn hst ho h
  go_enter Tryz.func182, Tryz.ntmps182
  go_wp2_with fail
  refine HP.out.mono ?_
  rintro e w1 ⟨rfl, c1⟩
  have HQ := hid c1
  clear c1 HP
  go_wp2
  go_end0
  exact InsE.ok HX.out HQ.out

set_option maxRecDepth 100000 in
set_option maxHeartbeats 1000000 in
theorem deed_print {w0 w : World} {B mb : Nat} {A0 : AdM} {s : Mc} {en : Int} {l : Bxs} (h : Cur w0 B mb A0 s en l w) {f : Fr} {rest : List Fr} (hs : s.fr = f :: rest) (a : Int) (o : Opd) (vo : Value) (b : Nat) (hb : (b, #[vo], 224) ∈ l) (hv : OpdV l o vo) (ho : OpdOk f.loc.length f.stk o) (hn : f.stk.length ≤ 60) (hout : s.out.length ≤ 100000) :
    Calls Tryz.prog 170 #[ptr mb, ptr (A0.FB rest.length), ptr b] w (InsE w0 B mb A0 s en l rest (execP 19 a { f with stk := (gets f.loc [o] f.stk).1 ++ (gets f.loc [o] f.stk).2 } s.arr s.out)) := by
  have hx : execP 19 a { f with stk := (gets f.loc [o] f.stk).1 ++ (gets f.loc [o] f.stk).2 } s.arr s.out = ({ f with stk := (o.get f.loc f.stk).2 }, s.arr, s.out ++ [(o.get f.loc f.stk).1], 0) := by simp [gets, execP]
  have HX := hid hx
  generalize execP 19 a { f with stk := (gets f.loc [o] f.stk).1 ++ (gets f.loc [o] f.stk).2 } s.arr s.out = xx at *
  obtain ⟨g1, c1, e1, f1⟩ := hv.fn
  subst e1
  have HG := hid (h.get hs hv ho hn)
  have d1 := h.hb.one hb
  have HO := hid hout
  unfold GetE at HG
  generalize (o.get f.loc f.stk).1 = x at *
  generalize (o.get f.loc f.stk).2 = st2 at *
  generalize hfb : A0.FB rest.length = fb at *
  clear hfb hx hn ho h hv hb hout
  go_enter Tryz.func170, Tryz.ntmps170
  go_wp2_with fail
  refine HG.out.mono ?_
  rintro e w1 ⟨rfl, c1, _⟩
  have H1 := hid c1
  clear c1 HG d1
  go_wp2_with fail
  refine (H1.out.print x HO.out).mono ?_
  rintro e w2 ⟨rfl, c2⟩
  have HQ := hid c2
  clear c2 H1
  go_wp2
  go_end0
  exact InsE.ok HX.out HQ.out
end Go.Proofs.YtkafkipjedpohaaGreatDoor

/-
  Compiled code of the project's machine: the deeds Store, Set.
-/
namespace Go.Proofs.YtkafkipjedpohaaGreatDoor
open Go.RowKit

set_option maxRecDepth 100000 in
set_option maxHeartbeats 1000000 in
theorem deed_store {w0 w : World} {B mb : Nat} {A0 : AdM} {s : Mc} {en : Int} {l : Bxs} (h : Cur w0 B mb A0 s en l w) {f : Fr} {rest : List Fr} (hs : s.fr = f :: rest) (i : Nat) (hi : i < f.loc.length) (o : Opd) (vo : Value) (b lb0 : Nat) (hb : (b, #[vo], 224) ∈ l) (hlb : (lb0, #[.int .i64 i], 3) ∈ l) (hv : OpdV l o vo) (ho : OpdOk f.loc.length f.stk o) (hn : f.stk.length ≤ 60) :
    Calls Tryz.prog 181 #[ptr mb, ptr (A0.FB rest.length), ptr b, ptr lb0] w (InsE w0 B mb A0 s en l rest (execP 3 i { f with stk := (gets f.loc [o] f.stk).1 ++ (gets f.loc [o] f.stk).2 } s.arr s.out)) := by
  have hx : execP 3 i { f with stk := (gets f.loc [o] f.stk).1 ++ (gets f.loc [o] f.stk).2 } s.arr s.out = ({ f with stk := (o.get f.loc f.stk).2, loc := f.loc.set i (o.get f.loc f.stk).1 }, s.arr, s.out, 0) := by simp [gets, execP]
  have HX := hid hx
  generalize execP 3 i { f with stk := (gets f.loc [o] f.stk).1 ++ (gets f.loc [o] f.stk).2 } s.arr s.out = xx at *
  obtain ⟨g1, c1, e1, f1⟩ := hv.fn
  subst e1
  have HG := hid (h.drew.get hs hv ho hn)
  obtain ⟨lb, lcap, k0, _, _, _, _, kne⟩ := h.drew.loc hs hi
  have HB := hid (And.intro hb hlb)
  have H0 := hid h.drew
  have HI := hid hi
  unfold GetE at HG
  generalize (o.get f.loc f.stk).1 = v at *
  generalize (o.get f.loc f.stk).2 = st at *
  generalize hfb : A0.FB rest.length = fb at *
  have HF := hid hfb
  have KL := hid k0
  clear hfb hx hn ho h hv hb hlb k0
  have hi0 : (0 : Int) ≤ (i : Int) := by omega
  have hi1 : (i : Int) < (f.loc.length : Int) := by omega
  go_enter Tryz.func181, Tryz.ntmps181
  go_wp2_with fail
  refine region_lex (fun w' => Hb l w' ∧ w'.cell? ⟨fb, 2, none⟩ = some (.slice (some ⟨lb, 0, none⟩) f.loc.length lcap)) [(false, 0), (false, 1), (false, 2), (false, 3), (false, 4), (false, 5), (false, 6), (true, 7), (true, 8), (true, 9)] (by kernel_rfl) (by kernel_rfl) (panic_body _ _) ⟨H0.out.hb, KL.out⟩ ?_
  simp only [lexL, List.getElem?_cons_zero, List.getElem?_cons_succ]
  generalize hll : f.loc.length = ll at *
  have HLL := hid hll
  clear hll
  iterate 7 (refine lexW_free (by rfl) (by intro w' hS'; obtain ⟨hb, y0⟩ := hS'; have y1 := hb.one HB.out.1; have y2 := hb.one HB.out.2; clear hb; go_simp; exact rfl) ?_; simp only [Act.put, List.setIfInBounds_toArray, List.set_cons_zero, List.set_cons_succ])
  generalize w.drew = w1 at HG H0 KL ⊢
  refine lexW_sole (fun K hK => ?_)
  go_simp
  refine HG.out.mono ?_
  rintro e w3 ⟨rfl, c3, k3⟩
  have H3 := hid c3
  have K3 := hid (k3.trans KL.out)
  refine hK.out _ _ ⟨c3.hb, K3.out⟩ ?_
  clear hK K c3 k3 HG H0
  refine lexW_sole (fun K hK => ?_)
  go_simp
  refine hK.out _ _ ⟨H3.out.hb, K3.out⟩ ?_
  clear hK K
  obtain ⟨lb2, lcap2, k0, k1, k2, f1', f2, _⟩ := H3.out.loc rfl (i := i) (by show i < f.loc.length; rw [HLL.out]; exact HI.out)
  rw [HF.out] at k0
  have e1 := k0.symm.trans K3.out
  have e2 : lb2 = lb := by
    injection e1 with e1
    injection e1 with e1
    injection e1 with e1
    injection e1 with e1
  subst e2
  have H4 := hid (H3.out.locset rfl (i := i) (lb := lb2) (lcap := lcap) (by show i < f.loc.length; rw [HLL.out]; exact HI.out) (by rw [HF.out]; show _ = some (Value.slice _ f.loc.length lcap); rw [HLL.out]; exact K3.out) v)
  clear e1 k0
  refine lexW_sole (fun K hK => ?_)
  go_simp
  refine hK.out _ _ ⟨H4.out.hb, ?_⟩ ?_
  · rw [World.cell?_setCell_far _ _ _ _ kne, World.cell?_setCell_far _ _ _ _ kne]
    exact K3.out
  clear hK K
  refine lexW_done ?_
  go_wp2
  go_end0
  exact InsE.ok HX.out H4.out

set_option maxRecDepth 100000 in
set_option maxHeartbeats 1000000 in
theorem deed_set {w0 w : World} {B mb : Nat} {A0 : AdM} {s : Mc} {en : Int} {l : Bxs} (h : Cur w0 B mb A0 s en l w) {f : Fr} {rest : List Fr} (hs : s.fr = f :: rest) (a : Int) (o o1 o2 : Opd) (vo vt : Value) (b tb : Nat) (hb : (b, #[vo], 224) ∈ l) (htb : (tb, #[vt], 230) ∈ l) (hv : OpdV l o vo) (ht : TwoV l o1 o2 vt) (ho : OpdsOk f.loc [o, o1, o2] f.stk) (hn : f.stk.length ≤ 60)
    (hk : (o2.get f.loc (o1.get f.loc (o.get f.loc f.stk).2).2).1.k = 2 → 0 ≤ (o2.get f.loc (o1.get f.loc (o.get f.loc f.stk).2).2).1.n ∧ (o2.get f.loc (o1.get f.loc (o.get f.loc f.stk).2).2).1.n < s.arr.length) :
    Calls Tryz.prog 191 #[ptr mb, ptr (A0.FB rest.length), ptr b, ptr tb] w (InsE w0 B mb A0 s en l rest (execP 17 a { f with stk := (gets f.loc [o, o1, o2] f.stk).1 ++ (gets f.loc [o, o1, o2] f.stk).2 } s.arr s.out)) := by
  have hx : execP 17 a { f with stk := (gets f.loc [o, o1, o2] f.stk).1 ++ (gets f.loc [o, o1, o2] f.stk).2 } s.arr s.out = if whereP s.arr (o2.get f.loc (o1.get f.loc (o.get f.loc f.stk).2).2).1 (o1.get f.loc (o.get f.loc f.stk).2).1 = 0 then ({ f with stk := (o2.get f.loc (o1.get f.loc (o.get f.loc f.stk).2).2).2 }, s.arr.set (o2.get f.loc (o1.get f.loc (o.get f.loc f.stk).2).2).1.n.toNat ((s.arr.getD (o2.get f.loc (o1.get f.loc (o.get f.loc f.stk).2).2).1.n.toNat []).set (o1.get f.loc (o.get f.loc f.stk).2).1.n.toNat (o.get f.loc f.stk).1), s.out, 0) else ({ f with stk := (o2.get f.loc (o1.get f.loc (o.get f.loc f.stk).2).2).2 }, s.arr, s.out, whereP s.arr (o2.get f.loc (o1.get f.loc (o.get f.loc f.stk).2).2).1 (o1.get f.loc (o.get f.loc f.stk).2).1) := by
    simp [gets, execP]
  have HX := hid hx
  generalize execP 17 a { f with stk := (gets f.loc [o, o1, o2] f.stk).1 ++ (gets f.loc [o, o1, o2] f.stk).2 } s.arr s.out = xx at *
  obtain ⟨g1, c1, e1, f1⟩ := hv.fn
  subst e1
  obtain ⟨g2, c2, e2, f2⟩ := ht.fn
  subst e2
  have HG := hid (h.get hs hv ho.1 hn)
  have HT := hid (And.intro ht (And.intro ho.2 (Nat.le_trans (get_len o f.loc f.stk) hn)))
  have d1 := h.hb.one hb
  have HB := hid htb
  unfold GetE at HG
  have HTE := hid (show ∀ (l' : Bxs) e w', TwoE w0 B mb A0 { s with fr := { f with stk := (o.get f.loc f.stk).2 } :: rest } en l' { f with stk := (o.get f.loc f.stk).2 } rest o1 o2 e w' → e = .returned (.tuple #[.agg #[.int .i64 (o2.get f.loc (o1.get f.loc (o.get f.loc f.stk).2).2).1.k, .int .i64 (o2.get f.loc (o1.get f.loc (o.get f.loc f.stk).2).2).1.n], .agg #[.int .i64 (o1.get f.loc (o.get f.loc f.stk).2).1.k, .int .i64 (o1.get f.loc (o.get f.loc f.stk).2).1.n]]) ∧ Cur w0 B mb A0 { s with fr := { f with stk := (o2.get f.loc (o1.get f.loc (o.get f.loc f.stk).2).2).2 } :: rest } en l' w' from fun l' e w' h => h)
  generalize (o.get f.loc f.stk).1 = v at *
  generalize (o.get f.loc f.stk).2 = st at *
  generalize (o1.get f.loc st).1 = i at *
  generalize (o2.get f.loc (o1.get f.loc st).2).1 = av at *
  generalize (o2.get f.loc (o1.get f.loc st).2).2 = st2 at *
  have HK := hid hk
  generalize hfb : A0.FB rest.length = fb at *
  have HF := hid hfb
  clear hfb hx hn ho h hv ht hb htb hk
  go_enter Tryz.func191, Tryz.ntmps191
  go_wp2_with fail
  refine HG.out.mono ?_
  rintro e w1 ⟨rfl, c1', _⟩
  have H1 := hid (c1'.box #[.int .i64 v.k, .int .i64 v.n] 43)
  clear c1' HG d1
  go_wp2_with fail
  generalize w1.alloc (.cells #[.int .i64 v.k, .int .i64 v.n] 43) = W1 at *
  have H3 := hid H1.out.drew
  clear H1
  refine region_lex (Hb ((w1.heap.size, #[Value.int .i64 v.k, Value.int .i64 v.n], 43) :: l)) [(false, 0), (false, 1), (false, 2), (false, 7), (true, 3), (false, 4), (false, 5), (true, 6), (true, 8), (true, 9)] (by kernel_rfl) (by kernel_rfl) (panic_body _ _) H3.out.hb ?_
  simp only [lexL, List.getElem?_cons_zero, List.getElem?_cons_succ]
  iterate 4 (refine lexW_free (by rfl) (by intro w' hS'; obtain ⟨y0, z0, _, _⟩ := hS'.two List.mem_cons_self; have y1 := hS'.one (List.mem_cons_of_mem _ HB.out); clear hS'; go_simp; exact rfl) ?_; simp only [Act.put, List.setIfInBounds_toArray, List.set_cons_zero, List.set_cons_succ])
  generalize W1.drew = w3 at H3 ⊢
  refine lexW_sole (fun K hK => ?_)
  go_simp
  have hp := H3.out.getTwo (f := { f with stk := st }) (rest := rest) rfl (HT.out.1.mono (fun t ht => List.mem_cons_of_mem _ ht)) HT.out.2.1 HT.out.2.2
  rw [HF.out] at hp
  refine hp.mono ?_
  rintro e w4 h4
  obtain ⟨rfl, c4⟩ := HTE.out _ e w4 h4
  have H4 := hid c4
  refine hK.out _ _ c4.hb ?_
  clear hK K c4 h4 hp H3 HTE HT
  iterate 2 (refine lexW_free (by rfl) (by intro w' hS'; clear hS'; go_simp; exact rfl) ?_; simp only [Act.put, List.setIfInBounds_toArray, List.set_cons_zero, List.set_cons_succ])
  refine lexW_sole (fun K hK => ?_)
  go_simp
  refine (H4.out.cell av i HK.out).mono ?_
  rintro e w5 ⟨⟨hw, bb, oo, rfl, k0, k1, f0, f1', kc⟩ | ⟨hw, rfl⟩, c5⟩
  · have H5 := hid c5
    have H6 := hid (kc v)
    have HX2 := hid (HX.out.trans (if_pos hw))
    generalize (s.arr.getD av.n.toNat []).getD i.n.toNat vnil = x at *
    refine hK.out _ _ c5.hb ?_
    clear hK K c5 H4 hw kc
    refine lexW_sole (fun K hK => ?_)
    go_simp
    refine hK.out _ _ H5.out.hb ?_
    clear hK K
    refine lexW_sole (fun K hK => ?_)
    go_simp
    refine hK.out _ _ H6.out.hb ?_
    clear hK K
    refine lexW_done ?_
    go_wp2
    go_end0
    exact InsE.ok HX2.out (H6.out.drop (fun t ht => List.mem_cons_of_mem _ ht))
  · have hx2 := HX.out.trans (if_neg hw)
    have hw' : xx.2.2.2 ≠ 0 := by rw [hx2]; exact hw
    have ht := InsE.trap (w0 := w0) (B := B) (mb := mb) (A0 := A0) (s := s) (en := en) (l := l) (rest := rest) (w' := w5) hw' (by rw [hx2]; exact c5.drop (fun t ht => List.mem_cons_of_mem _ ht))
    rw [hx2] at ht
    refine ⟨rfl, ?_⟩
    rw [hx2]
    exact ht
end Go.Proofs.YtkafkipjedpohaaGreatDoor
