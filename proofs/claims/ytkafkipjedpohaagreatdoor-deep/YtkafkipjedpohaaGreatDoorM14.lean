import Derived.Test.YtkafkipjedpohaaGreatDoorM12

/-
  The project's machine: straight: Load, Store.
-/
namespace Go.Proofs.YtkafkipjedpohaaGreatDoor
open Go.RowKit

/-- The locals of the frame at hand. -/
theorem Cur.loc {w0 w : World} {B mb : Nat} {A0 : AdM} {s : Mc} {en : Int} {l : List (Nat × Array Value × TypeId)} (h : Cur w0 B mb A0 s en l w) {f : Fr} {rest : List Fr} (hs : s.fr = f :: rest) {i : Nat} (hi : i < f.loc.length) :
    ∃ lb lcap, w.cell? ⟨A0.FB rest.length, 2, none⟩ = some (.slice (some ⟨lb, 0, none⟩) f.loc.length lcap) ∧ w.cell? ⟨lb, i * 2, none⟩ = some (.int .i64 (f.loc.getD i vnil).k) ∧ w.cell? ⟨lb, i * 2 + 1, none⟩ = some (.int .i64 (f.loc.getD i vnil).n) ∧ w.frozen? ⟨lb, i * 2, none⟩ = false ∧ w.frozen? ⟨lb, i * 2 + 1, none⟩ = false ∧ lb ≠ A0.FB rest.length := by
  obtain ⟨hB, A, h1, h2, h3, h4⟩ := h
  have hfb : A.FB = A0.FB := by unfold AdM.FB; rw [h2]
  have hlen : s.fr.length = rest.length + 1 := by rw [hs]; rfl
  have e0 : frAt s.fr rest.length = f := by rw [hs]; exact frAt_top _ _
  obtain ⟨g1, g2, g3⟩ := h1.fb rest.length (by omega)
  have hloc := h1.loc rest.length (by omega)
  rw [e0] at g1 hloc
  obtain ⟨lb, lcap, hlv, hlb, hlz, hlt, hlc⟩ := hloc.form (by omega)
  rw [hlv] at hloc
  have x0 := hloc.cell (i := i * 2) (by omega)
  have x1 := hloc.cell (i := i * 2 + 1) (by omega)
  rw [(vcell_two _ _).1] at x0
  rw [(vcell_two _ _).2] at x1
  rw [← hfb]
  refine ⟨lb, lcap, ?_, x0, x1, hloc.frozen _, hloc.frozen _, fun e => ?_⟩
  · rw [cell_heap g1, ← hlv]
    rfl
  · rw [e] at hlt
    omega

/-- Push: the locals stay where they are. -/
theorem Cur.pushL {w0 w : World} {B mb : Nat} {A0 : AdM} {s : Mc} {en : Int} {l : List (Nat × Array Value × TypeId)} (h : Cur w0 B mb A0 s en l w) {f : Fr} {rest : List Fr} (hs : s.fr = f :: rest) (hn : f.stk.length ≤ 64) (v : V) :
    Calls Tryz.prog 132 #[.pointer (some ⟨A0.FB rest.length, 3, none⟩), .agg #[.int .i64 v.k, .int .i64 v.n]] w fun e w' => e = .returned (.tuple #[]) ∧ Cur w0 B mb A0 { s with fr := { f with stk := v :: f.stk } :: rest } en l w' ∧
      ∀ lb lcap, 1 ≤ f.loc.length → w.cell? ⟨A0.FB rest.length, 2, none⟩ = some (.slice (some ⟨lb, 0, none⟩) f.loc.length lcap) → w'.cell? ⟨A0.FB rest.length, 2, none⟩ = some (.slice (some ⟨lb, 0, none⟩) f.loc.length lcap) ∧ ∀ o, w'.cell? ⟨lb, o, none⟩ = w.cell? ⟨lb, o, none⟩ := by
  have hle := h.le.2
  obtain ⟨hB, A, h1, h2, h3, h4⟩ := h
  have hfb : A.FB = A0.FB := by unfold AdM.FB; rw [h2]
  rw [← hfb]
  have hlen : s.fr.length = rest.length + 1 := by rw [hs]; rfl
  have e0 : frAt s.fr rest.length = f := by rw [hs]; exact frAt_top _ _
  obtain ⟨g1, g2, g3⟩ := h1.fb rest.length (by omega)
  have hrow := h1.stk rest.length (by omega)
  have hloc := h1.loc rest.length (by omega)
  rw [e0] at g1 hrow hloc
  have hcl := cell_heap (o := 2) g1
  refine (pushV w B _ 3 _ _ A.tag _ _ f.stk v g1 rfl g2 hle (by rw [g3]; omega) hrow (by omega)).mono ?_
  rintro e w' ⟨rfl, tag', sv', k1, k2, k3⟩
  have k4 : Ch B (Tk rest.length) A.tag tag' w w' := k3.mono (fun d hd => by rw [g3] at hd; unfold Tk; omega)
  have hA : Aft (Tk rest.length) w w' B mb A { s with fr := { f with stk := v :: f.stk } :: rest } en := ⟨_, h1.top hs k4 k2 (hloc.keep k3 (by rw [g3]; omega)) k1, rfl, k4⟩
  refine ⟨rfl, Cur.aft hB h2 h3 h4 (fun _ => tk_n5) hA, fun lb lcap hl1 hlc => ?_⟩
  obtain ⟨lb', lcap', hlv, _, hlz, hlt, _⟩ := hloc.form hl1
  rw [hcl] at hlc
  have e1 : (.slice (some ⟨lb', 0, none⟩) f.loc.length lcap' : Value) = .slice (some ⟨lb, 0, none⟩) f.loc.length lcap := by rw [← hlv]; exact Option.some.inj hlc
  injection e1 with e1 _ e2
  injection e1 with e1
  injection e1 with e1 _
  subst e1
  refine ⟨?_, fun o => World.cell?_of_block (k3.block lb' hlz (Or.inr (by rw [hlt, g3]; omega)))⟩
  rw [cell_heap k2]
  exact hlc

/-- Pop: the locals stay where they are. -/
theorem Cur.popL {w0 w : World} {B mb : Nat} {A0 : AdM} {s : Mc} {en : Int} {l : List (Nat × Array Value × TypeId)} (h : Cur w0 B mb A0 s en l w) {f : Fr} {rest : List Fr} (hs : s.fr = f :: rest) {v : V} {st : List V} (hst : f.stk = v :: st) (hn : st.length ≤ 64) :
    Calls Tryz.prog 129 #[.pointer (some ⟨A0.FB rest.length, 3, none⟩)] w fun e w' => e = .returned (.agg #[.int .i64 v.k, .int .i64 v.n]) ∧ Cur w0 B mb A0 { s with fr := { f with stk := st } :: rest } en l w' ∧ w'.cell? ⟨A0.FB rest.length, 2, none⟩ = w.cell? ⟨A0.FB rest.length, 2, none⟩ := by
  obtain ⟨hB, A, h1, h2, h3, h4⟩ := h
  have hfb : A.FB = A0.FB := by unfold AdM.FB; rw [h2]
  rw [← hfb]
  have hlen : s.fr.length = rest.length + 1 := by rw [hs]; rfl
  have e0 : frAt s.fr rest.length = f := by rw [hs]; exact frAt_top _ _
  obtain ⟨g1, g2, g3⟩ := h1.fb rest.length (by omega)
  have hrow := h1.stk rest.length (by omega)
  have hloc := h1.loc rest.length (by omega)
  rw [e0] at g1 hrow hloc
  rw [hst] at hrow
  refine (popV w B _ 3 _ _ A.tag _ _ st v g1 rfl g2 (by rw [g3]; omega) hrow (by omega)).mono ?_
  rintro e w' ⟨rfl, sv', k1, k2, k3⟩
  have k4 : Ch B (Tk rest.length) A.tag A.tag w w' := k3.mono (fun d hd => by rw [g3] at hd; unfold Tk; omega)
  have hA : Aft (Tk rest.length) w w' B mb A { s with fr := { f with stk := st } :: rest } en := ⟨_, h1.top hs k4 k2 (hloc.keep k3 (by rw [g3]; omega)) k1, rfl, k4⟩
  refine ⟨rfl, Cur.aft hB h2 h3 h4 (fun _ => tk_n5) hA, ?_⟩
  rw [cell_heap k2, cell_heap g1]
  rfl

/-- A local is written. -/
theorem Cur.locset {w0 w : World} {B mb : Nat} {A0 : AdM} {s : Mc} {en : Int} {l : List (Nat × Array Value × TypeId)} (h : Cur w0 B mb A0 s en l w) {f : Fr} {rest : List Fr} (hs : s.fr = f :: rest) {i lb lcap : Nat} (hi : i < f.loc.length) (hc : w.cell? ⟨A0.FB rest.length, 2, none⟩ = some (.slice (some ⟨lb, 0, none⟩) f.loc.length lcap)) (v : V) :
    Cur w0 B mb A0 { s with fr := { f with loc := f.loc.set i v } :: rest } en l ((w.setCell ⟨lb, i * 2, none⟩ (.int .i64 v.k)).setCell ⟨lb, i * 2 + 1, none⟩ (.int .i64 v.n)) := by
  obtain ⟨hB, A, h1, h2, h3, h4⟩ := h
  have hfb : A.FB = A0.FB := by unfold AdM.FB; rw [h2]
  rw [← hfb] at hc
  have hlen : s.fr.length = rest.length + 1 := by rw [hs]; rfl
  have e0 : frAt s.fr rest.length = f := by rw [hs]; exact frAt_top _ _
  obtain ⟨g1, g2, g3⟩ := h1.fb rest.length (by omega)
  have hrow := h1.stk rest.length (by omega)
  have hloc := h1.loc rest.length (by omega)
  rw [e0] at g1 hrow hloc
  obtain ⟨lb', lcap', hlv, hlb, hlz, hlt, _⟩ := hloc.form (by omega)
  rw [cell_heap g1] at hc
  have e1 : (.slice (some ⟨lb', 0, none⟩) f.loc.length lcap' : Value) = .slice (some ⟨lb, 0, none⟩) f.loc.length lcap := by rw [← hlv]; exact Option.some.inj hc
  injection e1 with e1 _ e2
  injection e1 with e1
  injection e1 with e1 _
  subst e1
  have hch : Ch B (fun c => c = 11 + 4 * rest.length) A.tag A.tag w ((w.setCell ⟨lb', i * 2, none⟩ (.int .i64 v.k)).setCell ⟨lb', i * 2 + 1, none⟩ (.int .i64 v.n)) :=
    ((Ch.refl B _ A.tag w).setOld (a := ⟨lb', _, none⟩) hlb (fun _ => hlt) _).setOld (a := ⟨lb', _, none⟩) hlb (fun _ => hlt) _
  have k4 : Ch B (Tk rest.length) A.tag A.tag w ((w.setCell ⟨lb', i * 2, none⟩ (.int .i64 v.k)).setCell ⟨lb', i * 2 + 1, none⟩ (.int .i64 v.n)) := hch.mono (fun d hd => by unfold Tk; omega)
  have hl2 : Row ((w.setCell ⟨lb', i * 2, none⟩ (.int .i64 v.k)).setCell ⟨lb', i * 2 + 1, none⟩ (.int .i64 v.n)) B A.tag (11 + 4 * rest.length) 43 2 (A.LV rest.length) (f.loc.set i v).length (vcell (f.loc.set i v)) := by
    rw [List.length_set, hlv]
    rw [hlv] at hloc
    exact ((hloc.set (i * 2) _).set (i * 2 + 1) _).congr (fun c _ => vcell_set _ _ _ hi c)
  have hA : Aft (Tk rest.length) w ((w.setCell ⟨lb', i * 2, none⟩ (.int .i64 v.k)).setCell ⟨lb', i * 2 + 1, none⟩ (.int .i64 v.n)) B mb A { s with fr := { f with loc := f.loc.set i v } :: rest } en :=
    ⟨_, h1.top hs k4 ((hch.block _ (heap_lt g1) (Or.inr (by rw [g3]; omega))).trans g1) hl2 (hrow.keep hch (by omega)), rfl, k4⟩
  exact Cur.aft hB h2 h3 h4 (fun _ => tk_n5) hA

set_option maxRecDepth 100000 in
set_option maxHeartbeats 1000000 in
theorem str_load (w : World) (B mb : Nat) (A : AdM) (s : Mc) (en : Int) (f : Fr) (rest : List Fr) (i : Nat) (hi : i < f.loc.length)  (hL : LayM w B mb A s en) (hs : s.fr = f :: rest) (hB : B ≤ w.heap.size) (hn : f.stk.length ≤ 60) :
    Calls Tryz.prog 121 #[.pointer (some ⟨mb, 0, none⟩), .pointer (some ⟨A.FB rest.length, 0, none⟩), .agg #[.int .i64 2, .int .i64 i]] w (StrE w B mb A s en rest (execP 2 i f s.arr s.out)) := by
  have H0 := hid ((Cur.start hL hB).box #[.int .i64 2, .int .i64 i] 33)
  generalize hfb : A.FB rest.length = fb
  have HF := hid hfb
  have hx : execP 2 i f s.arr s.out = ({ f with stk := f.loc.getD i vnil :: f.stk }, s.arr, s.out, 0) := by
    unfold execP
    simp
  rw [hx]
  obtain ⟨lb, lcap, k0, k1, k2, _, _, _⟩ := H0.out.drew.loc hs hi
  have KL := hid (And.intro k0 (And.intro k1 k2))
  have HI := hid hi
  clear hL hfb hx k0 k1 k2
  go_enter Tryz.func121, Tryz.ntmps121
  go_wp2_with fail
  generalize w.alloc (.cells #[.int .i64 2, .int .i64 i] 33) = W at *
  have H1 := hid H0.out.drew
  rw [HF.out] at KL
  have hi0 : (0 : Int) ≤ (i : Int) := by omega
  have hi1 : (i : Int) < (f.loc.length : Int) := by omega
  clear H0 hi
  refine region_lex (fun w' => Hb [(w.heap.size, #[Value.int .i64 2, Value.int .i64 i], 33)] w' ∧ w'.cell? ⟨fb, 2, none⟩ = some (.slice (some ⟨lb, 0, none⟩) f.loc.length lcap) ∧ w'.cell? ⟨lb, i * 2, none⟩ = some (.int .i64 (f.loc.getD i vnil).k) ∧ w'.cell? ⟨lb, i * 2 + 1, none⟩ = some (.int .i64 (f.loc.getD i vnil).n)) [(false, 0), (false, 1), (false, 2), (false, 3), (false, 4), (false, 5), (false, 6), (false, 7), (false, 8), (false, 9), (false, 10), (true, 11)] (by kernel_rfl) (by kernel_rfl) (panic_block _ _ _) ⟨H1.out.hb, KL.out⟩ ?_
  simp only [lexL, List.getElem?_cons_zero, List.getElem?_cons_succ]
  generalize hll : f.loc.length = ll at *
  have HLL := hid hll
  clear hll
  generalize hlv : f.loc.getD i vnil = lv at *
  have HLV := hid hlv
  clear hlv
  iterate 11 (refine lexW_free (by rfl) (by intro w' hS'; obtain ⟨hb, y0, y1, y2⟩ := hS'; obtain ⟨u0, u1, _, _⟩ := hb.two List.mem_cons_self; clear hb; go_simp; exact rfl) ?_; simp only [Act.put, List.setIfInBounds_toArray, List.set_cons_zero, List.set_cons_succ])
  generalize W.drew = w1 at H1 KL ⊢
  refine lexW_sole (fun K hK => ?_)
  go_simp
  have hp := H1.out.pushL hs (by omega) lv
  rw [HF.out] at hp
  refine hp.mono ?_
  rintro e w3 ⟨rfl, c3, k3⟩
  obtain ⟨q0, q1⟩ := k3 lb lcap (by rw [HLL.out]; have := HI.out; omega) (by rw [HLL.out]; exact KL.out.1)
  rw [HLL.out] at q0
  refine hK.out _ _ ⟨c3.hb, q0, (q1 _).trans KL.out.2.1, (q1 _).trans KL.out.2.2⟩ ?_
  have HQ := hid (StrE.ok c3.done)
  clear hK K c3 hp k3 q0 q1
  refine lexW_done ?_
  go_wp2
  go_end0
  exact HQ.out

set_option maxRecDepth 100000 in
set_option maxHeartbeats 1000000 in
theorem str_store (w : World) (B mb : Nat) (A : AdM) (s : Mc) (en : Int) (f : Fr) (rest : List Fr) (i : Nat) (hi : i < f.loc.length) (v : V) (st : List V) (hst : f.stk = v :: st) (hL : LayM w B mb A s en) (hs : s.fr = f :: rest) (hB : B ≤ w.heap.size) (hn : st.length ≤ 60) :
    Calls Tryz.prog 121 #[.pointer (some ⟨mb, 0, none⟩), .pointer (some ⟨A.FB rest.length, 0, none⟩), .agg #[.int .i64 3, .int .i64 i]] w (StrE w B mb A s en rest (execP 3 i f s.arr s.out)) := by
  have H0 := hid ((Cur.start hL hB).box #[.int .i64 3, .int .i64 i] 33)
  generalize hfb : A.FB rest.length = fb
  have HF := hid hfb
  have hx : execP 3 i f s.arr s.out = ({ f with stk := st, loc := f.loc.set i v }, s.arr, s.out, 0) := by
    unfold execP
    simp [hst]
  rw [hx]
  obtain ⟨lb, lcap, k0, _, _, _, _, kne⟩ := H0.out.drew.loc hs hi
  have KL := hid k0
  have HI := hid hi
  rw [hfb] at kne
  clear hL hfb hx k0
  go_enter Tryz.func121, Tryz.ntmps121
  go_wp2_with fail
  generalize w.alloc (.cells #[.int .i64 3, .int .i64 i] 33) = W at *
  have H1 := hid H0.out.drew
  rw [HF.out] at KL
  have hi0 : (0 : Int) ≤ (i : Int) := by omega
  have hi1 : (i : Int) < (f.loc.length : Int) := by omega
  clear H0 hi
  refine region_lex (fun w' => Hb [(w.heap.size, #[Value.int .i64 3, Value.int .i64 i], 33)] w' ∧ w'.cell? ⟨fb, 2, none⟩ = some (.slice (some ⟨lb, 0, none⟩) f.loc.length lcap)) [(false, 0), (false, 1), (false, 2), (false, 3), (false, 4), (false, 5), (false, 6), (false, 7), (false, 8), (true, 9), (true, 10), (true, 11)] (by kernel_rfl) (by kernel_rfl) (panic_block _ _ _) ⟨H1.out.hb, KL.out⟩ ?_
  simp only [lexL, List.getElem?_cons_zero, List.getElem?_cons_succ]
  generalize hll : f.loc.length = ll at *
  have HLL := hid hll
  clear hll
  iterate 9 (refine lexW_free (by rfl) (by intro w' hS'; obtain ⟨hb, y0⟩ := hS'; obtain ⟨u0, u1, _, _⟩ := hb.two List.mem_cons_self; clear hb; go_simp; exact rfl) ?_; simp only [Act.put, List.setIfInBounds_toArray, List.set_cons_zero, List.set_cons_succ])
  generalize W.drew = w1 at H1 KL ⊢
  refine lexW_sole (fun K hK => ?_)
  go_simp
  have hp := H1.out.popL hs hst (by omega)
  rw [HF.out] at hp
  refine hp.mono ?_
  rintro e w3 ⟨rfl, c3, k3⟩
  have H3 := hid c3
  have K3 := hid (k3.trans KL.out)
  refine hK.out _ _ ⟨c3.hb, K3.out⟩ ?_
  clear hK K c3 hp k3 hst
  refine lexW_sole (fun K hK => ?_)
  go_simp
  refine hK.out _ _ ⟨H3.out.hb, K3.out⟩ ?_
  clear hK K
  obtain ⟨lb2, lcap2, k0, k1, k2, f1, f2, _⟩ := H3.out.loc rfl (i := i) (by show i < f.loc.length; rw [HLL.out]; exact HI.out)
  rw [HF.out] at k0
  have e1 := k0.symm.trans K3.out
  have e2 : lb2 = lb := by
    injection e1 with e1
    injection e1 with e1
    injection e1 with e1
    injection e1 with e1
  subst e2
  have H4 := hid (H3.out.locset rfl (i := i) (lb := lb2) (lcap := lcap) (by show i < f.loc.length; rw [HLL.out]; exact HI.out) (by rw [HF.out]; show _ = some (Value.slice _ f.loc.length lcap); rw [HLL.out]; exact K3.out) v)
  clear e1 k0
  refine lexW_sole (fun K hK => ?_)
  go_simp
  refine hK.out _ _ ⟨H4.out.hb, ?_⟩ ?_
  · rw [World.cell?_setCell_far _ _ _ _ kne, World.cell?_setCell_far _ _ _ _ kne]
    exact K3.out
  have HQ := hid (StrE.ok H4.out.done)
  clear hK K
  refine lexW_done ?_
  go_wp2
  go_end0
  exact HQ.out

end Go.Proofs.YtkafkipjedpohaaGreatDoor

/-
  The project's machine: straight, of any instruction that goes on to the next; count, pass, turns.
-/
namespace Go.Proofs.YtkafkipjedpohaaGreatDoor
open Go.RowKit

theorem str_any (w : World) (B mb : Nat) (A : AdM) (s : Mc) (en : Int) (f : Fr) (rest : List Fr) (op a : Int) (m : Nat) (locals n : Int) (hl : legalP op a locals n m = true) (h10 : op ≠ 10) (h11 : op ≠ 11) (h13 : op ≠ 13) (h14 : op ≠ 14)
    (hp : popsP op a ≤ f.stk.length) (hok : AllOk m s.arr.length f.stk) (hloc : (f.loc.length : Int) = locals) (hh : f.stk.length ≤ 40) (hL : LayM w B mb A s en) (hs : s.fr = f :: rest) (hB : B ≤ w.heap.size) (ho : s.out.length ≤ 100000) (hm : s.arr.length ≤ 150000) (hc : cellsP s.arr ≤ 200) :
    Calls Tryz.prog 121 #[.pointer (some ⟨mb, 0, none⟩), .pointer (some ⟨A.FB rest.length, 0, none⟩), .agg #[.int .i64 op, .int .i64 a]] w (StrE w B mb A s en rest (execP op a f s.arr s.out)) := by
  have hr := legal_range hl
  by_cases e : op = 0
  · subst e
    exact str_const w B mb A s en f rest a hL hs hB (by omega)
  by_cases e : op = 1
  · subst e
    exact str_nil w B mb A s en f rest a hL hs hB (by omega)
  by_cases e : op = 12
  · subst e
    exact str_fun w B mb A s en f rest a hL hs hB (by omega)
  by_cases e : op = 2
  · subst e
    have hf : 0 ≤ a ∧ a < locals := by simpa [legalP] using hl
    have h := str_load w B mb A s en f rest a.toNat (by omega) hL hs hB (by omega)
    rw [show ((a.toNat : Nat) : Int) = a by omega] at h
    exact h
  have hp1 : 1 ≤ f.stk.length := by
    have : 1 ≤ popsP op a := by unfold popsP popsT; rw [if_neg h13, if_neg (by omega)]; split <;> (try split) <;> omega
    omega
  obtain ⟨x, r, hst⟩ : ∃ x r, f.stk = x :: r := by
    cases hc : f.stk with
    | nil => rw [hc] at hp1; simp at hp1
    | cons x r => exact ⟨x, r, rfl⟩
  have hlr : r.length + 1 = f.stk.length := by rw [hst]; rfl
  by_cases e : op = 3
  · subst e
    have hf : 0 ≤ a ∧ a < locals := by simpa [legalP] using hl
    have h := str_store w B mb A s en f rest a.toNat (by omega) x r hst hL hs hB (by omega)
    rw [show ((a.toNat : Nat) : Int) = a by omega] at h
    exact h
  have hxk : x.k = 2 → 0 ≤ x.n ∧ x.n < s.arr.length := (hok x (by rw [hst]; exact List.mem_cons_self)).1
  by_cases e : op = 19
  · subst e
    exact str_print w B mb A s en f rest a x r hst hL hs hB (by omega) ho
  by_cases e : op = 20
  · subst e
    exact str_pop w B mb A s en f rest a x r hst hL hs hB (by omega)
  by_cases e : op = 21
  · subst e
    exact str_dup w B mb A s en f rest a x r hst hL hs hB (by omega)
  by_cases e : op = 15
  · subst e
    exact str_new w B mb A s en f rest a x r hst hL hs hB (by omega) hm hc
  by_cases e : op = 18
  · subst e
    exact str_len w B mb A s en f rest a x r hst hxk hL hs hB (by omega)
  have hp2 : 2 ≤ f.stk.length := by
    have : 2 ≤ popsP op a := by unfold popsP popsT; rw [if_neg h13, if_neg (by omega)]; split <;> (try split) <;> omega
    omega
  obtain ⟨y, q, hst2⟩ : ∃ y q, r = y :: q := by
    cases hc : r with
    | nil => rw [hc] at hlr; simp at hlr; omega
    | cons x r => exact ⟨x, r, rfl⟩
  subst hst2
  have hlq : q.length + 1 = (y :: q).length := rfl
  have hyk : y.k = 2 → 0 ≤ y.n ∧ y.n < s.arr.length := (hok y (by rw [hst]; simp)).1
  by_cases e : op = 16
  · subst e
    exact str_get w B mb A s en f rest a x y q hst hyk hL hs hB (by omega)
  by_cases e : op = 9
  · subst e
    exact str_equal w B mb A s en f rest a x y q hst hL hs hB (by omega)
  by_cases e : op = 17
  · subst e
    have hp3 : 3 ≤ f.stk.length := by
      have : 3 ≤ popsP 17 a := by simp [popsP, popsT]
      omega
    obtain ⟨z, p, hst3⟩ : ∃ z p, q = z :: p := by
      cases hc : q with
      | nil => rw [hc] at hlq hlr; simp at hlr; omega
      | cons x r => exact ⟨x, r, rfl⟩
    subst hst3
    have hzk : z.k = 2 → 0 ≤ z.n ∧ z.n < s.arr.length := (hok z (by rw [hst]; simp)).1
    exact str_set w B mb A s en f rest a x y z p hst hzk hL hs hB (by simp at hlr; omega)
  exact str_reckon w B mb A s en f rest a op (by omega) x y q hst hL hs hB (by omega)

theorem turnsM (op : Int) (w : World) : Calls Tryz.prog 119 #[.int .i64 op] w fun e w' => e = .returned (.bool (decide (op = 10 ∨ op = 11 ∨ op = 13 ∨ op = 14))) ∧ w' = w := by
  by_cases e : op = 10
  · subst e
    go_enter Tryz.func119, Tryz.ntmps119
    go_wp2
    go_ret
    exact ⟨rfl, rfl⟩
  by_cases e : op = 11
  · subst e
    go_enter Tryz.func119, Tryz.ntmps119
    go_wp2
    go_ret
    exact ⟨rfl, rfl⟩
  by_cases e : op = 13
  · subst e
    go_enter Tryz.func119, Tryz.ntmps119
    go_wp2
    go_ret
    exact ⟨rfl, rfl⟩
  by_cases e : op = 14
  · subst e
    go_enter Tryz.func119, Tryz.ntmps119
    go_wp2
    go_ret
    exact ⟨rfl, rfl⟩
  have h : decide (op = 10 ∨ op = 11 ∨ op = 13 ∨ op = 14) = false := by simp; omega
  rw [h]
  have o1 : (op == 10) = false := by simp; omega
  have o2 : (op == 11) = false := by simp; omega
  have o3 : (op == 13) = false := by simp; omega
  have o4 : (op == 14) = false := by simp; omega
  clear h
  go_enter Tryz.func119, Tryz.ntmps119
  go_wp2
  go_ret
  exact ⟨rfl, rfl⟩
end Go.Proofs.YtkafkipjedpohaaGreatDoor
