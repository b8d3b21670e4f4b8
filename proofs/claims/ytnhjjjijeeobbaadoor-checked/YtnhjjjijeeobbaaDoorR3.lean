/-
  A run of upshiftref as it lies in memory: pop.
-/
import Derived.Test.YtnhjjjijeeobbaaDoorR2
namespace Go.Proofs.YtnhjjjijeeobbaaDoor
open Go.RowKit

theorem vcell_top (l : List V) (v : V) : vcell (l ++ [v]) (l.length * 2) = .int .i64 v.k ∧ vcell (l ++ [v]) (l.length * 2 + 1) = .int .i64 v.n := by
  unfold vcell
  rw [if_pos (by omega), if_neg (by omega), show l.length * 2 / 2 = l.length by omega, show (l.length * 2 + 1) / 2 = l.length by omega]
  simp
theorem vcell_cut (l : List V) (v : V) (i : Nat) (hi : i < l.length * 2) : vcell (l ++ [v]) i = vcell l i := by
  unfold vcell
  rw [List.getD_eq_getElem?_getD, List.getD_eq_getElem?_getD, List.getElem?_append_left (by omega)]

theorem Ch.setNew {B : Nat} {p : Nat → Prop} {t1 t2 : Nat → Nat} {u w : World} (h : Ch B p t1 t2 u w) {a : Addr} (ha : u.heap.size ≤ a.block) (v : Value) : Ch B p t1 t2 u (w.setCell a v) :=
  ⟨h.os, h.tape, h.output, by have := h.size; simp [World.setCell]; omega, fun b hb hl => by rw [Below.heap_setCell _ _ _ _ (by omega)]; exact h.block b hb hl, h.tags⟩
theorem Ch.alloc {B : Nat} {p : Nat → Prop} {t1 t2 : Nat → Nat} {u w : World} (h : Ch B p t1 t2 u w) (o : Obj) : Ch B p t1 t2 u (w.alloc o) :=
  ⟨h.os, h.tape, h.output, by have := h.size; simp; omega, fun b hb hl => by rw [Below.heap_alloc _ _ _ (by have := h.size; omega)]; exact h.block b hb hl, h.tags⟩
theorem Ch.drewN {B : Nat} {p : Nat → Prop} {t1 t2 : Nat → Nat} {u w : World} (h : Ch B p t1 t2 u w) (n : Nat) : Ch B p t1 t2 u (w.drewN n) := ⟨h.os, h.tape, h.output, h.size, h.block, h.tags⟩
theorem Ch.drew {B : Nat} {p : Nat → Prop} {t1 t2 : Nat → Nat} {u w : World} (h : Ch B p t1 t2 u w) : Ch B p t1 t2 u w.drew := ⟨h.os, h.tape, h.output, h.size, h.block, h.tags⟩
/-- A store into an old block whose tag is let. -/
theorem Ch.setOld {B : Nat} {p : Nat → Prop} {t1 t2 : Nat → Nat} {u w : World} (h : Ch B p t1 t2 u w) {a : Addr} (hB : B ≤ a.block) (hp : a.block < u.heap.size → p (t1 a.block)) (v : Value) : Ch B p t1 t2 u (w.setCell a v) :=
  ⟨h.os, h.tape, h.output, by have := h.size; simp [World.setCell]; omega, fun b hb hl => by
    rw [Below.heap_setCell _ _ _ _ (by
      intro e
      rw [e] at hb hl
      rcases hl with hl | hl
      · omega
      · exact hl (hp hb))]
    exact h.block b hb hl, h.tags⟩
theorem Ch.trans' {B : Nat} {p : Nat → Prop} {t1 t2 : Nat → Nat} {u v w : World} (h : Ch B p t1 t2 u v) (k : Below v.heap.size v w) : Ch B p t1 t2 u w :=
  ⟨k.os.trans h.os, k.tape.trans h.tape, k.output.trans h.output, Nat.le_trans h.size k.size, fun b hb hl => (k.block b (Nat.lt_of_lt_of_le hb h.size)).trans (h.block b hb hl), h.tags⟩

theorem Row.keepBlock {w w' : World} {B : Nat} {tag : Nat → Nat} {c : Nat} {e : TypeId} {sz b n cap : Nat} {f : Nat → Value} (h : Row w B tag c e sz (.slice (some ⟨b, 0, none⟩) n cap) n f) (hb : w'.heap[b]? = w.heap[b]?) : Row w' B tag c e sz (.slice (some ⟨b, 0, none⟩) n cap) n f := by
  rcases h with ⟨h, _⟩ | ⟨b', cap', cur, hv, hb', ht, hh, hc⟩
  · cases h
  · injection hv with e1 e2 e3
    injection e1 with e1
    injection e1 with e1 e4
    subst e1
    subst e3
    exact Or.inr ⟨b, cap, cur, rfl, hb', ht, hb.trans hh, hc⟩

set_option maxRecDepth 100000 in
set_option maxHeartbeats 1000000 in
theorem pop_any (w : World) (B rb : Nat) (tag : Nat → Nat) (pv fv av ov hv : Value) (LV SV AV : Nat → Value) (s : Mc) (f : Fr) (rest : List Fr) (v : V) (st : List V) (hL : Lay w B rb tag pv fv av ov hv LV SV AV s) (hs : s.fr = f :: rest) (hst : f.stk = v :: st) (_hB : B ≤ w.heap.size) (hn : st.length ≤ 64) (hr : rest.length ≤ 64) :
    Calls Tryd.prog 87 #[.pointer (some ⟨rb, 0, none⟩)] w fun e w' => e = .returned (.agg #[.int .i64 v.k, .int .i64 v.n]) ∧
      ∃ tag' sv, Lay w' B rb tag' pv fv av ov hv LV (upd SV rest.length sv) AV { s with fr := { f with stk := st } :: rest } ∧ Ch B (fun c => c = 1 ∨ c = 11 + 3 * rest.length) tag tag' w w' := by
  have hfl : s.fr.length = rest.length + 1 := by rw [hs]; rfl
  have hfr := hL.fr
  rw [hfl] at hfr
  obtain ⟨fb, fcap, rfl, hfb, hfz, hft, hfc⟩ := hfr.form (by omega)
  have r1 : w.cell? ⟨rb, 1, none⟩ = some (.slice (some ⟨fb, 0, none⟩) (rest.length + 1) fcap) := hL.cell 1
  have c3 := hfr.cell (i := rest.length * 4 + 3) (by omega)
  rw [fcell_stk] at c3
  have z3 := hfr.frozen (rest.length * 4 + 3)
  have hrow := hL.stk rest.length (by omega)
  have e0 : frAt s.fr rest.length = f := by rw [hs]; exact frAt_top _ _
  rw [e0, hst, List.length_cons, List.reverse_cons] at hrow
  obtain ⟨sb, scap, hsv, hsb, hsz, hstg, hsc⟩ := hrow.form (by omega)
  rw [hsv] at hrow c3
  have hlr : st.reverse.length = st.length := by simp
  have x0 := hrow.cell (i := st.length * 2) (by omega)
  have x1 := hrow.cell (i := st.length * 2 + 1) (by omega)
  have ht := vcell_top st.reverse v
  rw [hlr] at ht
  rw [ht.1] at x0
  rw [ht.2] at x1
  have hrb := hL.lt
  have hne : ¬ sb = fb := by intro e; rw [e, hft] at hstg; omega
  have HL := hid (And.intro hL (And.intro hfr hrow))
  have HV := hid hsv
  clear hL hfr hrow ht hlr e0 hsv
  generalize hk : rest.length = k at *
  have Hk := hid hk
  clear hk
  generalize hnn : st.length = n at *
  have Hn := hid hnn
  clear hnn
  go_enter Tryd.func87, Tryd.ntmps87
  go_wp2
  go_quiet (fail)
  go_wp2
  refine bodyPost_ret (v := .agg #[.int .i64 v.k, .int .i64 v.n]) (by simp [results, Tryd.results87, go_sem]) rfl ⟨rfl, tag, .slice (some ⟨sb, 0, none⟩) n scap, ?_⟩
  have h0 : Ch B (fun c => c = 1) tag tag w ((w.alloc (.cells #[.int .i64 0, .int .i64 0] 45)).drewN nq) := ((Ch.refl B _ tag w).alloc _).drewN _
  have h1 : Ch B (fun c => c = 1) tag tag w ((((((w.alloc (.cells #[.int .i64 0, .int .i64 0] 45)).drewN nq).setCell ⟨fb, k * 4 + 3, none⟩ (.slice (some ⟨sb, 0, none⟩) n scap)).setCell ⟨w.heap.size, 0, none⟩ (.int .i64 v.k)).setCell ⟨w.heap.size, 1, none⟩ (.int .i64 v.n)).alloc (.cells #[.int .i64 v.k, .int .i64 v.n] 45)) :=
    (((h0.setOld hfb (fun _ => hft) _).setNew (Nat.le_refl _) _).setNew (Nat.le_refl _) _).alloc _
  refine ⟨?_, h1.mono (fun _ h => Or.inl h)⟩
  have hf0 := HL.out.2.1.keepBlock (w' := (w.alloc (.cells #[.int .i64 0, .int .i64 0] 45)).drewN nq) (Below.heap_alloc w _ fb hfz)
  have hf1 := (hf0.set (k * 4 + 3) (.slice (some ⟨sb, 0, none⟩) n scap)).congr (fun i _ => fcell_set _ _ _ _ _ i)
  have hf2 := hf1.keepBlock (w' := (((((w.alloc (.cells #[.int .i64 0, .int .i64 0] 45)).drewN nq).setCell ⟨fb, k * 4 + 3, none⟩ (.slice (some ⟨sb, 0, none⟩) n scap)).setCell ⟨w.heap.size, 0, none⟩ (.int .i64 v.k)).setCell ⟨w.heap.size, 1, none⟩ (.int .i64 v.n)).alloc (.cells #[.int .i64 v.k, .int .i64 v.n] 45)) (by
    rw [Below.heap_alloc _ _ _ (by simp [World.setCell]; omega), Below.heap_setCell _ _ _ _ (by dsimp only; omega), Below.heap_setCell _ _ _ _ (by dsimp only; omega)])
  have hs2 := (HL.out.2.2.take n (by omega)).keep h1 (by omega)
  have hs3 := hs2.congr (g := vcell st.reverse) (fun i hi => vcell_cut _ _ _ (by rw [List.length_reverse, Hn.out]; exact hi))
  have hfin := HL.out.1.stack (st := st) (sv := .slice (some ⟨sb, 0, none⟩) n scap) hs (by rw [Hk.out]; exact h1.mono (fun _ h => Or.inl h)) (by rw [Hk.out]; exact hf2) (by rw [Hk.out, Hn.out]; exact hs3)
  rw [Hk.out] at hfin
  exact hfin
end Go.Proofs.YtnhjjjijeeobbaaDoor
