import Derived.Test.YtkafkipjedpohaaGreatDoorB1

/-
  The project's own stacks, of values: Push, Pop, Top.
-/
namespace Go.Proofs.YtkafkipjedpohaaGreatDoor
open Go.RowKit

theorem stopHereM {p : Prop} (h : p ∧ True) : p := h.1
theorem cell_heap {w : World} {b o : Nat} {cur : Array Value} {t : TypeId} {fr : Nat × Nat} (h : w.heap[b]? = some (.cells cur t fr)) : w.cell? ⟨b, o, none⟩ = cur[o]? := by
  unfold World.cell?
  rw [h]
  rfl
theorem frozen_heap {w : World} {b o : Nat} {cur : Array Value} {t : TypeId} (h : w.heap[b]? = some (.cells cur t (0, 0))) : w.frozen? ⟨b, o, none⟩ = false := by
  unfold World.frozen?
  rw [h]
  simp
theorem heap_set {w : World} {b o : Nat} {cur : Array Value} {t : TypeId} {fr : Nat × Nat} (h : w.heap[b]? = some (.cells cur t fr)) (v : Value) : (w.setCell ⟨b, o, none⟩ v).heap[b]? = some (.cells (cur.setIfInBounds o v) t fr) := by
  simp [World.setCell, Array.getElem?_modify, h]
theorem heap_lt {w : World} {b : Nat} {o : Obj} (h : w.heap[b]? = some o) : b < w.heap.size := (Array.getElem?_eq_some_iff.1 h).1

set_option maxRecDepth 100000 in
set_option maxHeartbeats 1000000 in
theorem pushV (w : World) (B b o c : Nat) (t : TypeId) (tag : Nat → Nat) (cur : Array Value) (sv : Value) (st : List V) (v : V) (hb : w.heap[b]? = some (.cells cur t (0, 0))) (ho : cur[o]? = some sv) (hBb : B ≤ b) (hB : B ≤ w.heap.size) (hne : tag b ≠ c) (hrow : Row w B tag c 43 2 sv st.length (vcell st.reverse)) (hn : st.length ≤ 100000) :
    Calls Tryz.prog 132 #[.pointer (some ⟨b, o, none⟩), .agg #[.int .i64 v.k, .int .i64 v.n]] w fun e w' => e = .returned (.tuple #[]) ∧
      ∃ tag' sv', Row w' B tag' c 43 2 sv' (v :: st).length (vcell (v :: st).reverse) ∧ w'.heap[b]? = some (.cells (cur.setIfInBounds o sv') t (0, 0)) ∧ Ch B (fun d => d = c ∨ d = tag b) tag tag' w w' := by
  have hbz := heap_lt hb
  obtain ⟨inf, hi, hz0, hz1, hz2⟩ : ∃ i, Tryz.prog.info? 43 = some i ∧ i.zero = some (.agg #[.int .i64 0, .int .i64 0]) ∧ i.size = 2 ∧ i.bytes = 16 := by
    obtain ⟨i, hi, hzz⟩ := Option.map_eq_some_iff.1 Tryz.info43
    simp only [Prod.mk.injEq] at hzz
    exact ⟨i, hi, hzz.1, hzz.2.1, hzz.2.2⟩
  have hW : Below w.heap.size w (w.alloc (.cells #[.int .i64 v.k, .int .i64 v.n] 43)) := (Below.refl _ _).alloc (Nat.le_refl _) _
  have hsz : (w.alloc (.cells #[.int .i64 v.k, .int .i64 v.n] 43)).heap.size = w.heap.size + 1 := by simp
  have hbW := (hW.block b hbz).trans hb
  have d3 : (w.alloc (.cells #[.int .i64 v.k, .int .i64 v.n] 43)).cell? ⟨b, o, none⟩ = some sv := (cell_heap hbW).trans ho
  have y3 : (w.alloc (.cells #[.int .i64 v.k, .int .i64 v.n] 43)).frozen? ⟨b, o, none⟩ = false := frozen_heap hbW
  have b0 : (w.alloc (.cells #[.int .i64 v.k, .int .i64 v.n] 43)).cell? ⟨w.heap.size, 0, none⟩ = some (.int .i64 v.k) := cell_new w _ _ _ _ rfl
  have b1 : (w.alloc (.cells #[.int .i64 v.k, .int .i64 v.n] 43)).cell? ⟨w.heap.size, 1, none⟩ = some (.int .i64 v.n) := cell_new w _ _ _ _ rfl
  have hch : Ch B (fun d => d = c ∨ d = tag b) tag tag w (w.alloc (.cells #[.int .i64 v.k, .int .i64 v.n] 43)) := Ch.of_below hW
  have hrW : Row (w.alloc (.cells #[.int .i64 v.k, .int .i64 v.n] 43)) B tag c 43 2 sv st.length (vcell st.reverse) := hrow.keep (Ch.of_below (p := fun _ => False) hW) (fun h => h)
  have hne1 : some b ≠ sv.ownBlock := hrow.other hne
  have hne2 : some w.heap.size ≠ sv.ownBlock := hrow.otherNew (Nat.le_refl _)
  have HC := hid (And.intro hch (And.intro hrW hbW))
  have HZ := hid hsz
  have HY := hid y3
  have D3 := hid d3
  have B0 := hid b0
  have B1 := hid b1
  have HO := hid ho
  have HN := hid hne
  clear hch hrW hbW hsz y3 hW hrow hb d3 b0 b1 ho hne
  go_enter Tryz.func132, Tryz.ntmps132
  go_wp2
  have d3 := D3.out
  have b0 := B0.out
  have b1 := B1.out
  clear D3 B0 B1
  generalize w.alloc (.cells #[.int .i64 v.k, .int .i64 v.n] 43) = W at *
  have hbs : w.heap.size < W.heap.size := by have := HZ.out; omega
  have hfs : b < W.heap.size := by omega
  go_region_law
    ((refine step_append_lies _ (by rfl) _ _ _ (by rfl) B 43 inf _ 2 16 Tryz.underlying44 hi hz0 hz1 hz2 rfl (by decide) sv st.length _ (by rfl) (by exact (HC.out.2.1.owns.drew).alloc _) ⟨W.heap.size, 0, none⟩ 1 1 [.int .i64 v.k, .int .i64 v.n] (by rfl) (by rfl) (by exact World.news_of_block (Go.Deep.blk_alloc_new W.drew _)) (by intro u hu; simp at hu; rcases hu with rfl | rfl <;> rfl) (by omega) (by unfold maxLen; omega) (by omega) (by simp; omega) (W.heap.size + 1) (by simp) ?_; intro g cap w1 hown1 hgrow hat hlt; have q0 := (grew_cell hgrow (a := ⟨b, o, none⟩) hfs hne1).trans d3; have q1 := (grew_cell hgrow (a := ⟨w.heap.size, 0, none⟩) hbs hne2).trans b0; have q2 := (grew_cell hgrow (a := ⟨w.heap.size, 1, none⟩) hbs hne2).trans b1; have q3 := (grew_frozen hgrow (a := ⟨b, o, none⟩) hfs hne1).trans HY.out))
  all_goals
    have hXb : Below W.heap.size W (W.alloc (.cells #[.int .i64 v.k, .int .i64 v.n] 43)).drew := ((Below.refl _ _).alloc (Nat.le_refl _) _).drew
    have hX : Ch B (fun _ => False) tag tag W (W.alloc (.cells #[.int .i64 v.k, .int .i64 v.n] 43)).drew := Ch.of_below hXb
    obtain ⟨tag', hst, hgc⟩ := (HC.out.2.1.keep hX (fun h => h)).grew hown1 hgrow (by rcases hat with h | h; exact Or.inl h; right; rw [h]; simp) rfl
    have hlx : b < (W.alloc (.cells #[.int .i64 v.k, .int .i64 v.n] 43)).drew.heap.size := by simp; omega
    have htf : tag' b = tag b := hgc.tags b hlx
    have hb1 : w1.heap[b]? = some (.cells cur t (0, 0)) := (hgc.block b hlx (Or.inr HN.out)).trans ((hXb.block b hfs).trans HC.out.2.2)
    have hb2 := heap_set (o := o) hb1 (.slice (some ⟨g, 0, none⟩) (st.length + 1) cap)
    have hcs : Ch B (fun d => d = tag b) tag' tag' w1 (w1.setCell ⟨b, o, none⟩ (.slice (some ⟨g, 0, none⟩) (st.length + 1) cap)) := Ch.set w1 b _ _ hBb htf
    have hst2 := (hst.keep hcs (fun h => HN.out h.symm)).congr (g := vcell (v :: st).reverse) (fun i hi => by
      rw [List.reverse_cons, ← vcell_snoc _ _ _ (by simpa using hi)]
      simp)
    have hall : Ch B (fun d => d = c ∨ d = tag b) tag tag' w (w1.setCell ⟨b, o, none⟩ (.slice (some ⟨g, 0, none⟩) (st.length + 1) cap)) :=
      ((HC.out.1.trans (hX.mono (fun _ h => h.elim))).trans (hgc.mono (fun _ h => Or.inl h))).trans (hcs.mono (fun _ h => Or.inr h))
    have HQ := hid (And.intro hst2 (And.intro hb2 hall))
    clear hall hst2 hcs hst hgc hX hXb hown1 hgrow q0 q1 q2 q3 hb1 hb2
    go_end0
    exact ⟨rfl, tag', _, HQ.out⟩

set_option maxRecDepth 100000 in
set_option maxHeartbeats 1000000 in
theorem popV (w : World) (B b o c : Nat) (t : TypeId) (tag : Nat → Nat) (cur : Array Value) (sv : Value) (st : List V) (v : V) (hb : w.heap[b]? = some (.cells cur t (0, 0))) (ho : cur[o]? = some sv) (hBb : B ≤ b) (hne : tag b ≠ c) (hrow : Row w B tag c 43 2 sv (v :: st).length (vcell (v :: st).reverse)) (hn : st.length ≤ 100000) :
    Calls Tryz.prog 129 #[.pointer (some ⟨b, o, none⟩)] w fun e w' => e = .returned (.agg #[.int .i64 v.k, .int .i64 v.n]) ∧
      ∃ sv', Row w' B tag c 43 2 sv' st.length (vcell st.reverse) ∧ w'.heap[b]? = some (.cells (cur.setIfInBounds o sv') t (0, 0)) ∧ Ch B (fun d => d = tag b) tag tag w w' := by
  have hbz := heap_lt hb
  rw [List.length_cons, List.reverse_cons] at hrow
  obtain ⟨sb, scap, rfl, hsb, hsz, hstg, hsc⟩ := hrow.form (by omega)
  have hlr : st.reverse.length = st.length := by simp
  have x0 := hrow.cell (i := st.length * 2) (by omega)
  have x1 := hrow.cell (i := st.length * 2 + 1) (by omega)
  have ht := vcell_top st.reverse v
  rw [hlr] at ht
  rw [ht.1] at x0
  rw [ht.2] at x1
  have hneb : ¬ sb = b := by intro e; rw [e] at hstg; exact hne hstg
  have c0 : w.cell? ⟨b, o, none⟩ = some (.slice (some ⟨sb, 0, none⟩) (st.length + 1) scap) := (cell_heap hb).trans ho
  have z0 : w.frozen? ⟨b, o, none⟩ = false := frozen_heap hb
  have HR := hid (And.intro hrow (And.intro hb hne))
  clear hrow hb ht hlr ho hne hstg
  generalize hnn : st.length = n at *
  have Hn := hid hnn
  clear hnn
  go_enter Tryz.func129, Tryz.ntmps129
  go_wp2
  refine bodyPost_ret (v := .agg #[.int .i64 v.k, .int .i64 v.n]) (by simp [results, Tryz.results129, go_sem]) rfl ⟨rfl, .slice (some ⟨sb, 0, none⟩) n scap, ?_⟩
  obtain ⟨hrow, hb, hne⟩ := HR.out
  have h0 : Ch B (fun d => d = tag b) tag tag w (w.setCell ⟨b, o, none⟩ (.slice (some ⟨sb, 0, none⟩) n scap)) := Ch.set w b o _ hBb rfl
  have h1 := (h0.alloc (.cells #[.int .i64 v.k, .int .i64 v.n] 43)).alloc (.cells #[.int .i64 v.k, .int .i64 v.n] 43)
  have hs2 := ((hrow.take n (by omega)).keep h1 (fun h => hne h.symm)).congr (g := vcell st.reverse) (fun i hi => vcell_cut _ _ _ (by rw [List.length_reverse, Hn.out]; exact hi))
  refine ⟨hs2, ?_, h1⟩
  rw [Below.heap_alloc _ _ _ (by simp [World.setCell]; omega), Below.heap_alloc _ _ _ (by simp [World.setCell]; omega)]
  exact heap_set hb _

end Go.Proofs.YtkafkipjedpohaaGreatDoor

/-
  The project's own stacks, of frames: Push, Pop, Top, Len.
-/
namespace Go.Proofs.YtkafkipjedpohaaGreatDoor
open Go.RowKit

/-- The cells of a list of frames: their addresses. -/
def pcell (FB : Nat → Nat) : Nat → Value := fun i => .pointer (some ⟨FB i, 0, none⟩)

theorem Tryz.infoPtr : (Tryz.prog.info? 133).map (fun i => (i.zero, i.size, i.bytes)) = some (some (.pointer none), 1, 8) := by kernel_rfl

theorem lenF (w : World) (b o n : Nat) (c : Nat) (p : Option Addr) (h : w.cell? ⟨b, o, none⟩ = some (.slice p n c)) :
    Calls Tryz.prog 92 #[.pointer (some ⟨b, o, none⟩)] w fun e w' => e = .returned (.int .i64 n) ∧ w' = w := by
  go_enter Tryz.func92, Tryz.ntmps92
  go_wp2
  go_ret
  exact ⟨rfl, rfl⟩

set_option maxRecDepth 100000 in
theorem topF (w : World) (b o n sb c : Nat) (q : Value) (h : w.cell? ⟨b, o, none⟩ = some (.slice (some ⟨sb, 0, none⟩) (n + 1) c)) (hq : w.cell? ⟨sb, n, none⟩ = some q) (hn : n ≤ 100000) :
    Calls Tryz.prog 89 #[.pointer (some ⟨b, o, none⟩)] w fun e w' => e = .returned q ∧ ∃ k, w' = w.drewN k := by
  go_enter Tryz.func89, Tryz.ntmps89
  go_wp2
  go_quiet (fail)
  go_wp2
  go_ret
  exact ⟨rfl, _, rfl⟩

set_option maxRecDepth 100000 in
set_option maxHeartbeats 1000000 in
theorem popF (w : World) (b o n sb c : Nat) (q : Value) (h : w.cell? ⟨b, o, none⟩ = some (.slice (some ⟨sb, 0, none⟩) (n + 1) c)) (hz : w.frozen? ⟨b, o, none⟩ = false) (hq : w.cell? ⟨sb, n, none⟩ = some q) (hn : n ≤ 100000) (hc : n + 1 ≤ c) :
    Calls Tryz.prog 146 #[.pointer (some ⟨b, o, none⟩)] w fun e w' => e = .returned q ∧ w' = w.setCell ⟨b, o, none⟩ (.slice (some ⟨sb, 0, none⟩) n c) := by
  go_enter Tryz.func146, Tryz.ntmps146
  go_wp2
  go_ret
  exact ⟨rfl, rfl⟩

set_option maxRecDepth 100000 in
set_option maxHeartbeats 1000000 in
theorem pushF (w : World) (B b o c : Nat) (t : TypeId) (tag : Nat → Nat) (cur : Array Value) (sv : Value) (n : Nat) (FB : Nat → Nat) (q : Nat) (hb : w.heap[b]? = some (.cells cur t (0, 0))) (ho : cur[o]? = some sv) (hBb : B ≤ b) (hB : B ≤ w.heap.size) (hne : tag b ≠ c) (hrow : Row w B tag c 133 1 sv n (pcell FB)) (hn : n ≤ 100000) :
    Calls Tryz.prog 86 #[.pointer (some ⟨b, o, none⟩), .pointer (some ⟨q, 0, none⟩)] w fun e w' => e = .returned (.tuple #[]) ∧
      ∃ tag' sv', Row w' B tag' c 133 1 sv' (n + 1) (pcell (upd FB n q)) ∧ w'.heap[b]? = some (.cells (cur.setIfInBounds o sv') t (0, 0)) ∧ Ch B (fun d => d = c ∨ d = tag b) tag tag' w w' := by
  have hbz := heap_lt hb
  obtain ⟨inf, hi, hz0, hz1, hz2⟩ : ∃ i, Tryz.prog.info? 133 = some i ∧ i.zero = some (.pointer none) ∧ i.size = 1 ∧ i.bytes = 8 := by
    obtain ⟨i, hi, hzz⟩ := Option.map_eq_some_iff.1 Tryz.infoPtr
    simp only [Prod.mk.injEq] at hzz
    exact ⟨i, hi, hzz.1, hzz.2.1, hzz.2.2⟩
  have d3 : w.cell? ⟨b, o, none⟩ = some sv := (cell_heap hb).trans ho
  have y3 : w.frozen? ⟨b, o, none⟩ = false := frozen_heap hb
  have hne1 : some b ≠ sv.ownBlock := hrow.other hne
  have HC := hid (And.intro hrow (And.intro hb hne))
  clear hrow hb ho hne
  go_enter Tryz.func86, Tryz.ntmps86
  go_wp2_with (at_builtin; refine stopHereM ?_)
  refine ⟨?_, trivial⟩
  refine wpList_append_lies _ rfl _ _ _ rfl B 133 inf _ 1 8 Tryz.underlying126 hi hz0 hz1 hz2 rfl (by decide) sv n _ rfl (HC.out.1.owns.alloc _) ⟨w.heap.size, 0, none⟩ 1 1 [.pointer (some ⟨q, 0, none⟩)] rfl rfl (World.news_of_block (Go.Deep.blk_alloc_new w _)) (by intro u hu; simp at hu; subst hu; rfl) (by omega) (by unfold maxLen; omega) (by omega) (by simp; omega) (w.heap.size + 1) (by simp) ?_
  intro g cap w1 hown hgrow hat hlt
  have hX : Ch B (fun _ => False) tag tag w (w.alloc (.cells #[.pointer (some ⟨q, 0, none⟩)] 133)) := Ch.of_below ((Below.refl _ _).alloc (Nat.le_refl _) _)
  have hblk : (w.alloc (.cells #[.pointer (some ⟨q, 0, none⟩)] 133)).heap[b]? = w.heap[b]? := Below.heap_alloc w _ b hbz
  obtain ⟨tag', hst, hgc⟩ := (HC.out.1.keep hX (fun h => h)).grew hown hgrow (by rcases hat with h | h; exact Or.inl h; right; rw [h]; simp) rfl
  have hlx : b < (w.alloc (.cells #[.pointer (some ⟨q, 0, none⟩)] 133)).heap.size := by simp; omega
  have htf : tag' b = tag b := hgc.tags b hlx
  have hb1 : w1.heap[b]? = some (.cells cur t (0, 0)) := (hgc.block b hlx (Or.inr HC.out.2.2)).trans (hblk.trans HC.out.2.1)
  have hb2 := heap_set (o := o) hb1 (.slice (some ⟨g, 0, none⟩) (n + 1) cap)
  have hcs : Ch B (fun d => d = tag b) tag' tag' w1 (w1.setCell ⟨b, o, none⟩ (.slice (some ⟨g, 0, none⟩) (n + 1) cap)) := Ch.set w1 b _ _ hBb htf
  have hst2 := (hst.keep hcs (fun h => HC.out.2.2 h.symm)).congr (g := pcell (upd FB n q)) (fun i hi => by
    unfold pcell
    by_cases h : i < n * 1
    · rw [if_pos h, upd_other _ _ _ _ (by omega)]
    · obtain rfl : i = n := by omega
      rw [if_neg h, upd_same]
      simp)
  have hall : Ch B (fun d => d = c ∨ d = tag b) tag tag' w (w1.setCell ⟨b, o, none⟩ (.slice (some ⟨g, 0, none⟩) (n + 1) cap)) :=
    ((hX.mono (fun _ h => h.elim)).trans (hgc.mono (fun _ h => Or.inl h))).trans (hcs.mono (fun _ h => Or.inr h))
  have q0 : w1.cell? ⟨b, o, none⟩ = some sv := (cell_heap hb1).trans ((cell_heap HC.out.2.1).symm.trans d3)
  have q1 : w1.frozen? ⟨b, o, none⟩ = false := frozen_heap hb1
  have HQ := hid (And.intro hst2 (And.intro hb2 hall))
  clear hall hst2 hcs hst hgc hX hown hgrow hb1 hb2 hblk
  go_wp2
  go_end0
  exact ⟨rfl, tag', _, HQ.out⟩
end Go.Proofs.YtkafkipjedpohaaGreatDoor

/-
  upshiftref's number, two, where, cells.
-/
namespace Go.Proofs.YtkafkipjedpohaaGreatDoor
open Go.RowKit

theorem w64_eq (n : Int) : wrap64 n = w64 n := by unfold wrap64 w64; rfl

/-- What upshiftref.two answers. -/
def twoV (x : V × Int) : Value := .tuple #[.agg #[.int .i64 x.1.k, .int .i64 x.1.n], .int .i64 x.2]

end Go.Proofs.YtkafkipjedpohaaGreatDoor

/-
  upshiftref's where, cells.
-/
namespace Go.Proofs.YtkafkipjedpohaaGreatDoor
open Go.RowKit

theorem Row.any {w : World} {B : Nat} {tag : Nat → Nat} {c : Nat} {e : TypeId} {sz : Nat} {v : Value} {n : Nat} {f : Nat → Value} (h : Row w B tag c e sz v n f) : ∃ p cap, v = .slice p n cap ∧ n ≤ cap := by
  rcases h with ⟨h, h2⟩ | ⟨b, cap, cur, hv, hb, ht, hh, hc, _⟩
  · exact ⟨none, 0, by rw [h, h2], by omega⟩
  · exact ⟨_, cap, hv, hc⟩

theorem cells_nonneg (arr : List (List V)) : 0 ≤ cellsP arr := by
  induction arr with
  | nil => simp [cellsP]
  | cons a r ih => simp only [cellsP, List.map_cons, List.sum_cons] at ih ⊢; omega
end Go.Proofs.YtkafkipjedpohaaGreatDoor

/-
  A run of upshiftref in memory: its addresses in one bundle; upshiftref's arrays: Len, Get.
-/
namespace Go.Proofs.YtkafkipjedpohaaGreatDoor
open Go.RowKit

/-- Where a run lies. -/
structure Ad where
  tag : Nat → Nat
  pv : Value
  fv : Value
  av : Value
  ov : Value
  hv : Value
  LV : Nat → Value
  SV : Nat → Value
  AV : Nat → Value

def LayA (w : World) (B rb : Nat) (A : Ad) (s : Mc) : Prop := Lay w B rb A.tag A.pv A.fv A.av A.ov A.hv A.LV A.SV A.AV s

theorem Row.below {w w' : World} {B : Nat} {tag : Nat → Nat} {c : Nat} {e : TypeId} {sz : Nat} {v : Value} {n : Nat} {f : Nat → Value} (h : Row w B tag c e sz v n f) (k : Below w.heap.size w w') : Row w' B tag c e sz v n f :=
  h.keep (Ch.of_below (p := fun _ => False) k) (fun h => h)
/-- All but boxes may turn. -/
def Five : Nat → Prop := fun c => c ≠ 5

theorem Ch.cell {B : Nat} {p : Nat → Prop} {t1 t2 : Nat → Nat} {u w : World} (h : Ch B p t1 t2 u w) {a : Addr} (ha : a.block < u.heap.size) (hp : ¬ p (t1 a.block)) : w.cell? a = u.cell? a := World.cell?_of_block (h.block a.block ha (Or.inr hp))
theorem Ch.of_tags {B : Nat} {p : Nat → Prop} {t1 t2 : Nat → Nat} {u w : World} (h : Below u.heap.size u w) (ht : ∀ b, b < u.heap.size → t2 b = t1 b) : Ch B p t1 t2 u w :=
  ⟨h.os, h.tape, h.output, h.size, fun b hb _ => h.block b hb, ht⟩

/-- What upshiftref's calls leave of a run. -/
def After (w w' : World) (B rb : Nat) (A : Ad) (s' : Mc) : Prop := ∃ A', LayA w' B rb A' s' ∧ A'.pv = A.pv ∧ A'.fv = A.fv ∧ Ch B Five A.tag A'.tag w w'

end Go.Proofs.YtkafkipjedpohaaGreatDoor
