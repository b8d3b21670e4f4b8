import Derived.Test.YtkafkipjedpohaaGreatDoorR8
import Derived.Test.YtkafkipjedpohaaGreatDoorA5

/-
  upshiftref's arrays: New.
-/
namespace Go.Proofs.YtkafkipjedpohaaGreatDoor
open Go.RowKit

theorem Tryz.info44 : (Tryz.prog.info? 44).map (fun i => (i.zero, i.size, i.bytes)) = some (some (.slice none 0 0), 1, 24) := by kernel_rfl

theorem grew_cell2 {W w1 : World} {o o' : Obj} {row : Option Nat} (hg : ((W.drew.alloc o).alloc o').grownBy w1 row) {a : Addr} (ha : a.block < W.heap.size) (hne : some a.block ≠ row) : w1.cell? a = W.cell? a := by
  have h1 : w1.heap[a.block]? = ((W.drew.alloc o).alloc o').heap[a.block]? := hg.block a.block (by show a.block < ((W.heap.push o).push o').size; simp; omega) hne
  have h2 : ((W.drew.alloc o).alloc o').heap[a.block]? = W.heap[a.block]? := (((Below.refl W.heap.size W).drew.alloc (Nat.le_refl _) o).alloc (by simp) o').block a.block ha
  exact World.cell?_of_block (h1.trans h2)
theorem grew_frozen2 {W w1 : World} {o o' : Obj} {row : Option Nat} (hg : ((W.drew.alloc o).alloc o').grownBy w1 row) {a : Addr} (ha : a.block < W.heap.size) (hne : some a.block ≠ row) : w1.frozen? a = W.frozen? a := by
  have h1 : w1.heap[a.block]? = ((W.drew.alloc o).alloc o').heap[a.block]? := hg.block a.block (by show a.block < ((W.heap.push o).push o').size; simp; omega) hne
  have h2 : ((W.drew.alloc o).alloc o').heap[a.block]? = W.heap[a.block]? := (((Below.refl W.heap.size W).drew.alloc (Nat.le_refl _) o).alloc (by simp) o').block a.block ha
  exact World.frozen?_of_block (h1.trans h2)

def vArr (n : Nat) : Array Value := madeCells #[.int .i64 0, .int .i64 0] (n * 2)
theorem make_vals (n : Int) (h0 : 0 ≤ n) (hn : n ≤ 1000) (wx : World) : (Instr.makeSlice 44 (.int .i64 n) (.int .i64 n)).run Tryz.prog wx = .ok (.slice (some ⟨wx.heap.size, 0, none⟩) n.toNat n.toNat) (wx.alloc (.cells (vArr n.toNat) 43)) := by
  have h := run_make_rows (P := Tryz.prog) 44 43 _ _ 2 16 Tryz.underlying44 Tryz.info43 rfl .i64 .i64 n.toNat (by omega) (by omega) wx
  rw [show ((n.toNat : Nat) : Int) = n by omega] at h
  exact h
theorem vArr_row {B : Nat} {tag : Nat → Nat} {c : Nat} (w : World) (n : Nat) (hB : B ≤ w.heap.size) (hn : n ≤ maxLen) (ht : tag w.heap.size = c) : Row (w.alloc (.cells (vArr n) 43)) B tag c 43 2 (.slice (some ⟨w.heap.size, 0, none⟩) n n) n (vcell (List.replicate n vnil)) := by
  refine Or.inr ⟨w.heap.size, n, vArr n, rfl, hB, ht, Go.Deep.blk_alloc_new _ _, Nat.le_refl _, hn, by simp [vArr, size_madeCells], fun i hi => ?_⟩
  have h2 : i / 2 < n := by omega
  have : i % 2 = 0 ∨ i % 2 = 1 := by omega
  rcases this with e | e <;> simp [vArr, madeCells, hi, e, vcell, List.getD_eq_getElem?_getD, h2, vnil]

theorem news1 (w : World) (o : Obj) (v : Value) (t : TypeId) : ∀ j u, [v][j]? = some u → ((w.alloc o).alloc (.cells #[v] t)).drew.cell? ((⟨w.heap.size + 1, 0, none⟩ : Addr).add j) = some u := by
  have hb : ((w.alloc o).alloc (.cells #[v] t)).drew.heap[w.heap.size + 1]? = some (.cells #[v] t (0, 0)) := by
    have h := Go.Deep.blk_alloc_new (w.alloc o) (.cells #[v] t)
    have e : (w.alloc o).heap.size = w.heap.size + 1 := by simp
    rw [e] at h
    exact h
  exact World.news_of_block hb

/-- A new array stands behind the others. -/
theorem LayA.arrnew {w w' : World} {B rb : Nat} {A : Ad} {s : Mc} (h : LayA w B rb A s) {tag' : Nat → Nat} (hc : Ch B (fun c => c = 0 ∨ c = 2) A.tag tag' w w') {av' nv : Value} {l : List V}
    (hrun : w'.heap[rb]? = some (.cells (rcells A.pv A.fv av' A.ov A.hv s) 155 (0, 0))) (har : Row w' B tag' 2 44 1 av' (s.arr.length + 1) (upd A.AV s.arr.length nv))
    (hnew : Row w' B tag' (12 + 3 * s.arr.length) 43 2 nv l.length (vcell l)) :
    LayA w' B rb { A with tag := tag', av := av', AV := upd A.AV s.arr.length nv } { s with arr := s.arr ++ [l] } := by
  refine ⟨hrun, ⟨h.own.1, (hc.tags rb (Lay.lt h)).trans h.own.2⟩, h.fr.keep hc (by omega), ?_, h.out.keep hc (by omega), h.hi.keep hc (by omega), fun i hi => (h.loc i hi).keep hc (by omega), fun i hi => (h.stk i hi).keep hc (by omega), fun j hj => ?_⟩
  · show Row w' B tag' 2 _ 1 av' (s.arr ++ [l]).length _
    rw [List.length_append]
    exact har
  · have hj' : j < s.arr.length + 1 := by simpa using hj
    show Row w' B tag' (12 + 3 * j) _ 2 (upd A.AV s.arr.length nv j) ((s.arr ++ [l]).getD j []).length (vcell ((s.arr ++ [l]).getD j []))
    by_cases e : j = s.arr.length
    · subst e
      have e2 : (s.arr ++ [l]).getD s.arr.length [] = l := by simp [List.getD_eq_getElem?_getD]
      rw [e2, upd_same]
      exact hnew
    · have e2 : (s.arr ++ [l]).getD j [] = s.arr.getD j [] := by rw [List.getD_eq_getElem?_getD, List.getD_eq_getElem?_getD, List.getElem?_append_left (by omega)]
      rw [e2, upd_other _ _ _ _ e]
      exact (h.arr j (by omega)).keep hc (by omega)

theorem block_set {w : World} {b i : Nat} {cs : Array Value} {e : TypeId} {z : Nat × Nat} (h : w.heap[b]? = some (.cells cs e z)) (v : Value) : (w.setCell ⟨b, i, none⟩ v).heap[b]? = some (.cells (cs.setIfInBounds i v) e z) := by
  simp [World.setCell, Array.getElem?_modify, h]

theorem LayA.arrgrew {w5 w6 : World} {B rb : Nat} {A5 : Ad} {s : Mc} (h : LayA w5 B rb A5 s) (hB5 : B ≤ w5.heap.size) {n na : Nat} (hn : n ≤ 1000) (hna : s.arr.length = na) {pa : Option Addr} {acap : Nat} (hav : A5.av = .slice pa na acap) {g cap : Nat}
    (hown : w6.ownsRow B 44 1 (.slice (some ⟨g, 0, none⟩) (na + 1) cap) (na + 1) (List.map A5.AV (List.range (na * 1)) ++ [.slice (some ⟨w5.heap.size, 0, none⟩) n n]))
    (hgrow : ((w5.alloc (.cells (vArr n) 43)).alloc (.cells #[.slice (some ⟨w5.heap.size, 0, none⟩) n n] 44)).drew.grownBy w6 (Value.slice pa na acap).ownBlock) (hat : (Value.slice pa na acap).ownBlock = some g ∨ g = w5.heap.size + 2) :
    ∃ A7, LayA (w6.setCell ⟨rb, 2, none⟩ (.slice (some ⟨g, 0, none⟩) (na + 1) cap)) B rb A7 { s with arr := s.arr ++ [List.replicate n vnil] } ∧ A7.pv = A5.pv ∧ A7.fv = A5.fv ∧ Ch B Five A5.tag A7.tag w5 (w6.setCell ⟨rb, 2, none⟩ (.slice (some ⟨g, 0, none⟩) (na + 1) cap)) := by
  subst hna
  have hrb := Lay.lt h
  generalize hT : upd (upd A5.tag w5.heap.size (12 + 3 * s.arr.length)) (w5.heap.size + 1) 5 = T
  have hT0 : ∀ b, b < w5.heap.size → T b = A5.tag b := fun b hb => by rw [← hT, upd_other _ _ _ _ (by omega), upd_other _ _ _ _ (by omega)]
  have hT1 : T w5.heap.size = 12 + 3 * s.arr.length := by rw [← hT, upd_other _ _ _ _ (by omega), upd_same]
  have hnewrow := vArr_row (B := B) (tag := T) w5 n hB5 (by unfold maxLen; omega) hT1
  have hbX : Below w5.heap.size w5 ((w5.alloc (.cells (vArr n) 43)).alloc (.cells #[.slice (some ⟨w5.heap.size, 0, none⟩) n n] 44)).drew := (((Below.refl _ _).alloc (Nat.le_refl _) _).alloc (by simp) _).drew
  have hbX1 : Below (w5.alloc (.cells (vArr n) 43)).heap.size (w5.alloc (.cells (vArr n) 43)) ((w5.alloc (.cells (vArr n) 43)).alloc (.cells #[.slice (some ⟨w5.heap.size, 0, none⟩) n n] 44)).drew := ((Below.refl _ _).alloc (Nat.le_refl _) _).drew
  have hcX : Ch B (fun _ => False) A5.tag T w5 ((w5.alloc (.cells (vArr n) 43)).alloc (.cells #[.slice (some ⟨w5.heap.size, 0, none⟩) n n] 44)).drew := Ch.of_tags hbX hT0
  have hnewX := hnewrow.below hbX1
  have hszX : ((w5.alloc (.cells (vArr n) 43)).alloc (.cells #[.slice (some ⟨w5.heap.size, 0, none⟩) n n] 44)).drew.heap.size = w5.heap.size + 2 := by simp
  generalize ((w5.alloc (.cells (vArr n) 43)).alloc (.cells #[.slice (some ⟨w5.heap.size, 0, none⟩) n n] 44)).drew = X at *
  have hrow := h.ar
  rw [hav] at hrow
  have hrowX := hrow.keep hcX (fun h => h)
  obtain ⟨tag', har, hgc⟩ := hrowX.grew hown hgrow (by rcases hat with h | h; exact Or.inl h; right; rw [h, hszX]) rfl
  have hc6 : Ch B (fun c => c = 0 ∨ c = 2) A5.tag tag' w5 w6 := (hcX.mono (fun _ h => h.elim)).trans (hgc.mono (fun _ h => Or.inr h))
  have htr : tag' rb = 0 := (hc6.tags rb hrb).trans h.own.2
  have hcs : Ch B (fun c => c = 0) tag' tag' w6 (w6.setCell ⟨rb, 2, none⟩ (.slice (some ⟨g, 0, none⟩) (s.arr.length + 1) cap)) := Ch.set w6 rb _ _ h.own.1 htr
  have hc7 := hc6.trans (hcs.mono (fun _ h => Or.inl h))
  have hrun6 : w6.heap[rb]? = some (.cells (rcells A5.pv A5.fv A5.av A5.ov A5.hv s) 155 (0, 0)) :=
    (hgc.block rb (by rw [hszX]; omega) (Or.inr (by rw [hT0 rb hrb, h.own.2]; omega))).trans ((hcX.block rb hrb (Or.inr (fun h => h))).trans h.run)
  refine ⟨_, LayA.arrnew h hc7 (av' := .slice (some ⟨g, 0, none⟩) (s.arr.length + 1) cap) (nv := .slice (some ⟨w5.heap.size, 0, none⟩) n n) (l := List.replicate n vnil) (block_set hrun6 _) ?_ ?_, rfl, rfl, hc7.mono (fun c hc => by intro h; omega)⟩
  · refine (har.keep hcs (by omega)).congr (fun i hi => ?_)
    by_cases e : i = s.arr.length
    · subst e
      rw [if_neg (by omega), upd_same]
      simp
    · rw [if_pos (by omega), upd_other _ _ _ _ e]
  · rw [List.length_replicate]
    exact (hnewX.keep hgc (by omega)).keep hcs (by omega)

set_option maxRecDepth 100000 in
set_option maxHeartbeats 2000000 in
theorem arrays_new (w : World) (B rb : Nat) (A : Ad) (s : Mc) (f : Fr) (rest : List Fr) (x : V) (st : List V) (hL : LayA w B rb A s) (hs : s.fr = f :: rest) (hst : f.stk = x :: st) (hB : B ≤ w.heap.size) (hn : st.length ≤ 60) (hr : rest.length ≤ 60) (hm : s.arr.length ≤ 150000) (hc : cellsP s.arr ≤ 200) :
    Calls Tryz.prog 113 #[.pointer (some ⟨rb, 0, none⟩), .int .i64 15] w fun e w' =>
      (x.k ≠ 1 → e = .returned (.int .i64 3) ∧ After w w' B rb A { s with fr := { f with stk := st } :: rest }) ∧
      (x.k = 1 → x.n < 0 → e = .returned (.int .i64 5) ∧ After w w' B rb A { s with fr := { f with stk := st } :: rest }) ∧
      (x.k = 1 → 0 ≤ x.n → 200 - cellsP s.arr < x.n → e = .returned (.int .i64 8) ∧ After w w' B rb A { s with fr := { f with stk := st } :: rest }) ∧
      (x.k = 1 → 0 ≤ x.n → x.n ≤ 200 - cellsP s.arr → e = .returned (.int .i64 0) ∧ After w w' B rb A { s with fr := { f with stk := ⟨2, (s.arr.length : Int)⟩ :: st } :: rest, arr := s.arr ++ [List.replicate x.n.toNat vnil] }) := by
  have hcon := pop_A w B rb A s f rest x st hL hs hst hB (by omega) (by omega)
  have HC := hid hcon
  clear hcon
  go_enter Tryz.func113, Tryz.ntmps113
  go_wp2_with fail
  refine HC.out.mono ?_
  rintro e w1 ⟨rfl, A1, h1, p1, f1, _, _, _, ch1⟩
  have HB := hid (boxed x h1 p1 f1 (ch1.mono five_stack))
  clear h1 p1 f1 ch1 HC
  have HQ0 : Hid (After w (w1.alloc (.cells #[.int .i64 x.k, .int .i64 x.n] 43)) B rb A { s with fr := { f with stk := st } :: rest }) := ⟨_, HB.out.lay, HB.out.pv, HB.out.fv, HB.out.ch⟩
  clear hL hst hs
  by_cases hk : x.k = 1
  · have e1 : (x.k != 1) = false := by simpa using hk
    have HK := hid hk
    clear hk
    by_cases hneg : x.n < 0
    · go_wp2
      go_ret
      exact ⟨fun h => absurd HK.out h, fun _ _ => ⟨rfl, HQ0.out⟩, fun _ h => absurd hneg (by omega), fun _ h => absurd hneg (by omega)⟩
    · go_wp2_with fail
      generalize w1.alloc (.cells #[.int .i64 x.k, .int .i64 x.n] 43) = W at *
      generalize { A1 with tag := upd A1.tag w1.heap.size 5 } = A' at *
      generalize w1.heap.size = bx at *
      have hcl := cells_nonneg s.arr
      have HCL := hid (cells_any W B rb A'.tag A'.pv A'.fv A'.av A'.ov A'.hv A'.LV A'.SV A'.AV { s with fr := { f with stk := st } :: rest } HB.out.lay hc (by show s.arr.length ≤ 200000; omega))
      have b1 := HB.out.box1
      refine HCL.out.mono ?_
      rintro e w2 ⟨rfl, rfl⟩
      have hcc : cellsP ({ s with fr := { f with stk := st } :: rest } : Mc).arr = cellsP s.arr := rfl
      rw [hcc]
      clear hcc HCL
      by_cases hfree : 200 - cellsP s.arr < x.n
      · go_wp2
        go_ret
        exact ⟨fun h => absurd HK.out h, fun _ h => absurd h (by omega), fun _ _ _ => ⟨rfl, HQ0.out⟩, fun _ _ h => absurd hfree (by omega)⟩
      · have HF := hid hfree
        obtain ⟨pa, acap, hav, hacap⟩ := (Lay.ar HB.out.lay).any
        have r2 : w2.cell? ⟨rb, 2, none⟩ = some (.slice pa s.arr.length acap) := by rw [Lay.cell HB.out.lay 2]; show some A'.av = _; rw [hav]
        have hpush : ∀ X, Below w2.heap.size w2 X →
            Calls Tryz.prog 111 #[.pointer (some ⟨rb, 0, none⟩), .agg #[.int .i64 2, .int .i64 (s.arr.length : Int)]] X fun e w' => e = .returned (.tuple #[]) ∧
              ∃ A5, LayA w' B rb A5 { s with fr := { f with stk := ⟨2, (s.arr.length : Int)⟩ :: st } :: rest } ∧ A5.pv = A'.pv ∧ A5.fv = A'.fv ∧ A5.av = A'.av ∧ Ch B (fun c => c = 1 ∨ c = 11 + 3 * rest.length) A'.tag A5.tag w2 w' :=
          fun X hX => by
            refine (push_A X B rb A' { s with fr := { f with stk := st } :: rest } { f with stk := st } rest ⟨2, (s.arr.length : Int)⟩ (LayA.below HB.out.lay hX) rfl (by have := hX.size; have := HB.out.ch.size; omega) (by show st.length ≤ 64; omega) (by omega)).mono ?_
            rintro e w' ⟨rfl, A5, g1, g2, g3, g4, g5, g6, g7⟩
            exact ⟨rfl, A5, g1, g2, g3, g4, (Ch.of_below hX).trans g7⟩
        have HP := hid hpush
        have hrb := Lay.lt HB.out.lay
        have hbx := HB.out.lt
        have HT := hid (And.intro (Lay.own HB.out.lay).2 HB.out.tag)
        have hna : s.arr.length ≤ 150000 := hm
        have HV := hid hav
        clear hpush hav
        generalize hnn : s.arr.length = na at *
        have Hna := hid hnn
        clear hnn
        go_wp2_with fail
        refine (HP.out _ ?_).mono ?_
        exact (by repeat (first | exact Below.refl _ _ | refine Below.drew ?_ | refine Below.alloc ?_ (by first | omega | (simp; done) | (simp; omega)) _))
        rintro e w5 ⟨rfl, A5, h5, p5, f5, a5, ch5⟩
        have q0 := (ch5.cell (a := ⟨rb, 2, none⟩) hrb (by show ¬ (_ ∨ _); rw [HT.out.1]; omega)).trans r2
        have q1 := (ch5.cell (a := ⟨bx, 1, none⟩) hbx (by show ¬ (_ ∨ _); rw [HT.out.2]; omega)).trans b1
        have HH := hid h5
        have HC5 := hid ch5
        clear h5 ch5 r2 b1
        go_wp2
        obtain ⟨inf, hi, hz0, hz1, hz2⟩ : ∃ i, Tryz.prog.info? 44 = some i ∧ i.zero = some (.slice none 0 0) ∧ i.size = 1 ∧ i.bytes = 24 := by
          obtain ⟨i, hi, hzz⟩ := Option.map_eq_some_iff.1 Tryz.info44
          simp only [Prod.mk.injEq] at hzz
          exact ⟨i, hi, hzz.1, hzz.2.1, hzz.2.2⟩
        have hx0 : 0 ≤ x.n := by omega
        have hx1 : x.n ≤ 200 := by omega
        have hmk := make_vals x.n hx0 (by omega)
        have HR : Hid (Row w5 B A5.tag 2 44 1 (.slice pa na acap) na A5.AV) := by
          have h := Lay.ar HH.out
          rw [a5, HV.out] at h
          have hl : ({ s with fr := { f with stk := ⟨2, (na : Int)⟩ :: st } :: rest } : Mc).arr.length = na := Hna.out
          rw [hl] at h
          exact h
        have hB5 : B ≤ w5.heap.size := by have := HC5.out.size; have := HB.out.ch.size; omega
        have hrb5 : rb < w5.heap.size := Lay.lt HH.out
        have hne1 : some rb ≠ (Value.slice pa na acap).ownBlock := HR.out.other (by rw [(Lay.own HH.out).2]; omega)
        have z2 := Lay.frozen HH.out 2
        have HZ := hid z2
        clear z2
        go_region_law ((refine step_append_lies _ (by rfl) _ _ _ (by rfl) B 44 inf _ 1 24 Tryz.underlying51 hi hz0 hz1 hz2 rfl (by decide) (.slice pa na acap) na _ (by rfl) (by exact ((HR.out.owns.drew).alloc _).alloc _) ⟨w5.heap.size + 1, 0, none⟩ 1 1 [.slice (some ⟨w5.heap.size, 0, none⟩) x.n.toNat x.n.toNat] (by rfl) (by rfl) (by exact news1 _ _ _ _) (by intro u hu; simp at hu; subst hu; rfl) (by omega) (by unfold maxLen; omega) (by omega) (by simp; omega) (w5.heap.size + 2) (by simp) ?_; intro g cap w6 hown1 hgrow hat hlt; have y0 := (grew_cell2 hgrow (a := ⟨rb, 2, none⟩) hrb5 hne1).trans q0; have y1 := (grew_frozen2 hgrow (a := ⟨rb, 2, none⟩) hrb5 hne1).trans HZ.out))
        all_goals
          have hfin := LayA.arrgrew (s := { s with fr := { f with stk := ⟨2, (na : Int)⟩ :: st } :: rest }) (n := x.n.toNat) HH.out hB5 (by omega) (na := na) Hna.out (a5.trans HV.out) hown1 hgrow hat
          have HQ := hid hfin
          clear hfin hown1 hgrow y0 y1
          go_wp2
          go_ret
          obtain ⟨A7, g1, g2, g3, g4⟩ := HQ.out
          have hF2 := HF.out
          refine ⟨fun h => absurd HK.out h, by intros; omega, by intros; omega, ?_⟩
          intros
          refine ⟨rfl, A7, ?_, ?_, ?_, ?_⟩
          · have e := Hna.out
            rw [e]
            exact g1
          · exact g2.trans (p5.trans HB.out.pv)
          · exact g3.trans (f5.trans HB.out.fv)
          · exact (HB.out.ch.trans (HC5.out.mono five_stack)).trans g4
  · have e1 : (x.k != 1) = true := by simpa using hk
    have HK := hid hk
    clear hk
    go_wp2
    go_ret
    exact ⟨fun _ => ⟨rfl, HQ0.out⟩, fun h => absurd h HK.out, fun h => absurd h HK.out, fun h => absurd h HK.out⟩
end Go.Proofs.YtkafkipjedpohaaGreatDoor
