import Derived.Test.YtkafkipjedpohaaDoorD4

/-
  upshiftlaw.loaded: the walk.
-/
namespace Go.Proofs.YtkafkipjedpohaaDoor
open Go.RowKit

set_option maxHeartbeats 400000 in
theorem num_any (n : Int) (w : World) : Calls Tryd.prog 11 #[.int .i64 n] w fun e w' => e = .returned (.int .i64 n) ∧ w' = w := by
  go_enter Tryd.func11, Tryd.ntmps11
  go_wp2
  go_ret
  exact ⟨rfl, rfl⟩

theorem LentTo.prog {w : World} {b m : Nat} {F : Nat → PF} (h : LentTo w b m (m + 2) F) (hb : b + 1 + m ≤ w.heap.size) : ProgAt w b 0 m F (fun i => some ⟨b + 1 + i, 0, none⟩) (fun i => (F i).cn + 2) := by
  refine ⟨by omega, fun k hk => ?_⟩
  obtain ⟨h0, h1, h2⟩ := h.cells hk (by omega)
  refine ⟨by rw [Nat.zero_add]; exact h0, by rw [Nat.zero_add]; exact h1, by rw [Nat.zero_add]; exact h2, fun _ => ⟨b + 1 + k, 0, rfl, by omega, fun i hi => ?_⟩⟩
  have hr := h.code k hk (by omega)
  have x0 := hr.cell (i := i * 2) (by omega)
  have x1 := hr.cell (i := i * 2 + 1) (by omega)
  obtain ⟨z0, z1⟩ := icell_in (F k) i hi
  rw [z0] at x0
  rw [z1] at x1
  rw [Nat.zero_add]
  exact ⟨x0, x1⟩

/-- upshiftref.Load, of whatever program. -/
theorem refLoad_all (p : Option Addr) (pc m : Nat) (F : Nat → PF) (CA : Nat → Option Addr) (CC : Nat → Nat) (w : World) (hG : Given w p m F CA CC) :
    Calls Tryd.prog 8 #[.slice p m pc] w fun e w' =>
      e = .returned (.tuple #[.int .i64 (progP m F).1, .int .i64 (progP m F).2.1, .int .i64 (progP m F).2.2]) ∧ Below w.heap.size w w' := by
  by_cases h : m < 1 ∨ 8 < m
  · exact refLoad_size p pc m F w h
  · obtain ⟨pb, po, rfl, hP⟩ := hG (by omega)
    exact refLoad_any pb po pc m F CA CC w hP h

/-- upshift.Load of what is lent. -/
theorem load_lent (b m : Nat) (F : Nat → PF) (w : World) (hL : LentTo w b m (m + 2) F) (hb : b + 1 + m ≤ w.heap.size) (ht : TabAt w) :
    Calls Tryd.prog 7 #[.slice (some ⟨b, 0, none⟩) m (m + 2)] w fun e w' =>
      ∃ v, e = .returned (.tuple #[v, .int .i64 (progP m F).1, .int .i64 (progP m F).2.1, .int .i64 (progP m F).2.2]) ∧ Below w.heap.size w w' ∧ (((progP m F).1 = 0 ∧ CodeIs w w' v m F) ∨ ((progP m F).1 ≠ 0 ∧ v = .pointer none)) := by
  by_cases h0 : (progP m F).1 = 0
  · obtain ⟨_, _, hR, _⟩ := progP_fine h0
    refine (load_fine b 0 (m + 2) m F _ _ w (hL.prog hb) ht h0).mono ?_
    rintro e w' ⟨v, rfl, hB, hC⟩
    refine ⟨v, ?_, hB, Or.inl ⟨h0, hC⟩⟩
    rw [hR]
  · have hcon : Calls Tryd.prog 12 #[.slice (some ⟨b, 0, none⟩) m (m + 2)] w fun e w' => e = .returned (.tuple #[.int .i64 (progP m F).1, .int .i64 (progP m F).2.1, .int .i64 (progP m F).2.2]) ∧ Below w.heap.size w w' := by
      by_cases h : m < 1 ∨ 8 < m
      · exact program_size _ _ m F w h
      · exact program_any b 0 (m + 2) m F _ _ w (hL.prog hb) h ht
    refine (load_bad _ _ m F w h0 hcon).mono ?_
    rintro e w' ⟨rfl, hB⟩
    exact ⟨_, rfl, hB, Or.inr ⟨h0, rfl⟩⟩

theorem CodeIs.stays {w w' w5 : World} {v : Value} {m : Nat} {F : Nat → PF} (h : CodeIs w w' v m F) (hz : w'.heap.size ≤ w5.heap.size) (hk : ∀ k, w.heap.size ≤ k → k < w'.heap.size → w5.heap[k]? = w'.heap[k]?) : CodeIs w w5 v m F := by
  obtain ⟨b, g, cap, hv, hb, hb2, hc, hg, hg2, hne, CA, CC, hj⟩ := h
  have hcell : ∀ k o, w.heap.size ≤ k → k < w'.heap.size → w5.cell? ⟨k, o, none⟩ = w'.cell? ⟨k, o, none⟩ := fun k o h1 h2 => World.cell?_of_block (hk k h1 h2)
  refine ⟨b, g, cap, hv, hb, by omega, (hcell b 0 hb hb2).trans hc, hg, by omega, hne, CA, CC, fun j hjm => ?_⟩
  obtain ⟨hf, cb, co, ec, hne2, hold⟩ := hj j hjm
  refine ⟨⟨(hcell g _ hg hg2).trans hf.args, (hcell g _ hg hg2).trans hf.locals, (hcell g _ hg hg2).trans hf.slice, fun h1 => ?_⟩, cb, co, ec, hne2, hold⟩
  obtain ⟨cb', co', e', hl, hcode⟩ := hf.code h1
  have e2 := e'
  rw [ec] at e2
  injection e2 with e2
  injection e2 with e3 e4
  subst e3
  subst e4
  refine ⟨cb, co, e', by omega, fun i hi => ?_⟩
  obtain ⟨c0, c1⟩ := hcode i hi
  exact ⟨(hcell cb _ (hold hjm) hl).trans c0, (hcell cb _ (hold hjm) hl).trans c1⟩
theorem CodeIs.elder {w0 w w' : World} {v : Value} {m : Nat} {F : Nat → PF} (h : CodeIs w w' v m F) (hz : w0.heap.size ≤ w.heap.size) : CodeIs w0 w' v m F := by
  obtain ⟨b, g, cap, hv, hb, hb2, hc, hg, hg2, hne, CA, CC, hj⟩ := h
  refine ⟨b, g, cap, hv, by omega, hb2, hc, by omega, hg2, hne, CA, CC, fun j hjm => ?_⟩
  obtain ⟨hf, cb, co, ec, hne2, hold⟩ := hj j hjm
  exact ⟨hf, cb, co, ec, hne2, fun hl => by have := hold hl; omega⟩

set_option maxRecDepth 100000 in
set_option maxHeartbeats 1000000 in
theorem loaded_any (p : Option Addr) (pc m : Nat) (F : Nat → PF) (CA : Nat → Option Addr) (CC : Nat → Nat) (w : World) (hG : Given w p m F CA CC) (hm : 40 * m ≤ 140737488355328) (hcn : ∀ k, k < m → 16 * (F k).cn ≤ 140737488355328) (ht : TabAt w) (hw : 0 < w.heap.size) :
    Calls Tryd.prog 4 #[.slice p m pc] w fun e w' =>
      ∃ v, e = .returned (.tuple #[v, .bool true]) ∧ Below w.heap.size w w' ∧ (((progP m F).1 = 0 ∧ CodeIs w w' v m F) ∨ ((progP m F).1 ≠ 0 ∧ v = .pointer none)) := by
  have HG := hid (And.intro hG (And.intro hcn ht))
  clear hG hcn ht
  go_enter Tryd.func4, Tryd.ntmps4
  go_wp2_with fail
  refine (lent_any p pc m F CA CC w HG.out.1 hm HG.out.2.1).mono ?_
  rintro e w1 ⟨rfl, hB1, hz1, hL1⟩
  have H1 := hid (And.intro hB1 (And.intro hz1 hL1))
  have hcon := load_lent w.heap.size m F w1 hL1 (by omega) (HG.out.2.2.below hB1 hw)
  have HC := hid hcon
  clear hB1 hz1 hL1 hcon
  have j0 : (0 : Int) ≤ (m : Int) := by omega
  have j1 : (m : Int) ≤ (m : Int) + 2 := by omega
  go_wp2_with fail
  refine HC.out.mono ?_
  rintro e w2 ⟨v, rfl, hB2, hv⟩
  obtain ⟨hB1, hz1, hL1⟩ := H1.out
  have hBw2 : Below w.heap.size w w2 := hB1.trans (hB2.mono hB1.size)
  have hL2 := hL1.below hB2 (by omega)
  have hz2 : w.heap.size + 1 + m ≤ w2.heap.size := by have := hB2.size; omega
  have hcon2 := refLoad_all p pc m F CA CC w2 (HG.out.1.below hBw2 (Nat.le_refl _))
  have HC2 := hid hcon2
  have H2 := hid (And.intro hBw2 (And.intro hL2 hz2))
  have Hv := hid hv
  have HZ1 := hid hz1
  clear hB1 hz1 hL1 hBw2 hL2 hz2 hcon2 hB2 hv HC H1
  generalize hR : progP m F = R at *
  have HR := hid hR
  clear hR
  go_wp2_with fail
  refine HC2.out.mono ?_
  rintro e w3 ⟨rfl, hB3⟩
  obtain ⟨hB2, hL2, hz2⟩ := H2.out
  have hBw3 : Below w.heap.size w w3 := hB2.trans (hB3.mono hB2.size)
  have hL3 := hL2.below hB3 (by omega)
  have hz3 : w.heap.size + 1 + m ≤ w3.heap.size := by have := hB3.size; omega
  have hcon3 := kept_any w.heap.size p pc m F CA CC w3 (HG.out.1.below hBw3 (Nat.le_refl _)) hL3 hz3 hm HG.out.2.1
  have HC3 := hid hcon3
  have H3 := hid (And.intro hBw3 (And.intro hL3 hz3))
  have HK3 := hid hB3
  clear hB2 hL2 hz2 hBw3 hL3 hz3 hcon3 hB3 HC2 H2
  go_wp2_with fail
  refine HC3.out.mono ?_
  rintro e w4 ⟨rfl, hB4⟩
  obtain ⟨hB3, hL3, hz3⟩ := H3.out
  have hBw4 : Below w.heap.size w w4 := hB3.trans (hB4.mono hB3.size)
  have hL4 := hL3.below hB4 (by omega)
  have hcon4 := spoil_any w.heap.size m F w4 hL4 hm HG.out.2.1
  have HC4 := hid hcon4
  have H4 := hid hBw4
  have HK4 : Hid (Below w2.heap.size w2 w4) := HK3.out.trans (hB4.mono HK3.out.size)
  clear hB3 hL3 hz3 hBw4 hL4 hcon4 hB4 HC3 H3
  go_wp2_with fail
  refine HC4.out.mono ?_
  rintro e w5 ⟨rfl, hB5⟩
  have H5 : Hid (Below w.heap.size w w5) := H4.out.trans hB5.low
  have HK5 : Hid (w2.heap.size ≤ w5.heap.size ∧ ∀ k, w1.heap.size ≤ k → k < w2.heap.size → w5.heap[k]? = w2.heap[k]?) := by
    have h1 := HK4.out.size
    have h2 := hB5.low.size
    refine ⟨by omega, fun k hk1 hk2 => ?_⟩
    rw [hB5.high k (by have := HZ1.out; omega)]
    exact HK4.out.block k hk2
  clear hB5 HC4 H4 HK4 HK3
  have e1 : (R.1 == R.1) = true := by simp
  have e2 : (R.2.1 == R.2.1) = true := by simp
  have e3 : (R.2.2 == R.2.2) = true := by simp
  rcases Hv.out with ⟨h0, hC⟩ | ⟨h0, rfl⟩
  · have HF := hid (And.intro h0 ((hC.stays HK5.out.1 HK5.out.2).elder (w0 := w) (by have := HZ1.out; omega)))
    obtain ⟨bc, g, cap, rfl, _⟩ := hC
    have e4 : (R.1 == 0) = true := by simpa using h0
    clear h0
    go_wp2_with (go_at_call 11; refine (num_any _ _).mono ?_; rintro e w' ⟨rfl, rfl⟩)
    go_ret2
    exact ⟨_, rfl, H5.out, Or.inl ⟨by rw [HR.out]; exact HF.out.1, HF.out.2⟩⟩
  · have e4 : (R.1 == 0) = false := by simpa using h0
    have e5 : (R.1 != 0) = true := by simpa using h0
    have HN := hid h0
    clear h0
    go_wp2_with (go_at_call 11; refine (num_any _ _).mono ?_; rintro e w' ⟨rfl, rfl⟩)
    go_ret2
    exact ⟨_, rfl, H5.out, Or.inr ⟨by rw [HR.out]; exact HN.out, rfl⟩⟩
end Go.Proofs.YtkafkipjedpohaaDoor
