import Derived.Test.YtkafkipjedpohaaGreatDoorU3
import Derived.Test.YtkafkipjedpohaaGreatDoorLy
import Derived.Test.YtkafkipjedpohaaGreatDoorU7
import Derived.Test.YtkafkipjedpohaaGreatDoorU8
import Derived.Test.YtkafkipjedpohaaGreatDoorD3
import Derived.Test.YtkafkipjedpohaaGreatDoorLz

/-
  upshiftlaw.pick; Headers of both; a World whole.
-/
namespace Go.Proofs.YtkafkipjedpohaaGreatDoor
open Go.RowKit

theorem lawPick_any (c n : Int) (w : World) (hc : -9223372036854775808 ≤ c ∧ c ≤ 9223372036854775807) (hn : 0 < n ∧ n ≤ 100000000) :
    Calls Tryz.prog 53 #[.int .i64 c, .int .i64 n] w fun e w' => ∃ r : Nat, e = .returned (.int .i64 r) ∧ (r : Int) < n ∧ w' = w := by
  obtain ⟨h1, h2⟩ := hc
  obtain ⟨h3, h4⟩ := hn
  have hn0 : ¬ n = 0 := by omega
  by_cases h : c < 0
  · have hd : decide (c < 0) = true := by simp [h]
    have e1 : wrap64 (c + 1) = c + 1 := by unfold wrap64; omega
    have e2 : wrap64 (-(c + 1)) = -(c + 1) := by unfold wrap64; omega
    have e3 : (-(c + 1)).tmod n = (-(c + 1)) % n := Int.tmod_eq_emod_of_nonneg (by omega)
    have k1 := Int.emod_nonneg (-(c + 1)) hn0
    have k2 := Int.emod_lt_of_pos (-(c + 1)) h3
    have e4 : wrap64 ((-(c + 1)) % n) = (-(c + 1)) % n := by unfold wrap64; omega
    obtain ⟨r, hr⟩ : ∃ r : Nat, (-(c + 1)) % n = r := ⟨((-(c + 1)) % n).toNat, by omega⟩
    have HR := hid (And.intro hr k2)
    clear k1 k2 hr
    go_enter Tryz.func53, Tryz.ntmps53
    go_wp2
    go_ret
    refine ⟨r, ?_, by have h1 := HR.out.1; have h2 := HR.out.2; omega, rfl⟩
    rw [← HR.out.1]
    simp_all
  · have hd : decide (c < 0) = false := by simp [h]
    have e3 : c.tmod n = c % n := Int.tmod_eq_emod_of_nonneg (by omega)
    have k1 := Int.emod_nonneg c hn0
    have k2 := Int.emod_lt_of_pos c h3
    have e4 : wrap64 (c % n) = c % n := by unfold wrap64; omega
    obtain ⟨r, hr⟩ : ∃ r : Nat, c % n = r := ⟨(c % n).toNat, by omega⟩
    have HR := hid (And.intro hr k2)
    clear k1 k2 hr
    go_enter Tryz.func53, Tryz.ntmps53
    go_wp2
    go_ret
    refine ⟨r, ?_, by have h1 := HR.out.1; have h2 := HR.out.2; omega, rfl⟩
    rw [← HR.out.1]
    rfl

/-- The heads of function N, if it is there. -/
def headsN (m : Nat) (F : Nat → PF) (N : Int) : List Nat := if 0 ≤ N ∧ N < m then headsTo (F N.toNat) (F N.toNat).cn else []
def IntsL (w w' : World) (v : Value) (l : List Nat) : Prop := Row w' w.heap.size (fun _ => 0) 0 3 1 v l.length (headCell l)

set_option maxRecDepth 100000 in
set_option maxHeartbeats 1000000 in
theorem codeHeaders (w : World) (cb pb po pc m : Nat) (F : Nat → PF) (K : Nat → Nat → Bool) (H : Nat → Nat → Int) (CA : Nat → Option Addr) (CC : Nat → Nat) (N : Int) (hc : w.cell? ⟨cb, 0, none⟩ = some (.slice (some ⟨pb, po, none⟩) m pc)) (hP : ProgAt w pb po m F CA CC) (hF : Fine m F K H) :
    Calls Tryz.prog 27 #[.pointer (some ⟨cb, 0, none⟩), .int .i64 N] w fun e w' => ∃ v, e = .returned v ∧ IntsL w w' v (headsN m F N) ∧ Below w.heap.size w w' := by
  have hm := hF.size
  by_cases h0 : N < 0
  · have hd : decide (N < 0) = true := by simpa using h0
    have hN : Hid (headsN m F N = []) := by unfold Hid headsN; rw [if_neg (by omega)]
    clear hP hF
    go_enter Tryz.func27, Tryz.ntmps27
    go_wp2
    go_ret
    exact ⟨_, rfl, by rw [hN.out]; exact Row.nil _ _ _ _ _ _ _, Below.refl _ _⟩
  · have hd : decide (N < 0) = false := by simpa using h0
    by_cases h1 : (m : Int) ≤ N
    · have hd1 : decide ((m : Int) ≤ N) = true := by simpa using h1
      have hN : Hid (headsN m F N = []) := by unfold Hid headsN; rw [if_neg (by omega)]
      clear hP hF
      go_enter Tryz.func27, Tryz.ntmps27
      go_wp2
      go_ret
      exact ⟨_, rfl, by rw [hN.out]; exact Row.nil _ _ _ _ _ _ _, Below.refl _ _⟩
    · obtain ⟨k, rfl⟩ : ∃ k : Nat, N = k := ⟨N.toNat, by omega⟩
      have hkm : k < m := by omega
      have hd1 : decide ((m : Int) ≤ (k : Int)) = false := by simp; omega
      have hff := hF.fn k hkm
      have hfun := hP.fn k hkm
      obtain ⟨kb, ko, eca, hkb, hcode⟩ := hfun.code hff.cn.1
      have a2 := hfun.slice
      rw [eca] at a2
      have hpz := hP.lt
      have i0 : (0 : Int) ≤ (k : Int) := by omega
      have i1 : (k : Int) < (m : Int) := by omega
      have hh := heads_any w kb ko (CC k) (F k) hcode hkb hff.cn.2 (fun j hj hop => by
        have hl := hff.legal j hj
        exact legal_jump hl hop)
      have HH := hid hh
      have hN : Hid (headsN m F (k : Int) = headsTo (F k) (F k).cn) := by unfold Hid headsN; rw [if_pos (by omega), Int.toNat_natCast]
      clear hP hF hff hfun hcode hh eca
      generalize hcn : (F k).cn = cn at *
      have HCN := hid hcn
      clear hcn
      go_enter Tryz.func27, Tryz.ntmps27
      go_wp2_with fail
      refine HH.out.mono ?_
      rintro e w2 ⟨v, rfl, h1, h2⟩
      have HQ := hid (And.intro h1 h2)
      clear h1 h2
      go_wp2
      go_ret
      exact ⟨_, rfl, by rw [hN.out]; exact HQ.out.1, HQ.out.2⟩

theorem refHeaders (w : World) (pb po pc m : Nat) (F : Nat → PF) (K : Nat → Nat → Bool) (H : Nat → Nat → Int) (CA : Nat → Option Addr) (CC : Nat → Nat) (N : Int) (hP : ProgAt w pb po m F CA CC) (hF : Fine m F K H) :
    Calls Tryz.prog 54 #[.slice (some ⟨pb, po, none⟩) m pc, .int .i64 N] w fun e w' => ∃ v, e = .returned v ∧ IntsL w w' v (headsN m F N) ∧ Below w.heap.size w w' := by
  have hm := hF.size
  by_cases h0 : N < 0
  · have hd : decide (N < 0) = true := by simpa using h0
    have hN : Hid (headsN m F N = []) := by unfold Hid headsN; rw [if_neg (by omega)]
    clear hP hF
    go_enter Tryz.func54, Tryz.ntmps54
    go_wp2
    go_ret
    exact ⟨_, rfl, by rw [hN.out]; exact Row.nil _ _ _ _ _ _ _, Below.refl _ _⟩
  · have hd : decide (N < 0) = false := by simpa using h0
    by_cases h1 : (m : Int) ≤ N
    · have hd1 : decide ((m : Int) ≤ N) = true := by simpa using h1
      have hN : Hid (headsN m F N = []) := by unfold Hid headsN; rw [if_neg (by omega)]
      clear hP hF
      go_enter Tryz.func54, Tryz.ntmps54
      go_wp2
      go_ret
      exact ⟨_, rfl, by rw [hN.out]; exact Row.nil _ _ _ _ _ _ _, Below.refl _ _⟩
    · obtain ⟨k, rfl⟩ : ∃ k : Nat, N = k := ⟨N.toNat, by omega⟩
      have hkm : k < m := by omega
      have hN : headsN m F (k : Int) = headsTo (F k) (F k).cn := by unfold headsN; rw [if_pos (by omega), Int.toNat_natCast]
      rw [hN]
      exact headers_any w pb po pc m k (F k) (CA k) (CC k) (hP.fn k hkm) hP.lt hkm hm.2 (hF.fn k hkm).cn.2

/-- A block that stands: older than the run of the law, or tagged so. -/
def Std (w : World) (B : Nat) (tag : Nat → Nat) (b : Nat) : Prop := b < w.heap.size ∧ (b < B ∨ tag b = 9)
/-- A program in blocks that stand. -/
def ProgStd (w : World) (B : Nat) (tag : Nat → Nat) (pb po m : Nat) (F : Nat → PF) : Prop :=
  ∃ CA CC, ProgAt w pb po m F CA CC ∧ Std w B tag pb ∧ ∀ k, k < m → ∀ cb co, CA k = some ⟨cb, co, none⟩ → 1 ≤ (F k).cn → Std w B tag cb
theorem ProgStd.keep {w w' : World} {B : Nat} {tag tag' : Nat → Nat} {pb po m : Nat} {F : Nat → PF} (h : ProgStd w B tag pb po m F) (hz : w.heap.size ≤ w'.heap.size) (hk : ∀ b, Std w B tag b → w'.heap[b]? = w.heap[b]?) (ht : ∀ b, b < w.heap.size → tag b = 9 → tag' b = 9) : ProgStd w' B tag' pb po m F := by
  obtain ⟨CA, CC, hP, h1, h2⟩ := h
  have hs : ∀ b, Std w B tag b → Std w' B tag' b := fun b hb => ⟨by have := hb.1; omega, by rcases hb.2 with h | h; exact Or.inl h; exact Or.inr (ht b hb.1 h)⟩
  have hc : ∀ b o, Std w B tag b → w'.cell? ⟨b, o, none⟩ = w.cell? ⟨b, o, none⟩ := fun b o hb => World.cell?_of_block (hk b hb)
  refine ⟨CA, CC, ⟨(hs pb h1).1, fun k hkm => ?_⟩, hs pb h1, fun k hkm cb co e hcn => hs cb (h2 k hkm cb co e hcn)⟩
  have hf := hP.fn k hkm
  refine ⟨(hc pb _ h1).trans hf.args, (hc pb _ h1).trans hf.locals, (hc pb _ h1).trans hf.slice, fun hcn => ?_⟩
  obtain ⟨cb, co, e, hl, hcode⟩ := hf.code hcn
  have hcs := h2 k hkm cb co e hcn
  refine ⟨cb, co, e, (hs cb hcs).1, fun i hi => ?_⟩
  obtain ⟨c0, c1⟩ := hcode i hi
  exact ⟨(hc cb _ hcs).trans c0, (hc cb _ hcs).trans c1⟩

/-- A code and its program. -/
structure CdAt (w : World) (B : Nat) (tag : Nat → Nat) (cv pv : Value) (m : Nat) (F : Nat → PF) : Prop where
  code : ∃ cb g cap, cv = .pointer (some ⟨cb, 0, none⟩) ∧ Std w B tag cb ∧ w.cell? ⟨cb, 0, none⟩ = some (.slice (some ⟨g, 0, none⟩) m cap) ∧ ProgStd w B tag g 0 m F
  prog : ∃ pb po pc, pv = .slice (some ⟨pb, po, none⟩) m pc ∧ ProgStd w B tag pb po m F
  fine : ∃ K H, Fine m F K H
theorem CdAt.keep {w w' : World} {B : Nat} {tag tag' : Nat → Nat} {cv pv : Value} {m : Nat} {F : Nat → PF} (h : CdAt w B tag cv pv m F) (hz : w.heap.size ≤ w'.heap.size) (hk : ∀ b, Std w B tag b → w'.heap[b]? = w.heap[b]?) (ht : ∀ b, b < w.heap.size → tag b = 9 → tag' b = 9) : CdAt w' B tag' cv pv m F := by
  obtain ⟨⟨cb, g, cap, e1, s1, c1, p1⟩, ⟨pb, po, pc, e2, p2⟩, hF⟩ := h
  exact ⟨⟨cb, g, cap, e1, ⟨by have := s1.1; omega, by rcases s1.2 with h | h; exact Or.inl h; exact Or.inr (ht cb s1.1 h)⟩, (World.cell?_of_block (hk cb s1)).trans c1, p1.keep hz hk ht⟩, ⟨pb, po, pc, e2, p2.keep hz hk ht⟩, hF⟩

/-- A World whole: nc codes beside the lists that are held. -/
structure WAt (w : World) (B wb : Nat) (A : AdH) (n : Nat → Nat) (nc : Nat) (CV PV : Nat → Value) (M : Nat → Nat) (FF : Nat → Nat → PF) : Prop where
  hold : HoldAt w B wb A (fun d => d = 9) n
  four : ∀ k, k < 4 → n k % 4 = 0
  cr : Row w B A.tag 3 25 1 A.cv nc CV
  pr : Row w B A.tag 4 23 1 A.pv nc PV
  cd : ∀ i, i < nc → CdAt w B A.tag (CV i) (PV i) (M i) (FF i)
end Go.Proofs.YtkafkipjedpohaaGreatDoor

/-
  upshiftlaw's World.step: Run.
-/
namespace Go.Proofs.YtkafkipjedpohaaGreatDoor
open Go.RowKit

/-- Behind a call whose lists were kept. -/
theorem WAt.after {w X w2 : World} {B wb : Nat} {A A2 : AdH} {n n2 : Nat → Nat} {nc : Nat} {CV PV : Nat → Value} {M : Nat → Nat} {FF : Nat → Nat → PF} {tX : Nat → Nat} {p : Nat → Prop} (h : WAt w B wb A n nc CV PV M FF) (hX : Below w.heap.size w X) (ht : ∀ b, b < w.heap.size → tX b = A.tag b)
    (h2 : HoldAt w2 B wb A2 (fun d => d = 9 ∨ d = 10) n2) (hc : Ch B p tX A2.tag X w2) (hp3 : ¬ p 3) (hp4 : ¬ p 4) (hp9 : ¬ p 9) (hcv : A2.cv = A.cv) (hpv : A2.pv = A.pv) (h4 : ∀ k, k < 4 → n2 k % 4 = 0) :
    ∃ A3 : AdH, WAt w2 B wb A3 n2 nc CV PV M FF := by
  have c0 : Ch B (fun _ => False) A.tag tX w X := Ch.of_tags hX ht
  have call : Ch B p A.tag A2.tag w w2 := (c0.mono (fun _ h => h.elim)).trans hc
  have hre : ∀ d, d ≠ 10 → ∀ b, b < w2.heap.size → A2.tag b = d → (if A2.tag b = 10 then 9 else A2.tag b) = d := fun d hd b _ e => by rw [if_neg (by omega)]; exact e
  have hrow : ∀ {c : Nat} {e : TypeId} {sz : Nat} {v : Value} {m : Nat} {f : Nat → Value}, c ≠ 10 → Row w2 B A2.tag c e sz v m f → Row w2 B (fun b => if A2.tag b = 10 then 9 else A2.tag b) c e sz v m f := by
    intro c e sz v m f hc hr
    rcases hr with hr | ⟨b, cap, cur, hv, hb, ht, hh, hr⟩
    · exact Or.inl hr
    · exact Or.inr ⟨b, cap, cur, hv, hb, hre c hc b (heap_lt hh) ht, hh, hr⟩
  refine ⟨{ A2 with tag := fun b => if A2.tag b = 10 then 9 else A2.tag b }, ⟨?_, h4, ?_, ?_, fun i hi => ?_⟩⟩
  · refine h2.retag (fun b _ hb => ?_) (fun b _ hb => ?_) (fun d hd => by rw [hd]; unfold Wt; omega)
    · show (if A2.tag b = 10 then 9 else A2.tag b) = A2.tag b
      rw [if_neg (by unfold Wt at hb; omega)]
    · show (if A2.tag b = 10 then 9 else A2.tag b) = 9
      rcases hb with hb | hb
      · rw [if_neg (by omega)]; exact hb
      · rw [if_pos hb]
  · show Row w2 B _ 3 _ 1 A2.cv nc CV
    rw [hcv]
    exact hrow (by omega) (h.cr.keep call hp3)
  · show Row w2 B _ 4 _ 1 A2.pv nc PV
    rw [hpv]
    exact hrow (by omega) (h.pr.keep call hp4)
  · refine (h.cd i hi).keep call.size (fun b hb => call.block b hb.1 ?_) (fun b hb h9 => ?_)
    · rcases hb.2 with h | h
      · exact Or.inl h
      · exact Or.inr (by rw [h]; exact hp9)
    · show (if A2.tag b = 10 then 9 else A2.tag b) = 9
      have := call.tags b hb
      rw [this, h9, if_neg (by omega)]

/-- What a step leaves. -/
def WStE (w : World) (B wb : Nat) (n : Nat → Nat) (nc : Nat) (CV PV : Nat → Value) (M : Nat → Nat) (FF : Nat → Nat → PF) (e : Ending) (w' : World) : Prop :=
  e = .returned (.bool true) ∧ Below B w w' ∧ ∃ (A' : AdH) (n' : Nat → Nat), WAt w' B wb A' n' nc CV PV M FF ∧ ∀ k, k < 4 → n' k ≤ n k + 400400

theorem codeOk {w : World} {B : Nat} {tag : Nat → Nat} {cv pv : Value} {m : Nat} {F : Nat → PF} (h : CdAt w B tag cv pv m F) : ∃ cb g cap CA CC pb po pc CA2 CC2 K H, cv = .pointer (some ⟨cb, 0, none⟩) ∧ w.cell? ⟨cb, 0, none⟩ = some (.slice (some ⟨g, 0, none⟩) m cap) ∧ ProgAt w g 0 m F CA CC ∧ pv = .slice (some ⟨pb, po, none⟩) m pc ∧ ProgAt w pb po m F CA2 CC2 ∧ Fine m F K H ∧ cb < w.heap.size := by
  obtain ⟨⟨cb, g, cap, e1, s1, c1, CA, CC, hP, _⟩, ⟨pb, po, pc, e2, CA2, CC2, hP2, _⟩, K, H, hF⟩ := h
  exact ⟨cb, g, cap, CA, CC, pb, po, pc, CA2, CC2, K, H, e1, c1, hP, e2, hP2, hF, s1.1⟩

set_option maxRecDepth 100000 in
set_option maxHeartbeats 2000000 in
theorem step_run (w : World) (B wb : Nat) (A : AdH) (n : Nat → Nat) (nc : Nat) (CV PV : Nat → Value) (M : Nat → Nat) (FF : Nat → Nat → PF) (h : WAt w B wb A n nc CV PV M FF) (at_ N : Int) (ep pp : Option Addr) (el ec pl pc : Nat) (hat : -9223372036854775808 ≤ at_ ∧ at_ ≤ 9223372036854775807) (hnc : 1 ≤ nc) (hnc2 : nc ≤ 10000000) (hnb : ∀ k, k < 4 → n k ≤ 3000000000000) :
    Calls Tryz.prog 38 #[.pointer (some ⟨wb, 0, none⟩), .agg #[.int .i64 3, .int .i64 at_, .int .i64 N, .slice ep el ec, .slice pp pl pc]] w (WStE w B wb n nc CV PV M FF) := by
  have hcr := h.cr
  have hpr := h.pr
  obtain ⟨crb, crc, hcv, _, hcz, hct, _⟩ := hcr.form (by omega)
  obtain ⟨prb, prc, hpv, _, hpz, hpt, _⟩ := hpr.form (by omega)
  rw [hcv] at hcr
  rw [hpv] at hpr
  have x0 : w.cell? ⟨wb, 0, none⟩ = some (.slice (some ⟨crb, 0, none⟩) nc crc) := by rw [cell_heap h.hold.blk, ← hcv]; rfl
  have x1 : w.cell? ⟨wb, 1, none⟩ = some (.slice (some ⟨prb, 0, none⟩) nc prc) := by rw [cell_heap h.hold.blk, ← hpv]; rfl
  have hwz := heap_lt h.hold.blk
  obtain ⟨W, hWd⟩ : ∃ W, W = w.alloc (.cells #[.int .i64 3, .int .i64 at_, .int .i64 N, .slice ep el ec, .slice pp pl pc] 100) := ⟨_, rfl⟩
  have hW : Below w.heap.size w W := by rw [hWd]; exact (Below.refl _ _).alloc (Nat.le_refl _) _
  have ob : W.heap[w.heap.size]? = some (.cells #[.int .i64 3, .int .i64 at_, .int .i64 N, .slice ep el ec, .slice pp pl pc] 100 (0, 0)) := by rw [hWd]; exact Go.Deep.blk_alloc_new _ _
  have o1 : W.cell? ⟨w.heap.size, 1, none⟩ = some (.int .i64 at_) := (cell_heap ob).trans rfl
  have y0 := (hW.cell (p := ⟨wb, 0, none⟩) hwz).trans x0
  have y1 := (hW.cell (p := ⟨wb, 1, none⟩) hwz).trans x1
  have hrc := fun r (hr : r < nc) => (hW.cell (p := ⟨crb, r, none⟩) hcz).trans (hcr.cell (i := r) (by omega))
  have hrp := fun r (hr : r < nc) => (hW.cell (p := ⟨prb, r, none⟩) hpz).trans (hpr.cell (i := r) (by omega))
  have HX := hid (And.intro h (And.intro hnb (And.intro hW (And.intro ob (And.intro hrc hrp)))))
  have HD := hid hWd
  clear h hnb hcr hpr hcv hpv x0 x1 hW ob hrc hrp hct hpt hWd
  have hoz : w.heap.size < W.heap.size := heap_lt HX.out.2.2.2.1
  have hwzW : wb < W.heap.size := by omega
  go_enter Tryz.func38, Tryz.ntmps38
  go_wp2_with fail
  rw [← HD.out]
  refine region_lex (fun w' => w'.cell? ⟨w.heap.size, 1, none⟩ = some (.int .i64 at_) ∧ w'.cell? ⟨wb, 0, none⟩ = some (.slice (some ⟨crb, 0, none⟩) nc crc)) [(false, 0), (false, 1), (false, 2), (false, 3), (false, 4), (false, 5), (false, 6), (true, 7), (false, 8)] (by kernel_rfl) (by kernel_rfl) (panic_frame _ _ _) ⟨o1, y0⟩ ?_
  simp only [lexL, List.getElem?_cons_zero, List.getElem?_cons_succ]
  iterate 7 (refine lexW_free (by rfl) (by intro w' hS'; obtain ⟨q0, q1⟩ := hS'; go_simp; exact rfl) ?_; simp only [Act.put, List.setIfInBounds_toArray, List.set_cons_zero, List.set_cons_succ])
  refine lexW_sole (fun K hK => ?_)
  go_simp
  refine (lawPick_any at_ (nc : Int) W.drew hat (by omega)).mono ?_
  rintro e w' ⟨r, rfl, hr, rfl⟩
  refine hK.out _ _ ⟨o1, y0⟩ ?_
  clear hK K
  refine lexW_free (by rfl) (by intro w' hS'; go_simp; exact rfl) ?_
  simp only [Act.put, List.setIfInBounds_toArray, List.set_cons_zero, List.set_cons_succ]
  refine lexW_done ?_
  have hrn : r < nc := by omega
  obtain ⟨cb, g, cap, CA, CC, pb, po, pcc, CA2, CC2, K, H, ecv, c1, hP, epv, hP2, hF, hcbz⟩ := codeOk (HX.out.1.cd r hrn)
  have z0 := HX.out.2.2.2.2.1 r hrn
  have z1 := HX.out.2.2.2.2.2 r hrn
  rw [ecv] at z0
  rw [epv] at z1
  have hWB := HX.out.2.2.1
  have hWd2 : Below W.heap.size W W.drew := (Below.refl _ _).drew
  have hout := (road_szs hF (fuelP N)).2.2
  have hfl := fuel_le N
  have hrun := codeRun W.drew cb g 0 cap (M r) (FF r) K H CA CC N (((hWB.trans (hWd2.mono hWB.size)).cell (p := ⟨cb, 0, none⟩) hcbz).trans c1) (hP.below (hWB.trans (hWd2.mono hWB.size)) (Nat.le_refl _)) hF (by show (nthP (FF r) (startP (FF r)) (fuelP N)).out.length ≤ 200000; omega)
  have o0 : W.cell? ⟨w.heap.size, 0, none⟩ = some (.int .i64 3) := (cell_heap HX.out.2.2.2.1).trans rfl
  have o2 : W.cell? ⟨w.heap.size, 2, none⟩ = some (.int .i64 N) := (cell_heap HX.out.2.2.2.1).trans rfl
  have HR := hid hrun
  have HP := hid (And.intro hP2 (And.intro hF (And.intro hout hfl)))
  have i0 : (0 : Int) ≤ (r : Int) := by omega
  clear hrun hP hP2 hF hout hfl ecv epv c1 hWB hWd2
  go_wp2_with fail
  refine HR.out.mono ?_
  rintro e w2 ⟨v, rfl, hB2, hO⟩
  obtain ⟨vp, vcap, rfl⟩ := hO.slc
  have hdone : (doneP (atP (FF r) N)).fin = endP (atP (FF r) N) := rfl
  generalize hsN : atP (FF r) N = sN at *
  have hWB := HX.out.2.2.1
  have hWd2 : Below W.heap.size W W.drew := (Below.refl _ _).drew
  have hw2 : Below w.heap.size w w2 := (hWB.trans (hWd2.mono hWB.size)).trans (hB2.mono hWB.size)
  obtain ⟨X1, hX1⟩ : ∃ X1, X1 = w2.alloc (.cells #[.int .i64 (endP sN), .int .i64 sN.steps, .int .i64 sN.gives.k, .int .i64 sN.gives.n, .slice vp sN.out.length vcap] 46) := ⟨_, rfl⟩
  have hXB : Below w2.heap.size w2 X1 := by rw [hX1]; exact (Below.refl _ _).alloc (Nat.le_refl _) _
  have hbx : X1.heap[w2.heap.size]? = some (.cells #[.int .i64 (endP sN), .int .i64 sN.steps, .int .i64 sN.gives.k, .int .i64 sN.gives.n, .slice vp sN.out.length vcap] 46 (0, 0)) := by rw [hX1]; exact Go.Deep.blk_alloc_new _ _
  have hwX : Below w.heap.size w X1 := hw2.trans (hXB.mono hw2.size)
  have hobz : w.heap.size < w2.heap.size := Nat.lt_of_lt_of_le hoz hB2.size
  have p2 : X1.cell? ⟨w.heap.size, 2, none⟩ = some (.int .i64 N) := (hXB.cell (p := ⟨w.heap.size, 2, none⟩) hobz).trans ((hB2.cell (p := ⟨w.heap.size, 2, none⟩) hoz).trans o2)
  have b0 : X1.cell? ⟨w2.heap.size, 0, none⟩ = some (.int .i64 (endP sN)) := (cell_heap hbx).trans rfl
  have b1 : X1.cell? ⟨w2.heap.size, 1, none⟩ = some (.int .i64 sN.steps) := (cell_heap hbx).trans rfl
  have b2 : X1.cell? ⟨w2.heap.size, 2, none⟩ = some (.int .i64 sN.gives.k) := (cell_heap hbx).trans rfl
  have b3 : X1.cell? ⟨w2.heap.size, 3, none⟩ = some (.int .i64 sN.gives.n) := (cell_heap hbx).trans rfl
  have b4 : X1.cell? ⟨w2.heap.size, 4, none⟩ = some (.slice vp sN.out.length vcap) := (cell_heap hbx).trans rfl
  have hXd : Below X1.heap.size X1 X1.drew := (Below.refl _ _).drew
  have hpl := playM X1.drew (M r) _ (FF r) K H N (Pg.of_prog (pc := pcc) (HP.out.1.below (hwX.trans (hXd.mono hwX.size)) (Nat.le_refl _))) HP.out.2.1
  rw [hsN] at hpl
  have hout2 : sN.out.length ≤ 200000 := by
    have h1 := HP.out.2.2.1
    have h2 := HP.out.2.2.2
    have : atP (FF r) N = nthP (FF r) (startP (FF r)) (fuelP N) := rfl
    rw [← this, hsN] at h1
    omega
  have hbz : w2.heap.size < X1.heap.size := heap_lt hbx
  have hobX : w.heap.size < X1.heap.size := by omega
  have hargs := (hO.args).below hXB
  have HPL := hid hpl
  have HO := hid (And.intro hO (And.intro hB2 (And.intro hXB (And.intro hwX hargs))))
  have HDN := hid hdone
  have HX1 := hid hX1
  clear hpl hO hB2 hXB hwX hargs hdone hbx hWB hWd2 hw2 hX1 hXd HR HP hsN
  unfold OutcomeV
  go_wp2_with fail
  rw [← HX1.out]
  refine region_lex (fun w' => w'.cell? ⟨w2.heap.size, 0, none⟩ = some (.int .i64 (endP sN)) ∧ w'.cell? ⟨w2.heap.size, 1, none⟩ = some (.int .i64 sN.steps) ∧ w'.cell? ⟨w2.heap.size, 2, none⟩ = some (.int .i64 sN.gives.k) ∧ w'.cell? ⟨w2.heap.size, 3, none⟩ = some (.int .i64 sN.gives.n) ∧ w'.cell? ⟨w2.heap.size, 4, none⟩ = some (.slice vp sN.out.length vcap) ∧ w'.cell? ⟨w.heap.size, 2, none⟩ = some (.int .i64 N)) [(false, 0), (false, 1), (false, 2), (false, 3), (true, 4), (true, 5), (false, 6)] (by kernel_rfl) (by kernel_rfl) (fun c0 a0 d0 v0 z0 h0 => panic_body (P := Tryz.prog) Tryz.f38 (WStE w B wb n nc CV PV M FF) c0 a0 d0 v0 z0 h0) ⟨b0, b1, b2, b3, b4, p2⟩ ?_
  simp only [lexL, List.getElem?_cons_zero, List.getElem?_cons_succ]
  iterate 4 (refine lexW_free (by rfl) (by intro w' hS'; obtain ⟨q0, q1, q2, q3, q4, q5⟩ := hS'; go_simp; exact rfl) ?_; simp only [Act.put, List.setIfInBounds_toArray, List.set_cons_zero, List.set_cons_succ])
  refine lexW_sole (fun K' hK => ?_)
  go_simp
  refine HPL.out.mono ?_
  rintro e w3 ⟨rb, rfl, hB3, A2, l2⟩
  have hB3' : Below X1.heap.size X1 w3 := (show Below X1.heap.size X1 X1.drew from (Below.refl _ _).drew).trans hB3
  have cc : ∀ a : Addr, a.block < X1.heap.size → w3.cell? a = X1.cell? a := fun a ha => hB3'.cell (p := a) ha
  refine hK.out _ _ ⟨(cc ⟨w2.heap.size, _, none⟩ hbz).trans b0, (cc ⟨w2.heap.size, _, none⟩ hbz).trans b1, (cc ⟨w2.heap.size, _, none⟩ hbz).trans b2, (cc ⟨w2.heap.size, _, none⟩ hbz).trans b3, (cc ⟨w2.heap.size, _, none⟩ hbz).trans b4, (cc ⟨w.heap.size, _, none⟩ hobX).trans p2⟩ ?_
  clear hK K'
  have hoc := outcomeL w3 _ rb A2 (doneP sN) _ l2 (HO.out.2.2.2.2.below hB3') hout2
  unfold OutcomeV at hoc
  rw [HDN.out] at hoc
  have HOC := hid hoc
  have e4 := (cc ⟨w2.heap.size, 4, none⟩ hbz).trans b4
  have e0 := (cc ⟨w2.heap.size, 0, none⟩ hbz).trans b0
  have e1 := (cc ⟨w2.heap.size, 1, none⟩ hbz).trans b1
  have e2 := (cc ⟨w2.heap.size, 2, none⟩ hbz).trans b2
  have e3 := (cc ⟨w2.heap.size, 3, none⟩ hbz).trans b3
  have e5 := (cc ⟨w.heap.size, 2, none⟩ hobX).trans p2
  have HB3 := hid hB3'
  have hz3 := hB3'.size
  clear hoc cc hB3 hB3' l2 b0 b1 b2 b3 b4 p2 HPL
  refine lexW_sole (fun K' hK => ?_)
  go_simp
  refine HOC.out.mono ?_
  rintro e w4 ⟨rfl, hB4⟩
  have cc : ∀ a : Addr, a.block < w3.heap.size → w4.cell? a = w3.cell? a := fun a ha => hB4.cell (p := a) ha
  have hbz3 : w2.heap.size < w3.heap.size := by omega
  have hob3 : w.heap.size < w3.heap.size := by omega
  refine hK.out _ _ ⟨(cc ⟨w2.heap.size, _, none⟩ hbz3).trans e0, (cc ⟨w2.heap.size, _, none⟩ hbz3).trans e1, (cc ⟨w2.heap.size, _, none⟩ hbz3).trans e2, (cc ⟨w2.heap.size, _, none⟩ hbz3).trans e3, (cc ⟨w2.heap.size, _, none⟩ hbz3).trans e4, (cc ⟨w.heap.size, _, none⟩ hob3).trans e5⟩ ?_
  clear hK K'
  have f4 := (cc ⟨w2.heap.size, 4, none⟩ hbz3).trans e4
  have HB4 := hid (HB3.out.trans (hB4.mono HB3.out.size))
  clear hB4 cc e0 e1 e2 e3 e4 e5 HOC HB3
  refine lexW_free (by rfl) (by intro w' hS'; go_simp; exact rfl) ?_
  simp only [Act.put, List.setIfInBounds_toArray, List.set_cons_zero, List.set_cons_succ]
  refine lexW_done ?_
  go_wp2_with fail
  refine region_lex (fun w' => w'.cell? ⟨w2.heap.size, 4, none⟩ = some (.slice vp sN.out.length vcap)) [(false, 0), (false, 1), (false, 2), (false, 3), (false, 4), (true, 5)] (by kernel_rfl) (by kernel_rfl) (fun c0 a0 d0 v0 z0 h0 => panic_body (P := Tryz.prog) Tryz.f38 (WStE w B wb n nc CV PV M FF) c0 a0 d0 v0 z0 h0) f4 ?_
  simp only [lexL, List.getElem?_cons_zero, List.getElem?_cons_succ]
  iterate 5 (refine lexW_free (by rfl) (by intro w' hS'; go_simp; exact rfl) ?_; simp only [Act.put, List.setIfInBounds_toArray, List.set_cons_zero, List.set_cons_succ])
  refine lexW_sole (fun K' hK => ?_)
  go_simp
  obtain ⟨hO, hB2, hXB, hwX, _⟩ := HO.out
  have hw4 : Below w2.heap.size w2 w4.drew := (hXB.trans (HB4.out.mono hXB.size)).drew
  have hww4 : Below w.heap.size w w4.drew := (hwX.trans (HB4.out.mono hwX.size)).drew
  have hBw : B ≤ w.heap.size := HX.out.1.hold.le
  have hWs : w.heap.size ≤ W.drew.heap.size := by show w.heap.size ≤ W.heap.size; omega
  have hW2s := hB2.size
  obtain ⟨tX, htX⟩ : ∃ tX : Nat → Nat, tX = fun b => if b < W.drew.heap.size then A.tag b else if b = w2.heap.size then 9 else 10 := ⟨_, rfl⟩
  have row2 : Row w4.drew B tX 10 43 2 (.slice vp sN.out.length vcap) sN.out.length (vcell sN.out) := by
    have row1 := (hO.tagged (B := B) (by omega) A.tag 10).retag (tag' := tX) (fun b hb => by
      rw [htX]
      show (if b < W.drew.heap.size then A.tag b else if b = w2.heap.size then 9 else 10) = (if b < W.drew.heap.size then A.tag b else 10)
      by_cases h1 : b < W.drew.heap.size
      · rw [if_pos h1, if_pos h1]
      · rw [if_neg h1, if_neg h1, if_neg (by omega)])
    exact row1.below hw4
  have htA : ∀ b, b < w.heap.size → tX b = A.tag b := fun b hb => by rw [htX]; show (if b < W.drew.heap.size then A.tag b else _) = _; rw [if_pos (by omega)]
  have hhold : HoldAt w4.drew B wb { A with tag := tX } (fun d => d = 9) n := HX.out.1.hold.keep (Ch.of_tags (p := fun _ => False) hww4 htA) (fun _ _ h => h)
  obtain ⟨q, hq⟩ : ∃ q, n 0 = 4 * q := ⟨n 0 / 4, by have := HX.out.1.four 0 (by omega); omega⟩
  have hn0 := HX.out.2.1 0 (by omega)
  have htb : tX w2.heap.size = 9 := by rw [htX]; show (if w2.heap.size < W.drew.heap.size then A.tag w2.heap.size else if w2.heap.size = w2.heap.size then 9 else 10) = 9; rw [if_neg (by omega), if_pos rfl]
  have hbz4 : w2.heap.size < w4.drew.heap.size := by have := HB4.out.size; show w2.heap.size < w4.heap.size; omega
  refine (keep_any w4.drew B wb { A with tag := tX } (fun d => d = 9) n q 10 vp vcap _ _ hhold hq (by omega) row2 hout2 (by omega) (by unfold Wt; omega) (by omega)).mono ?_
  rintro e w5 ⟨rfl, A5, h5, cv5, pv5, xb5, ch5⟩
  have s5 : w5.cell? ⟨w2.heap.size, 4, none⟩ = some (.slice vp sN.out.length vcap) := (ch5.cell (a := ⟨w2.heap.size, 4, none⟩) hbz4 (by show ¬ (tX w2.heap.size = 0 ∨ tX w2.heap.size = 5 ∨ tX w2.heap.size = 10); rw [htb]; omega)).trans f4
  refine hK.out _ _ s5 ?_
  clear hK K'
  have HQ := hid (show WStE w B wb n nc CV PV M FF (.returned (.bool true)) w5 from by
    obtain ⟨A3, hA3⟩ := HX.out.1.after hww4 htA h5 ch5 (by omega) (by omega) (by omega) cv5 pv5 (fun k hk => by
      by_cases e : k = 0
      · subst e; rw [upd_same]; omega
      · rw [upd_other _ _ _ _ e]; exact HX.out.1.four k hk)
    refine ⟨rfl, (hww4.mono hBw).trans (ch5.below (Nat.le_trans hBw hww4.size)), A3, _, hA3, fun k hk => ?_⟩
    by_cases e : k = 0
    · subst e; rw [upd_same]; omega
    · rw [upd_other _ _ _ _ e]; omega)
  clear hO hB2 hXB hwX hw4 hww4 row2 htA hhold htb h5 cv5 pv5 xb5 ch5 s5 f4 htX
  refine lexW_done ?_
  go_wp2
  go_ret
  exact HQ.out
end Go.Proofs.YtkafkipjedpohaaGreatDoor
