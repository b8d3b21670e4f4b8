import Derived.Test.YtkafkipjedpohaaGreatDoorY4

/-
  Compiled code of the project's machine: the deeds that pass, turn, count.
-/
namespace Go.Proofs.YtkafkipjedpohaaGreatDoor
open Go.RowKit

/-- What a deed leaves of a run whose frame at hand, the k-th, lies in block fb. -/
def DeedE (w : World) (B mb m : Nat) (F : Nat → PF) (MV : Nat → Value) (A : AdM) (k : Nat) (s' : Mc) (en : Int) (e : Ending) (w' : World) : Prop :=
  ((3 ≤ s'.fin ∧ e = trapE s'.fin) ∨ (s'.fin < 3 ∧ e = .returned (.tuple #[]))) ∧ Goes w B mb m F MV (k + 1) A s' en w' ∧ w'.cell? ⟨A.FB k, 4, none⟩ = some (A.g.CV k)

/-- A run and the boxes of its code. -/
theorem MSt.cur {w : World} {B mb m : Nat} {F : Nat → PF} {MV : Nat → Value} {A : AdM} {s : Mc} {en : Int} {L : Bxs} (hM : MSt w B mb m F MV A s en) (hL : Bx w A.tag L) : Cur w B mb A s en L w := ⟨hM.le, A, hM.lay, rfl, Ch.refl _ _ _ _, hL⟩
theorem MSt.of_cur {w w' : World} {B mb m : Nat} {F : Nat → PF} {MV : Nat → Value} {A : AdM} {s s' : Mc} {en : Int} {L : Bxs} (hM : MSt w B mb m F MV A s en) (h : Cur w B mb A s' en L w') (hs : Hs s s') : ∃ A' : AdM, MSt w' B mb m F MV A' s' en ∧ A'.g = A.g ∧ Ch B N5 A.tag A'.tag w w' ∧ Bx w' A'.tag L := by
  obtain ⟨_, A', h1, h2, h3, h4⟩ := h
  exact ⟨A', hM.same h1 h2 h3 hs, h2, h3, h4⟩

/-- The frame's code stands where it did. -/
theorem Goes.code {w w' : World} {B mb m : Nat} {F : Nat → PF} {MV : Nat → Value} {A : AdM} {s' : Mc} {en : Int} {k : Nat} (h : Goes w B mb m F MV (k + 1) A s' en w') (hk : k < s'.fr.length) : w'.cell? ⟨A.FB k, 4, none⟩ = some (A.g.CV k) := by
  obtain ⟨A1, m1, s1, c1, f1, v1⟩ := h
  have e1 := f1 k hk (by omega)
  have e2 := (v1 k hk).1 (by omega)
  obtain ⟨g1, _, _⟩ := m1.lay.fb k hk
  rw [e1, e2] at g1
  exact (cell_heap g1).trans rfl

theorem DeedE.ins {w w' : World} {B mb m : Nat} {F : Nat → PF} {MV : Nat → Value} {A : AdM} {s : Mc} {en : Int} {L : Bxs} (hM : MSt w B mb m F MV A s en) (hs : s.fr = s.f :: s.r) {x : Fr × List (List V) × List V × Int} (hx : x.2.2.2 = 0 ∨ 3 ≤ x.2.2.2) {e : Ending} (h : InsE w B mb A s en L s.r x e w') :
    DeedE w B mb m F MV A s.r.length { s with fr := x.1 :: s.r, arr := x.2.1, out := x.2.2.1, fin := x.2.2.2 } en e w' := by
  obtain ⟨h1, h2⟩ := h
  have hlen : s.fr.length = s.r.length + 1 := by rw [hs]; rfl
  have hg := hM.aft h2.done (s' := { s with fr := x.1 :: s.r, arr := x.2.1, out := x.2.2.1 }) ⟨by rw [hlen]; rfl, rfl, rfl, rfl, rfl, rfl⟩
  rw [hlen] at hg
  have hg2 : Goes w B mb m F MV (s.r.length + 1) A { s with fr := x.1 :: s.r, arr := x.2.1, out := x.2.2.1, fin := x.2.2.2 } en w' := hg.like rfl rfl rfl rfl rfl rfl rfl rfl rfl rfl
  refine ⟨?_, hg2, hg2.code (by show s.r.length < s.r.length + 1; omega)⟩
  rcases h1 with ⟨a, b⟩ | ⟨a, b⟩
  · exact Or.inr ⟨by show x.2.2.2 < 3; omega, b⟩
  · exact Or.inl ⟨by show 3 ≤ x.2.2.2; omega, b⟩

set_option maxRecDepth 100000 in
set_option maxHeartbeats 1000000 in
theorem deed_pass {w : World} {B mb m k0 : Nat} {F : Nat → PF} {MV : Nat → Value} {A : AdM} {s : Mc} {en : Int} {L : Bxs} (hM : MSt w B mb m F MV A s en) (hL : Bx w A.tag L) (hb : DBase m k0 s) (n : Nat) (hn : n ≤ 64) (b : Nat) (hm : (b, #[.int .i64 n], 3) ∈ L) :
    Calls Tryz.prog 178 #[ptr mb, ptr (A.FB k0), ptr b] w (DeedE w B mb m F MV A k0 (dexec F (.pass n) s) en) := by
  have hlen : s.r.length = k0 := hb.len
  have hp := hM.pass hb.fr (by have := hb.steps; omega) (by have := hb.cH; omega) (by have := hb.pc; omega) n (by omega)
  rw [if_pos hb.high, hlen] at hp
  have hfl : s.fr.length = k0 + 1 := by rw [hb.fr, List.length_cons, hlen]
  have HP := hid hp
  have d1 := (hM.cur hL).hb.one hm
  have hfin := hb.fin
  have HQ := hid (show ∀ w', Goes w B mb m F MV s.fr.length A { s with steps := s.steps + n, cH := s.cH + n, fr := { s.f with pc := s.f.pc + n } :: s.r } en w' → DeedE w B mb m F MV A k0 (dexec F (.pass n) s) en (.returned (.tuple #[])) w' from fun w' hg => by
    rw [hfl] at hg
    exact ⟨Or.inr ⟨by show s.fin < 3; omega, rfl⟩, hg, hg.code (by show k0 < s.r.length + 1; omega)⟩)
  generalize dexec F (.pass n) s = s' at *
  generalize A.FB k0 = fb at *
  clear hp hM hL hb hm
  go_enter Tryz.func178, Tryz.ntmps178
  go_wp2_with fail
  refine HP.out.mono ?_
  rintro e w1 ⟨rfl, g1⟩
  have HR := hid (HQ.out w1 g1)
  clear g1 HP HQ
  go_wp2
  go_end0
  exact HR.out

set_option maxRecDepth 100000 in
set_option maxHeartbeats 1000000 in
theorem deed_jump {w : World} {B mb m k0 : Nat} {F : Nat → PF} {MV : Nat → Value} {A : AdM} {s : Mc} {en : Int} {L : Bxs} (hM : MSt w B mb m F MV A s en) (hL : Bx w A.tag L) (hb : DBase m k0 s) (to b : Nat) (hm : (b, #[.int .i64 to], 3) ∈ L) :
    Calls Tryz.prog 160 #[ptr mb, ptr (A.FB k0), ptr b] w (DeedE w B mb m F MV A k0 (dexec F (.jump to) s) en) := by
  have hlen : s.r.length = k0 := hb.len
  have hg := hM.goto hb.fr to
  obtain ⟨_, _, u3, u4, _⟩ := hM.top hb.fr
  have hfl : s.fr.length = k0 + 1 := by rw [hb.fr, List.length_cons, hlen]
  rw [hlen] at hg u3 u4
  rw [hfl] at hg
  have d1 := (hM.cur hL).hb.one hm
  have hfin := hb.fin
  have HQ := hid (show DeedE w B mb m F MV A k0 (dexec F (.jump to) s) en (.returned (.tuple #[])) (w.setCell ⟨A.FB k0, 1, none⟩ (.int .i64 to)) from ⟨Or.inr ⟨by show s.fin < 3; omega, rfl⟩, hg, hg.code (by show k0 < s.r.length + 1; omega)⟩)
  generalize dexec F (.jump to) s = s' at *
  generalize A.FB k0 = fb at *
  clear hg hM hL hb hm
  go_enter Tryz.func160, Tryz.ntmps160
  go_wp2
  go_end0
  exact HQ.out

set_option maxRecDepth 100000 in
set_option maxHeartbeats 1000000 in
theorem deed_one {w : World} {B mb m : Nat} {F : Nat → PF} {MV : Nat → Value} {A : AdM} {s : Mc} {en : Int} (hM : MSt w B mb m F MV A s en) (fb : Nat) (cv : Value) (hc : w.cell? ⟨fb, 4, none⟩ = some cv) (hcv : CodeV cv true) (hne : ¬ fb = mb) (h1 : s.steps ≤ 100000) (h2 : s.cH ≤ 100000) :
    Calls Tryz.prog 165 #[ptr mb, ptr fb] w (fun e w' => e = .returned (.tuple #[]) ∧ Goes w B mb m F MV s.fr.length A (dexec F .one s) en w' ∧ w'.cell? ⟨fb, 4, none⟩ = some cv) := by
  have hp := hM.count fb cv true hc hcv hne (by omega) (by omega) 1 (by omega)
  have HP := hid hp
  clear hp hM
  go_enter Tryz.func165, Tryz.ntmps165
  go_wp2_with fail
  refine HP.out.mono ?_
  rintro e w1 ⟨rfl, hw, g1⟩
  have h4 : w1.cell? ⟨fb, 4, none⟩ = some cv := by
    rw [hw]
    unfold tickW
    rw [if_pos rfl, World.cell?_setCell_far _ _ _ _ (by show ¬ mb = fb; exact fun e => hne e.symm), World.cell?_setCell_far _ _ _ _ (by show ¬ mb = fb; exact fun e => hne e.symm)]
    exact hc
  clear hw
  have HR := hid (And.intro (show Goes w B mb m F MV s.fr.length A (dexec F .one s) en w1 from g1) h4)
  clear g1 HP h4
  go_wp2
  go_end0
  exact ⟨rfl, HR.out⟩

set_option maxRecDepth 100000 in
set_option maxHeartbeats 1000000 in
theorem deed_branch {w : World} {B mb m k0 : Nat} {F : Nat → PF} {MV : Nat → Value} {A : AdM} {s : Mc} {en : Int} {L : Bxs} (hM : MSt w B mb m F MV A s en) (hL : Bx w A.tag L) (hb : DBase m k0 s) (o : Opd) (vo : Value) (to b tb : Nat) (hm : (b, #[vo], 224) ∈ L) (ht : (tb, #[.int .i64 to], 3) ∈ L) (hv : OpdV L o vo) (ho : OpdOk s.f.loc.length s.f.stk o) (h0 : (o.get s.f.loc s.f.stk).1.k = 0 → (o.get s.f.loc s.f.stk).1.n = 0) :
    Calls Tryz.prog 162 #[ptr mb, ptr (A.FB k0), ptr b, ptr tb] w (DeedE w B mb m F MV A k0 (dexec F (.branch o to) s) en) := by
  have hlen : s.r.length = k0 := hb.len
  have hfl : s.fr.length = k0 + 1 := by rw [hb.fr, List.length_cons, hlen]
  obtain ⟨g1, c1, e1, f1⟩ := hv.fn
  subst e1
  have hcur := (hM.cur hL).drew
  have HG := hid (hcur.get hb.fr hv ho (by have := hb.stk; omega))
  have H0 := hid hcur
  have HB := hid (And.intro hm ht)
  have hfin := hb.fin
  have HQ := hid (show ∀ w', Goes w B mb m F MV (k0 + 1) A { s with fr := { s.f with stk := (o.get s.f.loc s.f.stk).2, pc := if zeroP (o.get s.f.loc s.f.stk).1 = true then to else s.f.pc + 1 } :: s.r } en w' → DeedE w B mb m F MV A k0 (dexec F (.branch o to) s) en (.returned (.tuple #[])) w' from fun w' hg => ⟨Or.inr ⟨by show s.fin < 3; omega, rfl⟩, hg, hg.code (by show k0 < s.r.length + 1; omega)⟩)
  generalize dexec F (.branch o to) s = s' at *
  have HM := hid (And.intro hM (And.intro hb (And.intro hlen hfl)))
  unfold GetE at HG
  generalize (o.get s.f.loc s.f.stk).1 = v at *
  generalize (o.get s.f.loc s.f.stk).2 = st at *
  rw [hlen] at HG
  generalize hfb : A.FB k0 = fb at *
  have HF := hid hfb
  have HV0 := hid h0
  clear hfb hM hL hb hm ht hv ho hcur h0 hlen hfl
  go_enter Tryz.func162, Tryz.ntmps162
  go_wp2_with fail
  refine region_lex (Hb L) [(false, 0), (false, 1), (false, 2), (false, 4), (true, 3), (true, 5)] (by kernel_rfl) (by kernel_rfl) (panic_body _ _) H0.out.hb ?_
  simp only [lexL, List.getElem?_cons_zero, List.getElem?_cons_succ]
  iterate 4 (refine lexW_free (by rfl) (by intro w' hS'; have y0 := hS'.one HB.out.1; have y1 := hS'.one HB.out.2; clear hS'; go_simp; exact rfl) ?_; simp only [Act.put, List.setIfInBounds_toArray, List.set_cons_zero, List.set_cons_succ])
  generalize w.drew = w1 at HG H0 ⊢
  refine lexW_sole (fun K hK => ?_)
  go_simp
  refine HG.out.mono ?_
  rintro e w2 ⟨rfl, c2, _⟩
  obtain ⟨A2, m2, g2, ch2, b2⟩ := HM.out.1.of_cur c2 ⟨by show s.r.length + 1 = _; rw [HM.out.2.2.1, HM.out.2.2.2], rfl, rfl, rfl, rfl, rfl⟩
  have H2 := hid (And.intro m2 (And.intro g2 (And.intro ch2 b2)))
  refine hK.out _ _ c2.hb ?_
  clear hK K c2 m2 g2 ch2 b2 HG H0
  refine lexW_sole (fun K hK => ?_)
  go_simp
  have hbr := H2.out.1.branch (f := { s.f with stk := st }) (rest := s.r) rfl v HV0.out to (by have := HM.out.2.1.pc; show s.f.pc ≤ 1000; omega)
  have hfb2 : A2.FB s.r.length = fb := (fb_of H2.out.2.1 _).trans (by rw [HM.out.2.2.1]; exact HF.out)
  rw [hfb2] at hbr
  refine hbr.mono ?_
  rintro e w3 ⟨rfl, g3, _⟩
  have hg : Goes w B mb m F MV (s.r.length + 1) A { s with fr := { s.f with stk := st, pc := if zeroP v = true then to else s.f.pc + 1 } :: s.r } en w3 := Goes.on H2.out.2.1 H2.out.2.2.1 g3
  rw [HM.out.2.2.1] at hg
  have HR := hid (HQ.out w3 hg)
  obtain ⟨A3, _, _, c3, _⟩ := g3
  refine hK.out _ _ (fun t ht => (H2.out.2.2.2.keep c3 n55 t ht).1) ?_
  clear hK K hbr hg c3 hfb2
  refine lexW_done ?_
  go_wp2
  go_end0
  exact HR.out

set_option maxRecDepth 100000 in
set_option maxHeartbeats 1000000 in
theorem deed_ret {w : World} {B mb m k0 : Nat} {F : Nat → PF} {MV : Nat → Value} {A : AdM} {s : Mc} {en : Int} {L : Bxs} (hM : MSt w B mb m F MV A s en) (hL : Bx w A.tag L) (hb : DBase m k0 s) (o : Opd) (vo : Value) (b : Nat) (hm : (b, #[vo], 224) ∈ L) (hv : OpdV L o vo) (ho : OpdOk s.f.loc.length s.f.stk o) :
    Calls Tryz.prog 164 #[ptr mb, ptr (A.FB k0), ptr b] w (DeedE w B mb m F MV A k0 (dexec F (.ret o) s) en) := by
  have hlen : s.r.length = k0 := hb.len
  have hfl : s.fr.length = k0 + 1 := by rw [hb.fr, List.length_cons, hlen]
  obtain ⟨g1, c1, e1, f1⟩ := hv.fn
  subst e1
  have HG := hid ((hM.cur hL).get hb.fr hv ho (by have := hb.stk; omega))
  have d1 := (hM.cur hL).hb.one hm
  have hrp : dexec F (.ret o) s = returnP { s.f with stk := (o.get s.f.loc s.f.stk).1 :: (o.get s.f.loc s.f.stk).2 } s.r s := rfl
  have HS := hid hrp
  generalize dexec F (.ret o) s = s' at *
  have HM := hid (And.intro hM (And.intro hb (And.intro hlen hfl)))
  unfold GetE at HG
  generalize (o.get s.f.loc s.f.stk).1 = v at *
  generalize (o.get s.f.loc s.f.stk).2 = st at *
  rw [hlen] at HG
  generalize hfb : A.FB k0 = fb at *
  have HF := hid hfb
  clear hfb hM hL hm hv ho hrp hlen hfl
  have hrest := hb.rest
  have hk0 := hb.k0
  have hfin := hb.fin
  clear hb
  go_enter Tryz.func164, Tryz.ntmps164
  go_wp2_with fail
  refine HG.out.mono ?_
  rintro e w2 ⟨rfl, c2, _⟩
  obtain ⟨A2, m2, g2, ch2, b2⟩ := HM.out.1.of_cur c2 ⟨by show s.r.length + 1 = _; rw [HM.out.2.2.1, HM.out.2.2.2], rfl, rfl, rfl, rfl, rfl⟩
  have hfb2 : A2.FB s.r.length = fb := (fb_of g2 _).trans (by rw [HM.out.2.2.1]; exact HF.out)
  have h4 := (m2.top rfl).1
  rw [hfb2, g2, HM.out.2.2.1] at h4
  have H2 := hid (And.intro m2 (And.intro g2 (And.intro ch2 h4)))
  have HF2 := hid hfb2
  clear c2 m2 g2 ch2 b2 HG d1 h4 hfb2
  have hl := HM.out.2.2.1
  cases hr : s.r with
  | nil =>
    have hk : k0 = 0 := by rw [hr] at hl; exact hl.symm
    have e1 : s' = { s with fr := [], high := s.high.drop 1, gives := v, fin := 1 } := by rw [HS.out, hr]; simp [returnP]
    have m2 := H2.out.1
    rw [hr] at m2
    have HGB := hid (giveBackEnd w2 B mb m F MV A2 _ en { s.f with stk := st } v m2 rfl)
    clear m2
    go_wp2_with fail
    refine HGB.out.mono ?_
    rintro e w3 ⟨rfl, g3, k3⟩
    have hg := Goes.on H2.out.2.1 H2.out.2.2.1 g3
    have k4 : w3.cell? ⟨fb, 4, none⟩ = some (A.g.CV k0) := by
      have e := HF2.out
      rw [hr] at e
      simp only [List.length_nil] at e
      rw [e] at k3
      exact k3.trans H2.out.2.2.2
    have HR := hid (show DeedE w B mb m F MV A k0 s' en (.returned (.tuple #[])) w3 from by
      subst hk
      rw [e1]
      exact ⟨Or.inr ⟨by show (1 : Int) < 3; decide, rfl⟩, hg.like rfl rfl rfl rfl rfl rfl rfl rfl rfl rfl, by rw [HF.out]; exact k4⟩)
    clear g3 k3 k4 hg
    go_wp2
    go_end0
    exact HR.out
  | cons g r =>
    have hk : k0 = r.length + 1 := by rw [hr] at hl; exact hl.symm
    have e1 : s' = { s with fr := { g with stk := v :: g.stk } :: r, high := s.high.drop 1 } := by rw [HS.out, hr]; simp [returnP]
    have m2 := H2.out.1
    rw [hr] at m2
    have HGB := hid (giveBackMid w2 B mb m F MV A2 _ en { s.f with stk := st } g r v m2 rfl (by have := hrest g (by rw [hr]; exact List.mem_cons_self); omega) (by omega))
    clear m2
    go_wp2_with fail
    refine HGB.out.mono ?_
    rintro e w3 ⟨rfl, g3, k3⟩
    have hg := Goes.on H2.out.2.1 H2.out.2.2.1 g3
    have k4 : w3.cell? ⟨fb, 4, none⟩ = some (A.g.CV k0) := by
      have e := HF2.out
      rw [hr] at e
      simp only [List.length_cons] at e
      rw [e] at k3
      exact k3.trans H2.out.2.2.2
    have HR := hid (show DeedE w B mb m F MV A k0 s' en (.returned (.tuple #[])) w3 from by
      subst hk
      rw [e1]
      exact ⟨Or.inr ⟨by show s.fin < 3; omega, rfl⟩, hg.like rfl rfl rfl rfl rfl rfl rfl rfl rfl rfl, by rw [HF.out]; exact k4⟩)
    clear g3 k3 k4 hg
    go_wp2
    go_end0
    exact HR.out
end Go.Proofs.YtkafkipjedpohaaGreatDoor

/-
  Compiled code of the project's machine: the deeds that call, that push what waits.
-/
namespace Go.Proofs.YtkafkipjedpohaaGreatDoor
open Go.RowKit

set_option maxRecDepth 100000 in
set_option maxHeartbeats 1000000 in
theorem deed_call {w : World} {B mb m k0 : Nat} {F : Nat → PF} {MV : Nat → Value} {K : Nat → Nat → Bool} {H : Nat → Nat → Int} {A : AdM} {s : Mc} {en : Int} {L : Bxs} (hM : MSt w B mb m F MV A s en) (hL : Bx w A.tag L) (hF : Fine m F K H) (hb : DBase m k0 s) (cnt b : Nat) (hcnt : cnt ≤ 8) (hst : cnt + 1 ≤ s.f.stk.length) (hm : (b, #[.int .i64 cnt], 3) ∈ L) :
    Calls Tryz.prog 163 #[ptr mb, ptr (A.FB k0), ptr b] w (DeedE w B mb m F MV A k0 (dexec F (.call cnt) s) en) := by
  have hlen : s.r.length = k0 := hb.len
  have hfl : s.fr.length = k0 + 1 := by rw [hb.fr, List.length_cons, hlen]
  have hfun : ∀ k, k < m → 0 ≤ (F k).locals ∧ (F k).locals ≤ 8 ∧ (F k).args ≤ (F k).locals := fun k hk => ⟨(hF.fn k hk).locals.1, (hF.fn k hk).locals.2, (hF.fn k hk).args.2.1⟩
  cases hd : s.f.stk.drop cnt with
  | nil =>
    have := congrArg List.length hd
    simp at this
    omega
  | cons g r =>
    have hg0 : g ∈ s.f.stk := List.mem_of_mem_drop (by rw [hd]; exact List.mem_cons_self)
    have hlr := congrArg List.length hd
    simp only [List.length_drop, List.length_cons] at hlr
    have hst2 : s.f.stk = s.f.stk.take cnt ++ g :: r := by rw [← hd, List.take_append_drop]
    have h16 := hb.stk
    have hcall := callM w B mb m A s en F MV s.f s.r (s.f.stk.take cnt) r g cnt hM hb.fr hst2 (by rw [List.length_take]; omega) hcnt (by omega) (hb.sok g hg0).2.1 hfun (by have := hb.k0; omega) (by have := hF.size; omega) hb.pc
    rw [hlen] at hcall
    have hcp : dexec F (.call cnt) s = if g.k ≠ 3 ∨ (F g.n.toNat).args ≠ cnt then { s with fr := { s.f with stk := r } :: s.r, fin := 6 } else if 24 ≤ k0 + 1 then { s with fr := { s.f with stk := r } :: s.r, fin := 7 } else { s with fr := { fn := g.n.toNat, pc := 0, loc := (s.f.stk.take cnt).reverse ++ List.replicate ((F g.n.toNat).locals.toNat - cnt) vnil, stk := [] } :: { s.f with pc := s.f.pc + 1, stk := r } :: s.r, high := s.made g.n.toNat :: s.high } := by
      show callP F cnt s.f s.r s = _
      unfold callP
      rw [hd, hlen]
    have d1 := (hM.cur hL).hb.one hm
    have HC := hid (And.intro hcall hcp)
    generalize dexec F (.call cnt) s = s' at *
    generalize (s.f.stk.take cnt).reverse = xr at *
    have hfin := hb.fin
    have HF' : Hid (A.FB k0 = A.FB k0) := rfl
    clear hM hL hb hm hcall hcp hst2 hd hlr hg0 hst
    generalize hfb : A.FB k0 = fb at *
    go_enter Tryz.func163, Tryz.ntmps163
    go_wp2_with fail
    refine HC.out.1.mono ?_
    have hcp := HC.out.2
    rintro e w3 (⟨k1, rfl, g3⟩ | ⟨k1, k2, rfl, g3⟩ | ⟨k1, k2, rfl, g3⟩)
    · have e1 := hcp.trans (if_pos k1)
      have g4 : Goes w B mb m F MV (k0 + 1) A s' en w3 := by rw [e1]; exact g3.like rfl rfl rfl rfl rfl rfl rfl rfl rfl rfl
      have c4 := g4.code (by rw [e1]; show k0 < s.r.length + 1; omega)
      refine ⟨rfl, Or.inl ⟨by rw [e1]; show (3 : Int) ≤ 6; decide, by rw [e1]; rfl⟩, g4, c4⟩
    · have e1 := hcp.trans ((if_neg k1).trans (if_pos k2))
      have g4 : Goes w B mb m F MV (k0 + 1) A s' en w3 := by rw [e1]; exact g3.like rfl rfl rfl rfl rfl rfl rfl rfl rfl rfl
      have c4 := g4.code (by rw [e1]; show k0 < s.r.length + 1; omega)
      refine ⟨rfl, Or.inl ⟨by rw [e1]; show (3 : Int) ≤ 7; decide, by rw [e1]; rfl⟩, g4, c4⟩
    · have e1 := hcp.trans ((if_neg k1).trans (if_neg k2))
      have g4 : Goes w B mb m F MV (k0 + 1) A s' en w3 := by rw [e1]; exact g3.like rfl rfl rfl rfl rfl rfl rfl rfl rfl rfl
      have c4 := g4.code (by rw [e1]; show k0 < s.r.length + 1 + 1; omega)
      have HQ := hid (show DeedE w B mb m F MV A k0 s' en (.returned (.tuple #[])) w3 from ⟨Or.inr ⟨by rw [e1]; show s.fin < 3; omega, rfl⟩, g4, c4⟩)
      clear g3 g4 c4 k1 k2 e1 hcp
      go_wp2
      go_end0
      exact HQ.out

/-- A list of function values that wait, the bottom first. -/
def WaitV (l : Bxs) (ws : List Opd) (arr : Array Value) : Prop := ∀ i, i < ws.length → ∃ vo, arr[i]? = some vo ∧ OpdV l (ws.getD i .pop) vo
theorem WaitV.mono {l l' : Bxs} {ws : List Opd} {arr : Array Value} (h : WaitV l ws arr) (hl : ∀ t, t ∈ l → t ∈ l') : WaitV l' ws arr := fun i hi => by
  obtain ⟨vo, h1, h2⟩ := h i hi
  exact ⟨vo, h1, h2.mono hl⟩

theorem take_val (l : List V) (ws : List Opd) (st : List V) {j : Nat} (hj : j < ws.length) : ((ws.take (j + 1)).map (Opd.val l)).reverse ++ st = (ws.getD j .pop).val l :: (((ws.take j).map (Opd.val l)).reverse ++ st) := by
  have e : ws.take (j + 1) = ws.take j ++ [ws.getD j .pop] := by
    rw [List.take_add_one, List.getElem?_eq_getElem hj, List.getD_eq_getElem?_getD, List.getElem?_eq_getElem hj]
    rfl
  rw [e, List.map_append, List.reverse_append]
  rfl

def SettledE (w0 : World) (B mb : Nat) (A0 : AdM) (s' : Mc) (en : Int) (l : Bxs) (e : Ending) (w' : World) : Prop := e = .returned (.tuple #[]) ∧ Cur w0 B mb A0 s' en l w'

set_option maxRecDepth 100000 in
set_option maxHeartbeats 1000000 in
theorem deed_settle {w0 w : World} {B mb : Nat} {A0 : AdM} {s : Mc} {en : Int} {l : Bxs} (h : Cur w0 B mb A0 s en l w) {f : Fr} {rest : List Fr} (hs : s.fr = f :: rest) (ws : List Opd) (hw : ∀ o, o ∈ ws → WOk f.loc.length o) (b wb cap : Nat) (arr : Array Value) (hb : (b, #[.slice (some ⟨wb, 0, none⟩) ws.length cap], 217) ∈ l) (hwb : (wb, arr, 224) ∈ l) (hv : WaitV l ws arr) (hn : f.stk.length + ws.length ≤ 60) :
    Calls Tryz.prog 192 #[ptr mb, ptr (A0.FB rest.length), ptr b] w (SettledE w0 B mb A0 { s with fr := { f with stk := (ws.map (Opd.val f.loc)).reverse ++ f.stk } :: rest } en l) := by
  have d1 := h.hb.one hb
  have HC := hid h
  have HB := hid (And.intro hb hwb)
  have HV := hid hv
  have HW := hid hw
  have hl60 : ws.length ≤ 60 := by omega
  generalize hfb : A0.FB rest.length = fb at *
  have HF := hid hfb
  clear h hb hwb hv hw hfb
  have HSF := hid (show ({ s with fr := { f with stk := ((ws.take ws.length).map (Opd.val f.loc)).reverse ++ f.stk } :: rest } : Mc) = { s with fr := { f with stk := (ws.map (Opd.val f.loc)).reverse ++ f.stk } :: rest } from by rw [List.take_length])
  generalize ({ s with fr := { f with stk := (ws.map (Opd.val f.loc)).reverse ++ f.stk } :: rest } : Mc) = s' at *
  generalize hws : ws.length = wn at *
  have HWN := hid hws
  clear hws
  go_enter Tryz.func192, Tryz.ntmps192
  go_wp2
  go_loopw [9] (fun v wr => ∃ j : Nat, j ≤ wn ∧ v = .int .i64 j ∧ Cur w0 B mb A0 { s with fr := { f with stk := ((ws.take j).map (Opd.val f.loc)).reverse ++ f.stk } :: rest } en l wr) (fun v _ => wn - (intOf v).toNat)
  case atStart =>
    refine ⟨0, by omega, rfl, ?_⟩
    have e : ({ s with fr := { f with stk := ((ws.take 0).map (Opd.val f.loc)).reverse ++ f.stk } :: rest } : Mc) = s := Mc.same hs
    rw [e]
    exact HC.out
  case round =>
    obtain ⟨j, hj, rfl, cj⟩ := hrel
    by_cases hlt : j < wn
    · have hdec : decide ((j : Int) < (wn : Int)) = true := by simp; omega
      obtain ⟨vo, ha, hvo⟩ := HV.out j (by rw [HWN.out]; exact hlt)
      obtain ⟨g1, c1, e1, f1⟩ := hvo.fn
      subst e1
      have y0 : wr.cell? ⟨wb, j, none⟩ = some (.func (.func g1) #[] c1) := (cj.hb.cell HB.out.2 j).trans ha
      have hmem : ws.getD j .pop ∈ ws := by
        have : j < ws.length := by rw [HWN.out]; exact hlt
        rw [List.getD_eq_getElem?_getD, List.getElem?_eq_getElem this]
        exact List.getElem_mem _
      have hwo := HW.out _ hmem
      obtain ⟨gg, go⟩ := hwo.get (st := ((ws.take j).map (Opd.val f.loc)).reverse ++ f.stk)
      have hstl : (((ws.take j).map (Opd.val f.loc)).reverse ++ f.stk).length ≤ 60 := by simp; omega
      have HG := hid (cj.drew.get (f := { f with stk := ((ws.take j).map (Opd.val f.loc)).reverse ++ f.stk }) (rest := rest) rfl hvo go hstl)
      have HT := hid (take_val f.loc ws f.stk (j := j) (by rw [HWN.out]; exact hlt))
      have HS := hid hstl
      have HGG := hid gg
      have H0 := hid cj.drew
      rw [HF.out] at HG
      have i0 : (0 : Int) ≤ (j : Int) := by omega
      have i1 : (j : Int) < (wn : Int) := by omega
      unfold GetE at HG
      clear cj hvo hwo gg go hstl hmem ha HC
      generalize ((ws.take j).map (Opd.val f.loc)).reverse ++ f.stk = stj at *
      generalize ws.getD j .pop = o at *
      go_wp2_with fail
      refine region_lex (Hb l) [(false, 0), (false, 1), (false, 2), (false, 3), (false, 4), (true, 5), (true, 6)] (by kernel_rfl) (by kernel_rfl) (fun c0 a0 d0 v0 x0 h0 => panic_body (P := Tryz.prog) Tryz.f192 (SettledE w0 B mb A0 s' en l) c0 a0 d0 v0 x0 h0) H0.out.hb ?_
      simp only [lexL, List.getElem?_cons_zero, List.getElem?_cons_succ]
      iterate 5 (refine lexW_free (by rfl) (by intro w' hS'; clear hS'; go_simp; exact rfl) ?_; simp only [Act.put, List.setIfInBounds_toArray, List.set_cons_zero, List.set_cons_succ])
      generalize wr.drew = w1 at HG H0 ⊢
      refine lexW_sole (fun K hK => ?_)
      go_simp
      refine HG.out.mono ?_
      rintro e w2 ⟨he, c2, _⟩
      have he' : e = .returned (.agg #[.int .i64 (o.val f.loc).k, .int .i64 (o.val f.loc).n]) := by rw [he, HGG.out]
      subst he'
      have c2' : Cur w0 B mb A0 { s with fr := { f with stk := stj } :: rest } en l w2 := by rw [HGG.out] at c2; exact c2
      clear he c2
      have H2 := hid c2'
      refine hK.out _ _ c2'.hb ?_
      clear hK K c2' HG H0 y0
      refine lexW_sole (fun K hK => ?_)
      go_simp
      have hp := H2.out.push (f := { f with stk := stj }) (rest := rest) rfl (by show stj.length ≤ 64; have := HS.out; omega) (o.val f.loc)
      rw [HF.out] at hp
      refine hp.mono ?_
      rintro e w3 ⟨rfl, c3⟩
      have HQ := hid (show Cur w0 B mb A0 { s with fr := { f with stk := ((ws.take (j + 1)).map (Opd.val f.loc)).reverse ++ f.stk } :: rest } en l w3 from by rw [HT.out]; exact c3)
      refine hK.out _ _ c3.hb ?_
      clear hK K c3 hp
      refine lexW_done ?_
      go_wp2
      exact ⟨⟨j + 1, by omega, by go_num, HQ.out⟩, by simp [intOf]; omega⟩
    · have hdec : decide ((j : Int) < (wn : Int)) = false := by simp; omega
      obtain rfl : j = wn := by omega
      rw [HSF.out] at cj
      have HQ := hid cj
      clear cj
      go_wp2
      go_end0
      exact ⟨rfl, HQ.out⟩
end Go.Proofs.YtkafkipjedpohaaGreatDoor
