import Derived.Test.YtkafkipjedpohaaGreatDoorY6
import Derived.Laws.EntriesVeiled

/-
  Compiled code of the project's machine: any deed; a stretch.
-/
namespace Go.Proofs.YtkafkipjedpohaaGreatDoor
open Go.RowKit

/-- A function value that does a deed. -/
def DeedV (L : Bxs) (d : Deed) (v : Value) : Prop :=
  match d with
  | .settle ws => ∃ b wb cap arr, v = .func (.func 192) #[] #[ptr b] ∧ (b, #[.slice (some ⟨wb, 0, none⟩) ws.length cap], 217) ∈ L ∧ (wb, arr, 224) ∈ L ∧ WaitV L ws arr
  | .pass n => ∃ b, v = .func (.func 178) #[] #[ptr b] ∧ (b, #[.int .i64 n], 3) ∈ L
  | .ins op a os =>
    (∃ b vv, v = .func (.func 193) #[] #[ptr b] ∧ (b, #[vv], 229) ∈ L ∧ ValV L op os vv) ∨
    (op = 20 ∧ os = [.pop] ∧ v = .func (.func 182) #[] #[]) ∨
    (op = 19 ∧ ∃ o b vo, os = [o] ∧ v = .func (.func 170) #[] #[ptr b] ∧ (b, #[vo], 224) ∈ L ∧ OpdV L o vo) ∨
    (op = 3 ∧ ∃ o b lb vo, os = [o] ∧ v = .func (.func 181) #[] #[ptr b, ptr lb] ∧ (b, #[vo], 224) ∈ L ∧ (lb, #[.int .i64 a], 3) ∈ L ∧ OpdV L o vo) ∨
    (op = 17 ∧ ∃ o o1 o2 b tb vo vt, os = [o, o1, o2] ∧ v = .func (.func 191) #[] #[ptr b, ptr tb] ∧ (b, #[vo], 224) ∈ L ∧ (tb, #[vt], 230) ∈ L ∧ OpdV L o vo ∧ TwoV L o1 o2 vt)
  | .jump a => ∃ b, v = .func (.func 160) #[] #[ptr b] ∧ (b, #[.int .i64 a], 3) ∈ L
  | .branch o a => ∃ b tb vo, v = .func (.func 162) #[] #[ptr b, ptr tb] ∧ (b, #[vo], 224) ∈ L ∧ (tb, #[.int .i64 a], 3) ∈ L ∧ OpdV L o vo
  | .call a => ∃ b, v = .func (.func 163) #[] #[ptr b] ∧ (b, #[.int .i64 a], 3) ∈ L
  | .ret o => ∃ b vo, v = .func (.func 164) #[] #[ptr b] ∧ (b, #[vo], 224) ∈ L ∧ OpdV L o vo
  | .one => v = .func (.func 165) #[] #[]

theorem DeedV.mono {L L' : Bxs} {d : Deed} {v : Value} (h : DeedV L d v) (hl : ∀ t, t ∈ L → t ∈ L') : DeedV L' d v := by
  cases d with
  | settle ws => obtain ⟨b, wb, cap, arr, h1, h2, h3, h4⟩ := h; exact ⟨b, wb, cap, arr, h1, hl _ h2, hl _ h3, h4.mono hl⟩
  | pass n => obtain ⟨b, h1, h2⟩ := h; exact ⟨b, h1, hl _ h2⟩
  | ins op a os =>
    rcases h with ⟨b, vv, h1, h2, h3⟩ | h | ⟨h0, o, b, vo, h1, h2, h3, h4⟩ | ⟨h0, o, b, lb, vo, h1, h2, h3, h4, h5⟩ | ⟨h0, o, o1, o2, b, tb, vo, vt, h1, h2, h3, h4, h5, h6⟩
    · exact Or.inl ⟨b, vv, h1, hl _ h2, h3.mono hl⟩
    · exact Or.inr (Or.inl h)
    · exact Or.inr (Or.inr (Or.inl ⟨h0, o, b, vo, h1, h2, hl _ h3, h4.mono hl⟩))
    · exact Or.inr (Or.inr (Or.inr (Or.inl ⟨h0, o, b, lb, vo, h1, h2, hl _ h3, hl _ h4, h5.mono hl⟩)))
    · exact Or.inr (Or.inr (Or.inr (Or.inr ⟨h0, o, o1, o2, b, tb, vo, vt, h1, h2, hl _ h3, hl _ h4, h5.mono hl, h6.mono hl⟩)))
  | jump a => obtain ⟨b, h1, h2⟩ := h; exact ⟨b, h1, hl _ h2⟩
  | branch o a => obtain ⟨b, tb, vo, h1, h2, h3, h4⟩ := h; exact ⟨b, tb, vo, h1, hl _ h2, hl _ h3, h4.mono hl⟩
  | call a => obtain ⟨b, h1, h2⟩ := h; exact ⟨b, h1, hl _ h2⟩
  | ret o => obtain ⟨b, vo, h1, h2, h3⟩ := h; exact ⟨b, vo, h1, hl _ h2, h3.mono hl⟩
  | one => exact h

theorem cf_settle (args : Array Value) (X : World) : (callFunc 192 args).run Tryz.prog X = .ok (.enter 192 args) X := by go_simp
theorem cf_level (args : Array Value) (X : World) : (callFunc 178 args).run Tryz.prog X = .ok (.enter 178 args) X := by go_simp
theorem cf_push (args : Array Value) (X : World) : (callFunc 193 args).run Tryz.prog X = .ok (.enter 193 args) X := by go_simp
theorem cf_drop (args : Array Value) (X : World) : (callFunc 182 args).run Tryz.prog X = .ok (.enter 182 args) X := by go_simp
theorem cf_print (args : Array Value) (X : World) : (callFunc 170 args).run Tryz.prog X = .ok (.enter 170 args) X := by go_simp
theorem cf_store (args : Array Value) (X : World) : (callFunc 181 args).run Tryz.prog X = .ok (.enter 181 args) X := by go_simp
theorem cf_set (args : Array Value) (X : World) : (callFunc 191 args).run Tryz.prog X = .ok (.enter 191 args) X := by go_simp
theorem cf_turn1 (args : Array Value) (X : World) : (callFunc 160 args).run Tryz.prog X = .ok (.enter 160 args) X := by go_simp
theorem cf_turn2 (args : Array Value) (X : World) : (callFunc 162 args).run Tryz.prog X = .ok (.enter 162 args) X := by go_simp
theorem cf_turn3 (args : Array Value) (X : World) : (callFunc 163 args).run Tryz.prog X = .ok (.enter 163 args) X := by go_simp
theorem cf_turn4 (args : Array Value) (X : World) : (callFunc 164 args).run Tryz.prog X = .ok (.enter 164 args) X := by go_simp
theorem cf_turn5 (args : Array Value) (X : World) : (callFunc 165 args).run Tryz.prog X = .ok (.enter 165 args) X := by go_simp

theorem DeedV.fn {L : Bxs} {d : Deed} {v : Value} (h : DeedV L d v) : ∃ g cap, FnV v g cap := by
  cases d with
  | settle ws => obtain ⟨b, wb, cap, arr, h1, _⟩ := h; exact ⟨_, _, h1, cf_settle⟩
  | pass n => obtain ⟨b, h1, _⟩ := h; exact ⟨_, _, h1, cf_level⟩
  | ins op a os =>
    rcases h with ⟨b, vv, h1, _⟩ | ⟨_, _, h1⟩ | ⟨h0, o, b, vo, _, h1, _⟩ | ⟨h0, o, b, lb, vo, _, h1, _⟩ | ⟨h0, o, o1, o2, b, tb, vo, vt, _, h1, _⟩
    · exact ⟨_, _, h1, cf_push⟩
    · exact ⟨_, _, h1, cf_drop⟩
    · exact ⟨_, _, h1, cf_print⟩
    · exact ⟨_, _, h1, cf_store⟩
    · exact ⟨_, _, h1, cf_set⟩
  | jump a => obtain ⟨b, h1, _⟩ := h; exact ⟨_, _, h1, cf_turn1⟩
  | branch o a => obtain ⟨b, tb, vo, h1, _⟩ := h; exact ⟨_, _, h1, cf_turn2⟩
  | call a => obtain ⟨b, h1, _⟩ := h; exact ⟨_, _, h1, cf_turn3⟩
  | ret o => obtain ⟨b, vo, h1, _⟩ := h; exact ⟨_, _, h1, cf_turn4⟩
  | one => exact ⟨_, _, h, cf_turn5⟩

theorem deed_any {w : World} {B mb m k0 : Nat} {F : Nat → PF} {MV : Nat → Value} {K : Nat → Nat → Bool} {H : Nat → Nat → Int} {A : AdM} {s : Mc} {en : Int} {L : Bxs} (hM : MSt w B mb m F MV A s en) (hL : Bx w A.tag L) (hF : Fine m F K H) {d : Deed} (hd : d ≠ .one) (hok : DeedOk m k0 d s) {g : Nat} {cap : Array Value} (hv : DeedV L d (.func (.func g) #[] cap)) :
    Calls Tryz.prog g (#[ptr mb, ptr (A.FB k0)] ++ cap) w (DeedE w B mb m F MV A k0 (dexec F d s) en) := by
  have hcur := hM.cur hL
  cases d with
  | settle ws =>
    obtain ⟨hb, h1, h2⟩ := hok
    obtain ⟨b, wb, cp, arr, e1, e2, e3, e4⟩ := hv
    injection e1 with e1 _ e5
    injection e1 with e1
    subst e1 e5
    have hc := deed_settle hcur hb.fr ws h1 b wb cp arr e2 e3 e4 (by have := hb.stk; omega)
    rw [hb.len] at hc
    refine hc.mono ?_
    rintro e w' ⟨rfl, c⟩
    have hlen : s.fr.length = k0 + 1 := by rw [hb.fr, List.length_cons, hb.len]
    have hg := hM.aft c.done ⟨by rw [hlen]; show s.r.length + 1 = _; rw [hb.len], rfl, rfl, rfl, rfl, rfl⟩
    rw [hlen] at hg
    exact ⟨Or.inr ⟨by show s.fin < 3; rw [hb.fin]; decide, rfl⟩, hg, hg.code (by show k0 < s.r.length + 1; rw [hb.len]; omega)⟩
  | pass n =>
    obtain ⟨hb, h1⟩ := hok
    obtain ⟨b, e1, e2⟩ := hv
    injection e1 with e1 _ e5
    injection e1 with e1
    subst e1 e5
    exact deed_pass hM hL hb n h1 b e2
  | ins op a os =>
    obtain ⟨hb, h1, h2, h3, h4, h5, h6⟩ := hok
    have hxt : (execP op a { s.f with stk := (gets s.f.loc os s.f.stk).1 ++ (gets s.f.loc os s.f.stk).2 } s.arr s.out).2.2.2 = 0 ∨ 3 ≤ (execP op a { s.f with stk := (gets s.f.loc os s.f.stk).1 ++ (gets s.f.loc os s.f.stk).2 } s.arr s.out).2.2.2 := by
      rcases exec_trap op a { s.f with stk := (gets s.f.loc os s.f.stk).1 ++ (gets s.f.loc os s.f.stk).2 } s.arr s.out with h | h
      · exact Or.inl h
      · exact Or.inr h.1
    have hi : InsOk m s s.f op a os := ⟨h1, h3, h5, by have := hb.stk; omega, by have := hb.arr; omega, hb.cells, hb.out⟩
    have hlen := hb.len
    subst hlen
    have hstk : s.f.stk.length ≤ 60 := by have := hb.stk; omega
    rcases hv with ⟨b, vv, e1, e2, e3⟩ | ⟨e0, e6, e1⟩ | ⟨e0, o, b, vo, e6, e1, e2, e3⟩ | ⟨e0, o, b, lb, vo, e6, e1, e2, e3, e4⟩ | ⟨e0, o, o1, o2, b, tb, vo, vt, e6, e1, e2, e3, e4, e7⟩
    all_goals
      injection e1 with e1 _ e5
      injection e1 with e1
      subst e1 e5
    · exact (deed_push hcur hb.fr e2 e3 hi).mono (fun e w' h => DeedE.ins hM hb.fr hxt h)
    · subst e0 e6
      exact (deed_drop hcur hb.fr a h1.1 hstk).mono (fun e w' h => DeedE.ins hM hb.fr hxt h)
    · subst e0 e6
      exact (deed_print hcur hb.fr a o vo b e2 e3 h1.1 hstk hb.out).mono (fun e w' h => DeedE.ins hM hb.fr hxt h)
    · subst e0 e6
      obtain ⟨a0, a1⟩ := h6 rfl
      obtain ⟨i, rfl⟩ : ∃ i : Nat, a = i := ⟨a.toNat, by omega⟩
      exact (deed_store hcur hb.fr i (by omega) o vo b lb e2 e3 e4 h1.1 hstk).mono (fun e w' h => DeedE.ins hM hb.fr hxt h)
    · subst e0 e6
      exact (deed_set hcur hb.fr a o o1 o2 vo vt b tb e2 e3 e4 e7 h1 hstk (h3 _ (by simp [gets])).1).mono (fun e w' h => DeedE.ins hM hb.fr hxt h)
  | jump a =>
    obtain ⟨b, e1, e2⟩ := hv
    injection e1 with e1 _ e5
    injection e1 with e1
    subst e1 e5
    exact deed_jump hM hL hok a b e2
  | branch o a =>
    obtain ⟨hb, h1, h2⟩ := hok
    obtain ⟨b, tb, vo, e1, e2, e3, e4⟩ := hv
    injection e1 with e1 _ e5
    injection e1 with e1
    subst e1 e5
    exact deed_branch hM hL hb o vo a b tb e2 e3 e4 h1 h2
  | call a =>
    obtain ⟨hb, h1, h2⟩ := hok
    obtain ⟨b, e1, e2⟩ := hv
    injection e1 with e1 _ e5
    injection e1 with e1
    subst e1 e5
    exact deed_call hM hL hF hb a b h1 h2 e2
  | ret o =>
    obtain ⟨hb, h1⟩ := hok
    obtain ⟨b, vo, e1, e2, e3⟩ := hv
    injection e1 with e1 _ e5
    injection e1 with e1
    subst e1 e5
    exact deed_ret hM hL hb o vo b e2 e3 h1
  | one => exact absurd rfl hd
end Go.Proofs.YtkafkipjedpohaaGreatDoor

/-
  Compiled code of the project's machine: a stretch does its deeds.
-/
namespace Go.Proofs.YtkafkipjedpohaaGreatDoor
open Go.RowKit

/-- A list of function values that do deeds. -/
def DeedsV (L : Bxs) (ds : List Deed) (arr : Array Value) : Prop := ∀ i, i < ds.length → ∃ vd, arr[i]? = some vd ∧ DeedV L (ds.getD i .one) vd
theorem DeedsV.mono {L L' : Bxs} {ds : List Deed} {arr : Array Value} (h : DeedsV L ds arr) (hl : ∀ t, t ∈ L → t ∈ L') : DeedsV L' ds arr := fun i hi => by
  obtain ⟨vd, h1, h2⟩ := h i hi
  exact ⟨vd, h1, h2.mono hl⟩
/-- A function value that does a stretch. -/
def StrV (L : Bxs) (ds : List Deed) (v : Value) : Prop :=
  ∃ b, v = .func (.func 176) #[] #[ptr b] ∧ (ds = [] ∨ ∃ db cap arr, (b, #[.slice (some ⟨db, 0, none⟩) ds.length cap], 216) ∈ L ∧ (db, arr, 181) ∈ L ∧ DeedsV L ds arr)
theorem StrV.mono {L L' : Bxs} {ds : List Deed} {v : Value} (h : StrV L ds v) (hl : ∀ t, t ∈ L → t ∈ L') : StrV L' ds v := by
  obtain ⟨b, h1, h2⟩ := h
  refine ⟨b, h1, ?_⟩
  rcases h2 with h2 | ⟨db, cap, arr, h3, h4, h5⟩
  · exact Or.inl h2
  · exact Or.inr ⟨db, cap, arr, hl _ h3, hl _ h4, h5.mono hl⟩

/-- How a run stands within a stretch, ahead of the deeds ds. -/
structure InStr (w : World) (B mb m : Nat) (F : Nat → PF) (MV : Nat → Value) (A : AdM) (k0 : Nat) (L : Bxs) (fb : Nat) (en : Int) (t : Mc) (ds : List Deed) (wr : World) (Aj : AdM) (sj : Mc) : Prop where
  st : MSt wr B mb m F MV Aj sj en
  sg : SameG A Aj
  ch : Ch B N5 A.tag Aj.tag w wr
  fbs : ∀ i, i < sj.fr.length → i < k0 + 1 → Aj.FB i = A.FB i
  cvs : ∀ i, i < sj.fr.length → (i < k0 + 1 → Aj.g.CV i = A.g.CV i) ∧ (k0 + 1 ≤ i → Aj.g.CV i = MV (frAt sj.fr i).fn)
  bx : Bx wr Aj.tag L
  cell : wr.cell? ⟨fb, 4, none⟩ = some (A.g.CV k0)
  ok : DeedsOk F m k0 ds sj
  ends : dexecs F ds sj = t
  fin : sj.fin < 3

/-- What a stretch leaves. -/
def StrRes (w : World) (B mb m : Nat) (F : Nat → PF) (MV : Nat → Value) (A : AdM) (k0 : Nat) (t : Mc) (en : Int) (e : Ending) (w' : World) : Prop :=
  ((3 ≤ t.fin ∧ e = trapE t.fin) ∨ (t.fin < 3 ∧ e = .returned (.tuple #[]))) ∧ Goes w B mb m F MV (k0 + 1) A t en w'

theorem dbase_of {m k0 : Nat} {d : Deed} {s : Mc} (hd : d ≠ .one) (h : DeedOk m k0 d s) : DBase m k0 s := by
  cases d with
  | settle ws => exact h.1
  | pass n => exact h.1
  | ins op a os => exact h.1
  | jump a => exact h
  | branch o a => exact h.1
  | call a => exact h.1
  | ret o => exact h.1
  | one => exact absurd rfl hd

/-- One deed more. -/
theorem InStr.next {w wr : World} {B mb m : Nat} {F : Nat → PF} {MV : Nat → Value} {K : Nat → Nat → Bool} {H : Nat → Nat → Int} {A Aj : AdM} {k0 : Nat} {L : Bxs} {fb : Nat} {en : Int} {t sj : Mc} {d : Deed} {ds : List Deed} (hF : Fine m F K H) (h : InStr w B mb m F MV A k0 L fb en t (d :: ds) wr Aj sj) (hfb : A.FB k0 = fb) (hcv : CodeV (A.g.CV k0) true) (hne : ¬ fb = mb) {g : Nat} {cap : Array Value} (hv : DeedV L d (.func (.func g) #[] cap)) :
    Calls Tryz.prog g (#[ptr mb, ptr fb] ++ cap) wr fun e w' => (3 ≤ t.fin ∧ e = trapE t.fin ∧ Goes w B mb m F MV (k0 + 1) A t en w') ∨ (e = .returned (.tuple #[]) ∧ ∃ A' s', InStr w B mb m F MV A k0 L fb en t ds w' A' s') := by
  obtain ⟨hok1, hok2⟩ := h.ok
  have hends := h.ends
  rw [dexecs_cons] at hends
  by_cases hd : d = .one
  · subst hd
    have hone : DeedOk m k0 .one sj := hok1
    have hv' : (Value.func (.func g) #[] cap) = .func (.func 165) #[] #[] := hv
    injection hv' with e1 _ e5
    injection e1 with e1
    subst e1 e5
    refine (deed_one (F := F) h.st fb _ h.cell hcv hne hone.1 hone.2).mono ?_
    rintro e w' ⟨rfl, ⟨A2, m2, s2, c2, f2, v2⟩, k2⟩
    have hz : (dexec F .one sj).fin = sj.fin := rfl
    rw [if_neg (by have := h.fin; omega)] at hends
    refine Or.inr ⟨rfl, A2, _, m2, h.sg.trans s2, h.ch.trans c2, fun i hi hn => (f2 i hi hi).trans (h.fbs i hi hn), fun i hi => ⟨fun hn => ((v2 i hi).1 hi).trans ((h.cvs i hi).1 hn), fun hn => ((v2 i hi).1 hi).trans ((h.cvs i hi).2 hn)⟩, h.bx.keep c2 n55, k2, hok2 (by rw [hz]; exact h.fin), hends, by rw [hz]; exact h.fin⟩
  · have hb := dbase_of hd hok1
    have hlen : sj.fr.length = k0 + 1 := by rw [hb.fr, List.length_cons, hb.len]
    have hfj : Aj.FB k0 = fb := (h.fbs k0 (by omega) (by omega)).trans hfb
    have hcj : Aj.g.CV k0 = A.g.CV k0 := (h.cvs k0 (by omega)).1 (by omega)
    have hc := deed_any h.st h.bx hF hd hok1 hv
    rw [hfj] at hc
    refine hc.mono ?_
    rintro e w' ⟨h1, ⟨A2, m2, s2, c2, f2, v2⟩, k2⟩
    rw [hfj, hcj] at k2
    have fbs2 : ∀ i, i < (dexec F d sj).fr.length → i < k0 + 1 → A2.FB i = A.FB i := fun i hi hn => (f2 i hi hn).trans (h.fbs i (by omega) hn)
    have cvs2 : ∀ i, i < (dexec F d sj).fr.length → (i < k0 + 1 → A2.g.CV i = A.g.CV i) ∧ (k0 + 1 ≤ i → A2.g.CV i = MV (frAt (dexec F d sj).fr i).fn) := fun i hi => ⟨fun hn => ((v2 i hi).1 hn).trans ((h.cvs i (by omega)).1 hn), (v2 i hi).2⟩
    rcases h1 with ⟨h1, rfl⟩ | ⟨h1, rfl⟩
    · rw [if_pos h1] at hends
      rw [← hends]
      exact Or.inl ⟨h1, rfl, A2, m2, h.sg.trans s2, h.ch.trans c2, fbs2, cvs2⟩
    · rw [if_neg (by omega)] at hends
      exact Or.inr ⟨rfl, A2, _, m2, h.sg.trans s2, h.ch.trans c2, fbs2, cvs2, h.bx.keep c2 n55, k2, hok2 h1, hends, h1⟩

set_option maxRecDepth 100000 in
set_option maxHeartbeats 1000000 in
theorem stretchM {w : World} {B mb m : Nat} {F : Nat → PF} {MV : Nat → Value} {K : Nat → Nat → Bool} {H : Nat → Nat → Int} {A : AdM} {k0 : Nat} {L : Bxs} {en : Int} {s : Mc} {ds : List Deed} (hF : Fine m F K H) (hM : MSt w B mb m F MV A s en) (hL : Bx w A.tag L) (hk : s.fr.length = k0 + 1) (hcv : CodeV (A.g.CV k0) true) (hok : DeedsOk F m k0 ds s) (h0 : s.fin < 3) (hne : ds ≠ []) (hds : ds.length ≤ 1000) {g : Nat} {cap : Array Value} (hv : StrV L ds (.func (.func g) #[] cap)) :
    Calls Tryz.prog g (#[ptr mb, ptr (A.FB k0)] ++ cap) w (StrRes w B mb m F MV A k0 (dexecs F ds s) en) := by
  obtain ⟨b, e1, hv⟩ := hv
  injection e1 with e1 _ e5
  injection e1 with e1
  subst e1 e5
  rcases hv with hv | ⟨db, cp, arr, hb, hdb, hv⟩
  · exact absurd hv hne
  show Calls Tryz.prog 176 #[ptr mb, ptr (A.FB k0), ptr b] w _
  generalize ht : dexecs F ds s = t
  generalize hfb : A.FB k0 = fb
  obtain ⟨f, rest, hs⟩ : ∃ f rest, s.fr = f :: rest := by
    cases hc : s.fr with
    | nil => rw [hc] at hk; simp at hk
    | cons f r => exact ⟨f, r, rfl⟩
  have hrl : rest.length = k0 := by rw [hs] at hk; simpa using hk
  obtain ⟨c4, hmb, _⟩ := hM.top hs
  rw [hrl, hfb] at c4 hmb
  have hI : InStr w B mb m F MV A k0 L fb en t ds w A s := ⟨hM, SameG.refl _, Ch.refl _ _ _ _, fun i _ _ => rfl, fun i hi => ⟨fun _ => rfl, fun h => by omega⟩, hL, c4, hok, ht, h0⟩
  have d1 := (hM.cur hL).hb.one hb
  have HI := hid hI
  have HV := hid (And.intro hv hdb)
  have HF := hid (And.intro hF (And.intro hfb (And.intro hcv hmb)))
  clear hM hL hk hcv hok h0 hne ht hfb hs hrl c4 hmb hI hb hdb hv hF
  generalize hdn : ds.length = dn at *
  have HDN := hid hdn
  clear hdn
  go_enter Tryz.func176, Tryz.ntmps176
  go_wp2
  go_loopw [9] (fun v wr => ∃ j : Nat, j ≤ dn ∧ v = .int .i64 j ∧ ∃ Aj sj, InStr w B mb m F MV A k0 L fb en t (ds.drop j) wr Aj sj) (fun v _ => dn - (intOf v).toNat)
  case atStart =>
    exact ⟨0, by omega, rfl, A, s, HI.out⟩
  case round =>
    obtain ⟨j, hj, rfl, Aj, sj, hI⟩ := hrel
    by_cases hlt : j < dn
    · have hdec : decide ((j : Int) < (dn : Int)) = true := by simp; omega
      have hjl : j < ds.length := by rw [HDN.out]; exact hlt
      obtain ⟨vd, ha, hvd⟩ := HV.out.1 j hjl
      obtain ⟨g1, c1, e1, f1⟩ := hvd.fn
      subst e1
      have y0 : wr.cell? ⟨db, j, none⟩ = some (.func (.func g1) #[] c1) := by
        have hb5 := (hI.bx _ HV.out.2).1
        exact (cell_heap hb5).trans ha
      have hdrop : ds.drop j = ds.getD j .one :: ds.drop (j + 1) := by
        rw [List.drop_eq_getElem_cons hjl, List.getD_eq_getElem?_getD, List.getElem?_eq_getElem hjl]
        rfl
      rw [hdrop] at hI
      have HN := hid (hI.next HF.out.1 HF.out.2.1 HF.out.2.2.1 HF.out.2.2.2 hvd)
      have i0 : (0 : Int) ≤ (j : Int) := by omega
      have i1 : (j : Int) < (dn : Int) := by omega
      clear hI hvd ha hdrop hjl HI
      go_wp2_with fail
      refine HN.out.mono ?_
      rintro e w2 (⟨k1, rfl, k2⟩ | ⟨rfl, A2, s2, hI2⟩)
      · exact ⟨rfl, Or.inl ⟨k1, rfl⟩, k2⟩
      · have HQ := hid hI2
        clear hI2 HN y0
        go_wp2
        exact ⟨⟨j + 1, by omega, by go_num, A2, s2, HQ.out⟩, by simp [intOf]; omega⟩
    · have hdec : decide ((j : Int) < (dn : Int)) = false := by simp; omega
      obtain rfl : j = dn := by omega
      have hnil : ds.drop j = [] := List.drop_of_length_le (by rw [HDN.out]; exact Nat.le_refl _)
      rw [hnil] at hI
      have he : sj = t := hI.ends
      have HQ := hid (show StrRes w B mb m F MV A k0 t en (.returned (.tuple #[])) wr from by
        rw [← he]
        exact ⟨Or.inr ⟨hI.fin, rfl⟩, Aj, hI.st, hI.sg, hI.ch, hI.fbs, hI.cvs⟩)
      clear hI he
      go_wp2
      go_end0
      exact HQ.out
end Go.Proofs.YtkafkipjedpohaaGreatDoor

/-
  How compiled code is made: the maker in memory; then, wait.
-/
namespace Go.Proofs.YtkafkipjedpohaaGreatDoor
open Go.RowKit

/-- A maker in memory, of the call's own: its lists, and the boxes that its code has captured. -/
structure MkrAt (w : World) (B kb : Nat) (L : Bxs) (k : Mk) (tg : Nat → Nat) (dv wv : Value) (D W : Nat → Value) : Prop where
  le : B ≤ w.heap.size
  blk : w.heap[kb]? = some (.cells #[dv, wv, .int .i64 k.seen, .int .i64 k.passed] 219 (0, 0))
  own : B ≤ kb ∧ tg kb = 0
  ds : Row w B tg 1 181 1 dv k.ds.length D
  dsv : ∀ i, i < k.ds.length → DeedV L (k.ds.getD i .one) (D i)
  ws : Row w B tg 2 224 1 wv k.ws.length W
  wsv : ∀ i, i < k.ws.length → OpdV L (k.ws.reverse.getD i .pop) (W i)
  bx : Bx w tg L
  bB : ∀ t, t ∈ L → B ≤ t.1
def MkA (w : World) (B kb : Nat) (L : Bxs) (k : Mk) : Prop := ∃ tg dv wv D W, MkrAt w B kb L k tg dv wv D W

/-- What a call on a maker leaves. -/
def MkE (w : World) (B kb : Nat) (L : Bxs) (k' : Mk) (e : Ending) (w' : World) : Prop := e = .returned (.tuple #[]) ∧ ∃ L', (∀ t, t ∈ L → t ∈ L') ∧ MkA w' B kb L' k' ∧ Below B w w'

theorem MkA.box {w : World} {B kb : Nat} {L : Bxs} {k : Mk} (h : MkA w B kb L k) (c : Array Value) (t : TypeId) : MkA (w.alloc (.cells c t)) B kb ((w.heap.size, c, t) :: L) k := by
  obtain ⟨tg, dv, wv, D, W, h⟩ := h
  have hbl : Below w.heap.size w (w.alloc (.cells c t)) := (Below.refl _ _).alloc (Nat.le_refl _) _
  have hc : Ch B (fun _ => False) tg (upd tg w.heap.size 5) w (w.alloc (.cells c t)) := Ch.of_tags hbl (fun b hb => upd_other _ _ _ _ (by omega))
  refine ⟨upd tg w.heap.size 5, dv, wv, D, W, by have := h.le; simp; omega, (hbl.block kb (heap_lt h.blk)).trans h.blk, ⟨h.own.1, by rw [upd_other _ _ _ _ (by have := heap_lt h.blk; omega)]; exact h.own.2⟩, h.ds.keep hc (fun h => h), fun i hi => (h.dsv i hi).mono (fun t ht => List.mem_cons_of_mem _ ht), h.ws.keep hc (fun h => h), fun i hi => (h.wsv i hi).mono (fun t ht => List.mem_cons_of_mem _ ht), fun u hu => ?_, fun u hu => ?_⟩
  · rcases List.mem_cons.1 hu with rfl | hu
    · exact ⟨Go.Deep.blk_alloc_new _ _, upd_same _ _ _⟩
    · exact h.bx.keep hc (fun h => h) u hu
  · rcases List.mem_cons.1 hu with rfl | hu
    · exact h.le
    · exact h.bB u hu
theorem MkA.below {w w' : World} {B kb : Nat} {L : Bxs} {k : Mk} (h : MkA w B kb L k) (hb : Below w.heap.size w w') : MkA w' B kb L k := by
  obtain ⟨tg, dv, wv, D, W, h⟩ := h
  have hc : Ch B (fun _ => False) tg tg w w' := Ch.of_below hb
  exact ⟨tg, dv, wv, D, W, by have := h.le; have := hb.size; omega, (hb.block kb (heap_lt h.blk)).trans h.blk, h.own, h.ds.keep hc (fun h => h), h.dsv, h.ws.keep hc (fun h => h), h.wsv, h.bx.keep hc (fun h => h), h.bB⟩
theorem MkA.hb {w : World} {B kb : Nat} {L : Bxs} {k : Mk} (h : MkA w B kb L k) : Hb L w := by
  obtain ⟨tg, dv, wv, D, W, h⟩ := h
  exact fun t ht => (h.bx t ht).1
theorem MkA.le {w : World} {B kb : Nat} {L : Bxs} {k : Mk} (h : MkA w B kb L k) : B ≤ w.heap.size ∧ kb < w.heap.size ∧ B ≤ kb := by
  obtain ⟨tg, dv, wv, D, W, h⟩ := h
  exact ⟨h.le, heap_lt h.blk, h.own.1⟩
theorem Tryz.infoDeed : (Tryz.prog.info? 181).map (fun i => (i.zero, i.size, i.bytes)) = some (some .nilFunc, 1, 8) := by kernel_rfl
theorem Tryz.infoOpd : (Tryz.prog.info? 224).map (fun i => (i.zero, i.size, i.bytes)) = some (some .nilFunc, 1, 8) := by kernel_rfl

theorem getD_snoc {α : Type} (l : List α) (x d : α) {i : Nat} (h : i < (l ++ [x]).length) : (l ++ [x]).getD i d = if i < l.length then l.getD i d else x := by
  simp only [List.length_append, List.length_cons, List.length_nil] at h
  by_cases c : i < l.length
  · rw [if_pos c, List.getD_eq_getElem?_getD, List.getElem?_append_left c, List.getD_eq_getElem?_getD]
  · obtain rfl : i = l.length := by omega
    rw [if_neg c, List.getD_eq_getElem?_getD, List.getElem?_append_right (by omega)]
    simp

set_option maxRecDepth 100000 in
set_option maxHeartbeats 1000000 in
theorem thenM {w : World} {B kb : Nat} {L : Bxs} {k : Mk} (h : MkA w B kb L k) (d : Deed) (g : Nat) (cp : Array Value) (hd : DeedV L d (.func (.func g) #[] cp)) (hn : k.ds.length ≤ 2000) :
    Calls Tryz.prog 159 #[ptr kb, .func (.func g) #[] cp] w fun e w' => e = .returned (.tuple #[]) ∧ MkA w' B kb L (k.then_ d) ∧ Below B w w' := by
  obtain ⟨tg, dv, wv, D, W, h⟩ := h
  have hb := h.blk
  have hbz := heap_lt hb
  obtain ⟨inf, hi, hz0, hz1, hz2⟩ : ∃ i, Tryz.prog.info? 181 = some i ∧ i.zero = some .nilFunc ∧ i.size = 1 ∧ i.bytes = 8 := by
    obtain ⟨i, hi, hzz⟩ := Option.map_eq_some_iff.1 Tryz.infoDeed
    simp only [Prod.mk.injEq] at hzz
    exact ⟨i, hi, hzz.1, hzz.2.1, hzz.2.2⟩
  have d3 : w.cell? ⟨kb, 0, none⟩ = some dv := (cell_heap hb).trans rfl
  have y3 : w.frozen? ⟨kb, 0, none⟩ = false := frozen_heap hb
  have hne1 : some kb ≠ dv.ownBlock := h.ds.other (by rw [h.own.2]; omega)
  have HC := hid h
  have HD := hid hd
  have hB := h.le
  generalize hkn : k.ds.length = n at *
  have HKN := hid hkn
  clear h hb hd hkn
  go_enter Tryz.func159, Tryz.ntmps159
  go_wp2_with (at_builtin; refine stopHereM ?_)
  refine ⟨?_, trivial⟩
  have hrow := HC.out.ds
  rw [HKN.out] at hrow
  refine wpList_append_lies _ rfl _ _ _ rfl B 181 inf _ 1 8 Tryz.underlying216 hi hz0 hz1 hz2 rfl (by decide) dv n _ rfl (hrow.owns.alloc _) ⟨w.heap.size, 0, none⟩ 1 1 [.func (.func g) #[] cp] rfl rfl (World.news_of_block (Go.Deep.blk_alloc_new w _)) (by intro u hu; simp at hu; subst hu; rfl) (by omega) (by unfold maxLen; omega) (by omega) (by simp; omega) (w.heap.size + 1) (by simp) ?_
  intro gb cap w1 hown hgrow hat hlt
  have hX : Ch B (fun _ => False) tg tg w (w.alloc (.cells #[.func (.func g) #[] cp] 181)) := Ch.of_below ((Below.refl _ _).alloc (Nat.le_refl _) _)
  have hblk : (w.alloc (.cells #[.func (.func g) #[] cp] 181)).heap[kb]? = w.heap[kb]? := Below.heap_alloc w _ kb hbz
  obtain ⟨tg', hst, hgc⟩ := (hrow.keep hX (fun h => h)).grew hown hgrow (by rcases hat with h | h; exact Or.inl h; right; rw [h]; simp) rfl
  have hlx : kb < (w.alloc (.cells #[.func (.func g) #[] cp] 181)).heap.size := by simp; omega
  have htk : tg' kb = 0 := (hgc.tags kb hlx).trans HC.out.own.2
  have hb1 : w1.heap[kb]? = some (.cells #[dv, wv, .int .i64 k.seen, .int .i64 k.passed] 219 (0, 0)) := (hgc.block kb hlx (Or.inr (by rw [HC.out.own.2]; omega))).trans (hblk.trans HC.out.blk)
  have hb2 := heap_set (o := 0) hb1 (.slice (some ⟨gb, 0, none⟩) (n + 1) cap)
  have hcs : Ch B (fun c => c = 0) tg' tg' w1 (w1.setCell ⟨kb, 0, none⟩ (.slice (some ⟨gb, 0, none⟩) (n + 1) cap)) := Ch.set w1 kb _ _ HC.out.own.1 htk
  have hst2 := hst.keep hcs (by omega)
  have hcw : Ch B (fun c => c = 1) tg tg' w w1 := (hX.mono (fun _ h => h.elim)).trans hgc
  have hws := (HC.out.ws.keep hcw (by omega)).keep hcs (by omega)
  have hbx := (HC.out.bx.keep hcw (by omega)).keep hcs (by omega)
  have hall : Ch B (fun c => c = 0 ∨ c = 1) tg tg' w (w1.setCell ⟨kb, 0, none⟩ (.slice (some ⟨gb, 0, none⟩) (n + 1) cap)) := (hcw.mono (fun _ h => Or.inr h)).trans (hcs.mono (fun _ h => Or.inl h))
  have hlen : (k.then_ d).ds.length = n + 1 := by show (k.ds ++ [d]).length = _; rw [List.length_append, HKN.out]; rfl
  have q0 : w1.cell? ⟨kb, 0, none⟩ = some dv := (cell_heap hb1).trans rfl
  have q1 : w1.frozen? ⟨kb, 0, none⟩ = false := frozen_heap hb1
  have HQ := hid (show MkA (w1.setCell ⟨kb, 0, none⟩ (.slice (some ⟨gb, 0, none⟩) (n + 1) cap)) B kb L (k.then_ d) ∧ Below B w (w1.setCell ⟨kb, 0, none⟩ (.slice (some ⟨gb, 0, none⟩) (n + 1) cap)) from by
    refine ⟨⟨tg', .slice (some ⟨gb, 0, none⟩) (n + 1) cap, wv, _, W, by have := hall.size; omega, hb2, ⟨HC.out.own.1, htk⟩, by rw [hlen]; exact hst2, fun i hi => ?_, hws, HC.out.wsv, hbx, HC.out.bB⟩, hall.below hB⟩
    rw [hlen] at hi
    show DeedV L ((k.ds ++ [d]).getD i .one) _
    rw [getD_snoc _ _ _ (by rw [List.length_append, HKN.out]; exact hi), HKN.out]
    by_cases c : i < n
    · rw [if_pos c, if_pos (by omega)]
      exact HC.out.dsv i (by rw [HKN.out]; exact c)
    · obtain rfl : i = n := by omega
      rw [if_neg c, if_neg (by omega)]
      simp only [Nat.mul_one, Nat.sub_self]
      exact HD.out)
  clear hall hst2 hcs hst hgc hX hown hgrow hb1 hb2 hblk hrow hws hbx hcw hlen
  go_wp2
  go_end0
  exact ⟨rfl, HQ.out⟩
end Go.Proofs.YtkafkipjedpohaaGreatDoor
