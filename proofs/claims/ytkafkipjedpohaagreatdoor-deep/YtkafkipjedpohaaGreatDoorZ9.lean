import Derived.Test.YtkafkipjedpohaaGreatDoorZ7

/-
  How compiled code is made: turn.
-/
namespace Go.Proofs.YtkafkipjedpohaaGreatDoor
open Go.RowKit

theorem MkA.sawT {w w2 : World} {B kb : Nat} {L : Bxs} {k : Mk} {op a : Int} (hs : k.seen ≤ 1000) (h : MkE w B kb L ((k.trn op a).then_ .one) (.returned (.tuple #[])) w2) :
    w2.cell? ⟨kb, 2, none⟩ = some (.int .i64 k.seen) ∧ w2.frozen? ⟨kb, 2, none⟩ = false ∧ wrap64 ((k.seen : Int) + 1) = (k.seen : Int) + 1 ∧ MkE w B kb L (k.turn op a) (.returned (.tuple #[])) (w2.setCell ⟨kb, 2, none⟩ (.int .i64 ((k.seen : Int) + 1))) := by
  obtain ⟨_, L', hl, hA, hb⟩ := h
  obtain ⟨c2, _, z2, _⟩ := hA.counts
  have e0 : ((k.trn op a).then_ .one).seen = k.seen := trn_seen op a k
  rw [e0] at c2
  obtain ⟨hA2, hb2⟩ := hA.count 2 (k.seen + 1) (by omega)
  have e : ((k.seen + 1 : Nat) : Int) = (k.seen : Int) + 1 := by omega
  rw [e] at hA2 hb2
  refine ⟨c2, z2, by unfold wrap64; omega, rfl, L', hl, ?_, hb.trans hb2⟩
  have hk : k.turn op a = { (k.trn op a).then_ .one with seen := if 2 = 2 then k.seen + 1 else ((k.trn op a).then_ .one).seen, passed := if 2 = 3 then k.seen + 1 else ((k.trn op a).then_ .one).passed } := by
    unfold Mk.turn
    rw [trn_seen]
    rfl
  rw [hk]
  exact hA2
theorem trn_ds (op a : Int) (k : Mk) : (k.trn op a).ds.length ≤ k.ds.length + 3 := by
  have h1 := level_ds k
  have h2 : (k.pops 1).level.ds.length ≤ k.ds.length + 2 := level_ds (k.pops 1)
  unfold Mk.trn
  repeat' split
  all_goals (show (_ ++ [_]).length ≤ _; simp; omega)

set_option maxRecDepth 100000 in
set_option maxHeartbeats 1000000 in
theorem turn_jumpMk {w : World} {B kb : Nat} {L : Bxs} {k : Mk} (h : MkA w B kb L k) (hs : Sml k) (a : Int) (ha : 0 ≤ a) :
    Calls Tryz.prog 155 #[ptr kb, .agg #[.int .i64 10, .int .i64 a]] w (MkE w B kb L (k.turn 10 a)) := by
  have hmf : ∀ (fn : Fn) (first cap : Array Value) (w : World), (Instr.makeFunc fn first cap).run Tryz.prog w = .ok (.func fn first cap) w := fun _ _ _ _ => rfl
  have hA := h.two #[.int .i64 10, .int .i64 a] #[.int .i64 a] 33 3
  have HB := hid ((below_alloc h.le.1 (.cells #[.int .i64 10, .int .i64 a] 33)).trans (below_alloc (w := w.alloc (.cells #[.int .i64 10, .int .i64 a] 33)) (by have := h.le.1; simp; omega) (.cells #[.int .i64 a] 3)))
  have HS := hid hs
  have HA := hid hA
  have HI := hid (show (a.toNat : Int) = a from Int.toNat_of_nonneg ha)
  have hkz := h.le.2.1
  clear h hs hA ha
  go_enter Tryz.func155, Tryz.ntmps155
  go_wp2_with fail
  generalize (w.alloc (.cells #[.int .i64 10, .int .i64 a] 33)).alloc (.cells #[.int .i64 a] 3) = W at *
  refine (levelMk HA.out (by have := HS.out.ds; omega) (by have := HS.out.ws; omega) HS.out.le HS.out.seen).mono ?_
  rintro e w2 ⟨rfl, L2, hl2, h2, b2⟩
  have hd : DeedV L2 (.jump a.toNat) (.func (.func 160) #[] #[ptr (w.heap.size + 1)]) := ⟨w.heap.size + 1, rfl, by rw [HI.out]; exact hl2 _ List.mem_cons_self⟩
  have HT2 := hid (thenM h2 _ _ _ hd (by have := level_ds k; have := HS.out.ds; omega))
  have H2 := hid (And.intro (fun t (ht : t ∈ L) => hl2 t (List.mem_cons_of_mem _ (List.mem_cons_of_mem _ ht))) (HB.out.trans b2))
  clear h2 b2 hl2 hd HA HB
  go_wp2_with fail
  refine HT2.out.mono ?_
  rintro e w3 ⟨rfl, h3', b3'⟩
  have h3 : MkA w3 B kb L2 (k.trn 10 a) := h3'
  have hl3 := H2.out.1
  have b3 := H2.out.2.trans b3'
  clear HT2 H2 h3' b3'
  have HT3 := hid (thenM h3 .one 165 #[] rfl (by have := trn_ds 10 a k; have := HS.out.ds; show (k.trn 10 a).ds.length ≤ _; omega))
  have H3 := hid (And.intro hl3 b3)
  clear h3 hl3 b3
  go_wp2_with fail
  refine HT3.out.mono ?_
  rintro e w4 ⟨rfl, h4, b4⟩
  obtain ⟨c2, z2, e5, HQ'⟩ := MkA.sawT (op := 10) (a := a) HS.out.seen (MkE.of H3.out.1 H3.out.2 h4 b4)
  have HQ := hid HQ'
  clear HQ' HT3 h4 b4 H3
  generalize k.turn 10 a = k' at *
  generalize (k.seen : Int) = sn at *
  go_wp2
  go_end0
  exact HQ.out

set_option maxRecDepth 100000 in
set_option maxHeartbeats 1000000 in
theorem turn_callMk {w : World} {B kb : Nat} {L : Bxs} {k : Mk} (h : MkA w B kb L k) (hs : Sml k) (a : Int) (ha : 0 ≤ a) :
    Calls Tryz.prog 155 #[ptr kb, .agg #[.int .i64 13, .int .i64 a]] w (MkE w B kb L (k.turn 13 a)) := by
  have hmf : ∀ (fn : Fn) (first cap : Array Value) (w : World), (Instr.makeFunc fn first cap).run Tryz.prog w = .ok (.func fn first cap) w := fun _ _ _ _ => rfl
  have hA := h.two #[.int .i64 13, .int .i64 a] #[.int .i64 a] 33 3
  have HB := hid ((below_alloc h.le.1 (.cells #[.int .i64 13, .int .i64 a] 33)).trans (below_alloc (w := w.alloc (.cells #[.int .i64 13, .int .i64 a] 33)) (by have := h.le.1; simp; omega) (.cells #[.int .i64 a] 3)))
  have HS := hid hs
  have HA := hid hA
  have HI := hid (show (a.toNat : Int) = a from Int.toNat_of_nonneg ha)
  have hkz := h.le.2.1
  clear h hs hA ha
  go_enter Tryz.func155, Tryz.ntmps155
  go_wp2_with fail
  generalize (w.alloc (.cells #[.int .i64 13, .int .i64 a] 33)).alloc (.cells #[.int .i64 a] 3) = W at *
  refine (levelMk HA.out (by have := HS.out.ds; omega) (by have := HS.out.ws; omega) HS.out.le HS.out.seen).mono ?_
  rintro e w2 ⟨rfl, L2, hl2, h2, b2⟩
  have hd : DeedV L2 (.call a.toNat) (.func (.func 163) #[] #[ptr (w.heap.size + 1)]) := ⟨w.heap.size + 1, rfl, by rw [HI.out]; exact hl2 _ List.mem_cons_self⟩
  have HT2 := hid (thenM h2 _ _ _ hd (by have := level_ds k; have := HS.out.ds; omega))
  have H2 := hid (And.intro (fun t (ht : t ∈ L) => hl2 t (List.mem_cons_of_mem _ (List.mem_cons_of_mem _ ht))) (HB.out.trans b2))
  clear h2 b2 hl2 hd HA HB
  go_wp2_with fail
  refine HT2.out.mono ?_
  rintro e w3 ⟨rfl, h3', b3'⟩
  have h3 : MkA w3 B kb L2 (k.trn 13 a) := h3'
  have hl3 := H2.out.1
  have b3 := H2.out.2.trans b3'
  clear HT2 H2 h3' b3'
  have HT3 := hid (thenM h3 .one 165 #[] rfl (by have := trn_ds 13 a k; have := HS.out.ds; show (k.trn 13 a).ds.length ≤ _; omega))
  have H3 := hid (And.intro hl3 b3)
  clear h3 hl3 b3
  go_wp2_with fail
  refine HT3.out.mono ?_
  rintro e w4 ⟨rfl, h4, b4⟩
  obtain ⟨c2, z2, e5, HQ'⟩ := MkA.sawT (op := 13) (a := a) HS.out.seen (MkE.of H3.out.1 H3.out.2 h4 b4)
  have HQ := hid HQ'
  clear HQ' HT3 h4 b4 H3
  generalize k.turn 13 a = k' at *
  generalize (k.seen : Int) = sn at *
  go_wp2
  go_end0
  exact HQ.out

set_option maxRecDepth 100000 in
set_option maxHeartbeats 1000000 in
theorem turn_branchMk {w : World} {B kb : Nat} {L : Bxs} {k : Mk} (h : MkA w B kb L k) (hs : Sml k) (a : Int) (ha : 0 ≤ a) :
    Calls Tryz.prog 155 #[ptr kb, .agg #[.int .i64 11, .int .i64 a]] w (MkE w B kb L (k.turn 11 a)) := by
  have hmf : ∀ (fn : Fn) (first cap : Array Value) (w : World), (Instr.makeFunc fn first cap).run Tryz.prog w = .ok (.func fn first cap) w := fun _ _ _ _ => rfl
  have hA := h.two #[.int .i64 11, .int .i64 a] #[.int .i64 a] 33 3
  have HB := hid ((below_alloc h.le.1 (.cells #[.int .i64 11, .int .i64 a] 33)).trans (below_alloc (w := w.alloc (.cells #[.int .i64 11, .int .i64 a] 33)) (by have := h.le.1; simp; omega) (.cells #[.int .i64 a] 3)))
  have HS := hid hs
  have HA := hid hA
  have HI := hid (show (a.toNat : Int) = a from Int.toNat_of_nonneg ha)
  have hkz := h.le.2.1
  clear h hs hA ha
  go_enter Tryz.func155, Tryz.ntmps155
  go_wp2_with fail
  generalize (w.alloc (.cells #[.int .i64 11, .int .i64 a] 33)).alloc (.cells #[.int .i64 a] 3) = W at *
  refine (takeM HA.out (by have := HS.out.ws; omega)).mono ?_
  rintro e w1 ⟨v, rfl, o1, h1, b1⟩
  obtain ⟨g, cp, e1, _⟩ := o1.fn
  subst e1
  have h2 := h1.box #[.func (.func g) #[] cp] 224
  have b2 := below_alloc h1.le.1 (.cells #[.func (.func g) #[] cp] 224)
  have HT := hid (levelMk h2 (by have := (HS.out.pops 1).ds; omega) (by have := (HS.out.pops 1).ws; omega) (HS.out.pops 1).le (HS.out.pops 1).seen)
  have H1 := hid (And.intro o1 (HB.out.trans (b1.trans b2)))
  clear h1 h2 b1 b2 o1 HA HB
  go_wp2_with fail
  generalize w1.alloc (.cells #[.func (.func g) #[] cp] 224) = W1 at *
  refine HT.out.mono ?_
  rintro e w2 ⟨rfl, L2, hl2, h2, b2⟩
  have hd : DeedV L2 (.branch (popO k) a.toNat) (.func (.func 162) #[] #[ptr w1.heap.size, ptr (w.heap.size + 1)]) := ⟨w1.heap.size, w.heap.size + 1, _, rfl, hl2 _ List.mem_cons_self, by rw [HI.out]; exact hl2 _ (List.mem_cons_of_mem _ List.mem_cons_self), H1.out.1.mono (fun t ht => hl2 _ (List.mem_cons_of_mem _ ht))⟩
  have HT2 := hid (thenM h2 _ _ _ hd (by have := level_ds (k.pops 1); have := (HS.out.pops 1).ds; omega))
  have H2 := hid (And.intro (fun t (ht : t ∈ L) => hl2 t (List.mem_cons_of_mem _ (List.mem_cons_of_mem _ (List.mem_cons_of_mem _ ht)))) (H1.out.2.trans b2))
  clear h2 b2 hl2 hd HT H1
  go_wp2_with fail
  refine HT2.out.mono ?_
  rintro e w3 ⟨rfl, h3', b3'⟩
  have h3 : MkA w3 B kb L2 (k.trn 11 a) := h3'
  have hl3 := H2.out.1
  have b3 := H2.out.2.trans b3'
  clear HT2 H2 h3' b3'
  have HT3 := hid (thenM h3 .one 165 #[] rfl (by have := trn_ds 11 a k; have := HS.out.ds; show (k.trn 11 a).ds.length ≤ _; omega))
  have H3 := hid (And.intro hl3 b3)
  clear h3 hl3 b3
  go_wp2_with fail
  refine HT3.out.mono ?_
  rintro e w4 ⟨rfl, h4, b4⟩
  obtain ⟨c2, z2, e5, HQ'⟩ := MkA.sawT (op := 11) (a := a) HS.out.seen (MkE.of H3.out.1 H3.out.2 h4 b4)
  have HQ := hid HQ'
  clear HQ' HT3 h4 b4 H3
  generalize k.turn 11 a = k' at *
  generalize (k.seen : Int) = sn at *
  go_wp2
  go_end0
  exact HQ.out

set_option maxRecDepth 100000 in
set_option maxHeartbeats 1000000 in
theorem turn_retMk {w : World} {B kb : Nat} {L : Bxs} {k : Mk} (h : MkA w B kb L k) (hs : Sml k) (a : Int) :
    Calls Tryz.prog 155 #[ptr kb, .agg #[.int .i64 14, .int .i64 a]] w (MkE w B kb L (k.turn 14 a)) := by
  have hmf : ∀ (fn : Fn) (first cap : Array Value) (w : World), (Instr.makeFunc fn first cap).run Tryz.prog w = .ok (.func fn first cap) w := fun _ _ _ _ => rfl
  have hA := h.two #[.int .i64 14, .int .i64 a] #[.int .i64 a] 33 3
  have HB := hid ((below_alloc h.le.1 (.cells #[.int .i64 14, .int .i64 a] 33)).trans (below_alloc (w := w.alloc (.cells #[.int .i64 14, .int .i64 a] 33)) (by have := h.le.1; simp; omega) (.cells #[.int .i64 a] 3)))
  have HS := hid hs
  have HA := hid hA
  have hkz := h.le.2.1
  clear h hs hA
  go_enter Tryz.func155, Tryz.ntmps155
  go_wp2_with fail
  generalize (w.alloc (.cells #[.int .i64 14, .int .i64 a] 33)).alloc (.cells #[.int .i64 a] 3) = W at *
  refine (takeM HA.out (by have := HS.out.ws; omega)).mono ?_
  rintro e w1 ⟨v, rfl, o1, h1, b1⟩
  obtain ⟨g, cp, e1, _⟩ := o1.fn
  subst e1
  have h2 := h1.box #[.func (.func g) #[] cp] 224
  have b2 := below_alloc h1.le.1 (.cells #[.func (.func g) #[] cp] 224)
  have HT := hid (levelMk h2 (by have := (HS.out.pops 1).ds; omega) (by have := (HS.out.pops 1).ws; omega) (HS.out.pops 1).le (HS.out.pops 1).seen)
  have H1 := hid (And.intro o1 (HB.out.trans (b1.trans b2)))
  clear h1 h2 b1 b2 o1 HA HB
  go_wp2_with fail
  generalize w1.alloc (.cells #[.func (.func g) #[] cp] 224) = W1 at *
  refine HT.out.mono ?_
  rintro e w2 ⟨rfl, L2, hl2, h2, b2⟩
  have hd : DeedV L2 (.ret (popO k)) (.func (.func 164) #[] #[ptr w1.heap.size]) := ⟨w1.heap.size, _, rfl, hl2 _ List.mem_cons_self, H1.out.1.mono (fun t ht => hl2 _ (List.mem_cons_of_mem _ ht))⟩
  have HT2 := hid (thenM h2 _ _ _ hd (by have := level_ds (k.pops 1); have := (HS.out.pops 1).ds; omega))
  have H2 := hid (And.intro (fun t (ht : t ∈ L) => hl2 t (List.mem_cons_of_mem _ (List.mem_cons_of_mem _ (List.mem_cons_of_mem _ ht)))) (H1.out.2.trans b2))
  clear h2 b2 hl2 hd HT H1
  go_wp2_with fail
  refine HT2.out.mono ?_
  rintro e w3 ⟨rfl, h3', b3'⟩
  have h3 : MkA w3 B kb L2 (k.trn 14 a) := h3'
  have hl3 := H2.out.1
  have b3 := H2.out.2.trans b3'
  clear HT2 H2 h3' b3'
  have HT3 := hid (thenM h3 .one 165 #[] rfl (by have := trn_ds 14 a k; have := HS.out.ds; show (k.trn 14 a).ds.length ≤ _; omega))
  have H3 := hid (And.intro hl3 b3)
  clear h3 hl3 b3
  go_wp2_with fail
  refine HT3.out.mono ?_
  rintro e w4 ⟨rfl, h4, b4⟩
  obtain ⟨c2, z2, e5, HQ'⟩ := MkA.sawT (op := 14) (a := a) HS.out.seen (MkE.of H3.out.1 H3.out.2 h4 b4)
  have HQ := hid HQ'
  clear HQ' HT3 h4 b4 H3
  generalize k.turn 14 a = k' at *
  generalize (k.seen : Int) = sn at *
  go_wp2
  go_end0
  exact HQ.out

theorem turnMk {w : World} {B kb : Nat} {L : Bxs} {k : Mk} (h : MkA w B kb L k) (hs : Sml k) (op a : Int) {locals n m : Int} (hl : legalP op a locals n m = true) (ht : turnsP op = true) :
    Calls Tryz.prog 155 #[ptr kb, .agg #[.int .i64 op, .int .i64 a]] w (MkE w B kb L (k.turn op a)) := by
  have ht : op = 10 ∨ op = 11 ∨ op = 13 ∨ op = 14 := by simpa [turnsP] using ht
  rcases ht with rfl | rfl | rfl | rfl
  · exact turn_jumpMk h hs a (legal_jump hl (Or.inl rfl)).1
  · exact turn_branchMk h hs a (legal_jump hl (Or.inr rfl)).1
  · exact turn_callMk h hs a (legal_call hl rfl).1
  · exact turn_retMk h hs a
end Go.Proofs.YtkafkipjedpohaaGreatDoor

/-
  How compiled code is made: a stretch.
-/
namespace Go.Proofs.YtkafkipjedpohaaGreatDoor
open Go.RowKit

theorem settle_ws (k : Mk) : k.settle.ws = [] := by
  unfold Mk.settle
  split
  · assumption
  · rfl
theorem level_ws (k : Mk) : k.level.ws = [] := by unfold Mk.level; split <;> exact settle_ws k
theorem level_passed (k : Mk) (h : k.passed ≤ k.seen) : k.level.passed ≤ k.seen := by
  unfold Mk.level
  split
  · rw [settle_passed]; exact h
  · exact Nat.le_refl _
/-- What an instruction adds to a maker's lists. -/
theorem str_sizes (op a : Int) (k : Mk) (h : k.passed ≤ k.seen) : (k.str op a).ds.length ≤ k.ds.length + 3 ∧ (k.str op a).ws.length ≤ k.ws.length + 1 ∧ (k.str op a).passed ≤ k.seen := by
  have s1 := settle_ds (k.pops (npop op))
  have s2 := settle_ws (k.pops (npop op))
  have s3 : (k.pops (npop op)).settle.passed = k.passed := settle_passed _
  have l1 := level_ds (k.pops (npop op))
  have l2 := level_ws (k.pops (npop op))
  have l3 : (k.pops (npop op)).level.passed ≤ k.seen := level_passed (k.pops (npop op)) h
  have e1 : ∀ (q : Mk) (d : Deed), (q.then_ d).ds.length = q.ds.length + 1 ∧ (q.then_ d).ws = q.ws ∧ (q.then_ d).passed = q.passed := fun q d => ⟨by show (q.ds ++ [d]).length = _; simp, rfl, rfl⟩
  have e2 : ∀ n, (k.pops n).ds = k.ds ∧ (k.pops n).ws.length ≤ k.ws.length ∧ (k.pops n).passed = k.passed := fun n => ⟨rfl, by show (k.ws.drop n).length ≤ _; simp, rfl⟩
  have e3 : (k.pops (npop op)).ds = k.ds := rfl
  rw [e3] at s1 l1
  unfold Mk.str
  repeat' split
  · exact ⟨by show k.ds.length ≤ _; omega, by show (_ :: k.ws).length ≤ _; simp, h⟩
  · exact ⟨by show k.ds.length ≤ _; omega, by show (_ :: k.ws).length ≤ _; simp, h⟩
  · exact ⟨by show k.ds.length ≤ _; omega, by show (_ :: k.ws).length ≤ _; simp, h⟩
  · exact ⟨by show k.ds.length ≤ _; omega, by show (_ :: k.ws).length ≤ _; simp, h⟩
  · obtain ⟨a1, a2, a3⟩ := e1 (k.pops 1) (.ins op a (popOs 1 k.ws))
    obtain ⟨b1, b2, b3⟩ := e2 1
    rw [a1, a2, a3, b1, b3]
    exact ⟨by omega, by omega, h⟩
  · obtain ⟨a1, a2, a3⟩ := e1 k (.ins op a [.pop])
    rw [a1, a2, a3]
    exact ⟨by omega, by omega, h⟩
  · rename_i hw
    exact ⟨by show k.ds.length ≤ _; omega, by rw [hw]; simp; omega, h⟩
  · obtain ⟨a1, a2, a3⟩ := e1 k (.ins op a [])
    rw [a1, a2, a3]
    exact ⟨by omega, by omega, h⟩
  · rename_i hw
    exact ⟨by show k.ds.length ≤ _; omega, by rw [hw]; simp, h⟩
  · obtain ⟨a1, a2, a3⟩ := e1 (k.pops (npop op)).settle (.ins op a (popOs (npop op) k.ws))
    rw [a1, a2, a3, s2, s3]
    exact ⟨by omega, by simp, h⟩
  · obtain ⟨a1, a2, a3⟩ := e1 (k.pops (npop op)).level (.ins op a (popOs (npop op) k.ws))
    rw [a1, a2, a3, l2]
    exact ⟨by omega, by simp, l3⟩

/-- The sizes of a maker that has seen j instructions. -/
structure Szk (j : Nat) (k : Mk) : Prop where
  seen : k.seen = j
  ds : k.ds.length ≤ 3 * j
  ws : k.ws.length ≤ j
  le : k.passed ≤ k.seen
theorem Szk.straight {j : Nat} {k : Mk} (h : Szk j k) (op a : Int) : Szk (j + 1) (k.straight op a) := by
  obtain ⟨h1, h2, h3⟩ := str_sizes op a k h.le
  have hs : (k.straight op a).seen = j + 1 := by show (k.str op a).seen + 1 = _; rw [str_seen, h.seen]
  exact ⟨hs, by show (k.str op a).ds.length ≤ _; have := h.ds; omega, by show (k.str op a).ws.length ≤ _; have := h.ws; omega, by rw [hs]; show (k.str op a).passed ≤ _; have := h.seen; omega⟩
theorem Szk.sml {j : Nat} {k : Mk} (h : Szk j k) (hj : j ≤ 64) : Sml k := ⟨by have := h.ds; omega, by have := h.ws; omega, by have := h.seen; omega, h.le⟩

theorem allOfM (w : World) (p : Option Addr) (n c : Nat) : Calls Tryz.prog 157 #[.slice p n c] w fun e w' => e = .returned (.func (.func 176) #[] #[ptr w.heap.size]) ∧ w' = w.alloc (.cells #[.slice p n c] 216) := by
  have hmf : ∀ (fn : Fn) (first cap : Array Value) (w : World), (Instr.makeFunc fn first cap).run Tryz.prog w = .ok (.func fn first cap) w := fun _ _ _ _ => rfl
  go_enter Tryz.func157, Tryz.ntmps157
  go_wp2
  go_ret
  exact ⟨rfl, rfl⟩

/-- A maker's deeds become a stretch. -/
theorem MkA.finish {w : World} {B kb : Nat} {L : Bxs} {k : Mk} (h : MkA w B kb L k) : ∃ p c, w.cell? ⟨kb, 0, none⟩ = some (.slice p k.ds.length c) ∧ ∀ (w' : World) (b : Nat), Below w.heap.size w w' → B ≤ b → w'.heap[b]? = some (.cells #[.slice p k.ds.length c] 216 (0, 0)) → ∃ L', (∀ t, t ∈ L' → B ≤ t.1) ∧ Hb L' w' ∧ StrV L' k.ds (.func (.func 176) #[] #[ptr b]) := by
  obtain ⟨tg, dv, wv, D, W, h⟩ := h
  have hw := h.ds
  rcases hw with ⟨h1, h2⟩ | ⟨db, cap, cur, h1, h2, h3, h4, h5, _, _, h6⟩
  · refine ⟨none, 0, by rw [cell_heap h.blk, h1, h2]; rfl, fun w' b _ _ _ => ⟨[], fun t ht => absurd ht List.not_mem_nil, fun t ht => absurd ht List.not_mem_nil, b, rfl, Or.inl (List.eq_nil_of_length_eq_zero h2)⟩⟩
  · refine ⟨some ⟨db, 0, none⟩, cap, by rw [cell_heap h.blk, h1]; rfl, fun w' b hb hB hh => ⟨(b, #[.slice (some ⟨db, 0, none⟩) k.ds.length cap], 216) :: (db, cur, 181) :: L, fun t ht => ?_, fun t ht => ?_, b, rfl, Or.inr ⟨db, cap, cur, List.mem_cons_self, List.mem_cons_of_mem _ List.mem_cons_self, fun i hi => ⟨D i, h6 i (by omega), (h.dsv i hi).mono (fun t ht => List.mem_cons_of_mem _ (List.mem_cons_of_mem _ ht))⟩⟩⟩⟩
    · rcases List.mem_cons.1 ht with rfl | ht
      · exact hB
      · rcases List.mem_cons.1 ht with rfl | ht
        · exact h2
        · exact h.bB t ht
    · rcases List.mem_cons.1 ht with rfl | ht
      · exact hh
      · rcases List.mem_cons.1 ht with rfl | ht
        · exact (hb.block db (heap_lt h4)).trans h4
        · exact (hb.block t.1 (heap_lt (h.bx t ht).1)).trans (h.bx t ht).1

/-- A maker that has seen nothing. -/
theorem MkA.start (w : World) : MkA (w.alloc (.cells #[.slice none 0 0, .slice none 0 0, .int .i64 0, .int .i64 0] 219)) w.heap.size w.heap.size [] ⟨[], [], 0, 0⟩ :=
  ⟨fun _ => 0, .slice none 0 0, .slice none 0 0, fun _ => .nilFunc, fun _ => .nilFunc, by simp, Go.Deep.blk_alloc_new _ _, ⟨Nat.le_refl _, rfl⟩, Row.nil _ _ _ _ _ _ _, fun i hi => absurd hi (Nat.not_lt_zero _), Row.nil _ _ _ _ _ _ _, fun i hi => absurd hi (Nat.not_lt_zero _), fun t ht => absurd ht List.not_mem_nil, fun t ht => absurd ht List.not_mem_nil⟩
end Go.Proofs.YtkafkipjedpohaaGreatDoor
