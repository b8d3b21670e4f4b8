import Derived.Test.YtkafkipjedpohaaGreatDoorZ5

/-
  How compiled code is made: array.
-/
namespace Go.Proofs.YtkafkipjedpohaaGreatDoor
open Go.RowKit

set_option maxRecDepth 100000 in
set_option maxHeartbeats 1000000 in
theorem arrayNewMk {w : World} {B kb : Nat} {L : Bxs} {k : Mk} (h : MkA w B kb L k) (hs : Sml k) (a : Int) :
    Calls Tryz.prog 175 #[ptr kb, .int .i64 15] w (MkE w B kb L (k.str 15 a)) := by
  have hmf : ∀ (fn : Fn) (first cap : Array Value) (w : World), (Instr.makeFunc fn first cap).run Tryz.prog w = .ok (.func fn first cap) w := fun _ _ _ _ => rfl
  rw [str_level1 (by omega)]
  have HP := hid (takeM h (by have := hs.ws; omega))
  have HS := hid hs
  clear h hs
  go_enter Tryz.func175, Tryz.ntmps175
  go_wp2_with fail
  refine HP.out.mono ?_
  rintro e w1 ⟨v, rfl, o1, h1, b1⟩
  obtain ⟨g, cp, e1, _⟩ := o1.fn
  subst e1
  have h2 := h1.box #[.func (.func g) #[] cp] 224
  have b2 := below_alloc h1.le.1 (.cells #[.func (.func g) #[] cp] 224)
  have HT := hid (levelMk h2 (by have := (HS.out.pops 1).ds; omega) (by have := (HS.out.pops 1).ws; omega) (HS.out.pops 1).le (HS.out.pops 1).seen)
  have H1 := hid (And.intro o1 (b1.trans b2))
  clear h1 h2 b1 b2 o1 HP
  go_wp2_with fail
  generalize w1.alloc (.cells #[.func (.func g) #[] cp] 224) = W1 at *
  refine HT.out.mono ?_
  rintro e w2 ⟨rfl, L2, hl2, h2, b2⟩
  have hd : ValV L2 15 [popO k] (.func (.func 188) #[] #[ptr w1.heap.size]) :=
    Or.inr (Or.inr (Or.inr (Or.inl ⟨rfl, _, w1.heap.size, _, rfl, rfl, hl2 _ List.mem_cons_self, H1.out.1.mono (fun t ht => hl2 _ (List.mem_cons_of_mem _ ht))⟩)))
  have HT2 := hid (pushMk h2 15 a _ _ _ hd (by have := level_ds (k.pops 1); have := (HS.out.pops 1).ds; omega))
  have H2 := hid (And.intro (fun t (ht : t ∈ L) => hl2 t (List.mem_cons_of_mem _ ht)) (H1.out.2.trans b2))
  clear h2 b2 hl2 hd HT H1
  go_wp2_with fail
  refine HT2.out.mono ?_
  rintro e w3 ⟨rfl, L3, hl3, h3, b3⟩
  have HQ := hid (MkE.of (fun t ht => hl3 t (H2.out.1 t ht)) H2.out.2 h3 b3)
  clear h3 b3 HT2 H2 hl3
  go_wp2
  go_end0
  exact HQ.out

set_option maxRecDepth 100000 in
set_option maxHeartbeats 1000000 in
theorem arrayLenMk {w : World} {B kb : Nat} {L : Bxs} {k : Mk} (h : MkA w B kb L k) (hs : Sml k) (a : Int) :
    Calls Tryz.prog 175 #[ptr kb, .int .i64 18] w (MkE w B kb L (k.str 18 a)) := by
  have hmf : ∀ (fn : Fn) (first cap : Array Value) (w : World), (Instr.makeFunc fn first cap).run Tryz.prog w = .ok (.func fn first cap) w := fun _ _ _ _ => rfl
  rw [str_level1 (by omega)]
  have HP := hid (takeM h (by have := hs.ws; omega))
  have HS := hid hs
  clear h hs
  go_enter Tryz.func175, Tryz.ntmps175
  go_wp2_with fail
  refine HP.out.mono ?_
  rintro e w1 ⟨v, rfl, o1, h1, b1⟩
  obtain ⟨g, cp, e1, _⟩ := o1.fn
  subst e1
  have h2 := h1.box #[.func (.func g) #[] cp] 224
  have b2 := below_alloc h1.le.1 (.cells #[.func (.func g) #[] cp] 224)
  have HT := hid (levelMk h2 (by have := (HS.out.pops 1).ds; omega) (by have := (HS.out.pops 1).ws; omega) (HS.out.pops 1).le (HS.out.pops 1).seen)
  have H1 := hid (And.intro o1 (b1.trans b2))
  clear h1 h2 b1 b2 o1 HP
  go_wp2_with fail
  generalize w1.alloc (.cells #[.func (.func g) #[] cp] 224) = W1 at *
  refine HT.out.mono ?_
  rintro e w2 ⟨rfl, L2, hl2, h2, b2⟩
  have hd : ValV L2 18 [popO k] (.func (.func 189) #[] #[ptr w1.heap.size]) :=
    Or.inr (Or.inr (Or.inr (Or.inr (Or.inl ⟨rfl, _, w1.heap.size, _, rfl, rfl, hl2 _ List.mem_cons_self, H1.out.1.mono (fun t ht => hl2 _ (List.mem_cons_of_mem _ ht))⟩))))
  have HT2 := hid (pushMk h2 18 a _ _ _ hd (by have := level_ds (k.pops 1); have := (HS.out.pops 1).ds; omega))
  have H2 := hid (And.intro (fun t (ht : t ∈ L) => hl2 t (List.mem_cons_of_mem _ ht)) (H1.out.2.trans b2))
  clear h2 b2 hl2 hd HT H1
  go_wp2_with fail
  refine HT2.out.mono ?_
  rintro e w3 ⟨rfl, L3, hl3, h3, b3⟩
  have HQ := hid (MkE.of (fun t ht => hl3 t (H2.out.1 t ht)) H2.out.2 h3 b3)
  clear h3 b3 HT2 H2 hl3
  go_wp2
  go_end0
  exact HQ.out

set_option maxRecDepth 100000 in
set_option maxHeartbeats 1000000 in
theorem arrayGetMk {w : World} {B kb : Nat} {L : Bxs} {k : Mk} (h : MkA w B kb L k) (hs : Sml k) (a : Int) :
    Calls Tryz.prog 175 #[ptr kb, .int .i64 16] w (MkE w B kb L (k.str 16 a)) := by
  have hmf : ∀ (fn : Fn) (first cap : Array Value) (w : World), (Instr.makeFunc fn first cap).run Tryz.prog w = .ok (.func fn first cap) w := fun _ _ _ _ => rfl
  rw [str_level2 (by omega)]
  have HP := hid (takeTwoM h (by have := hs.ws; omega))
  have HS := hid hs
  clear h hs
  go_enter Tryz.func175, Tryz.ntmps175
  go_wp2_with fail
  refine HP.out.mono ?_
  rintro e w1 ⟨v, L1, rfl, hl1, o1, h1, b1⟩
  rw [pops_pops] at h1
  obtain ⟨g, cp, e1, _⟩ := o1.fn
  subst e1
  have h2 := h1.box #[.func (.func g) #[] cp] 230
  have b2 := below_alloc h1.le.1 (.cells #[.func (.func g) #[] cp] 230)
  have HT := hid (levelMk h2 (by have := (HS.out.pops 2).ds; omega) (by have := (HS.out.pops 2).ws; omega) (HS.out.pops 2).le (HS.out.pops 2).seen)
  have H1 := hid (And.intro o1 (And.intro hl1 (b1.trans b2)))
  clear h1 h2 b1 b2 o1 hl1 HP
  go_wp2_with fail
  generalize w1.alloc (.cells #[.func (.func g) #[] cp] 230) = W1 at *
  refine HT.out.mono ?_
  rintro e w2 ⟨rfl, L2, hl2, h2, b2⟩
  have hd : ValV L2 16 [popO k, popO (k.pops 1)] (.func (.func 190) #[] #[ptr w1.heap.size]) :=
    Or.inr (Or.inr (Or.inr (Or.inr (Or.inr ⟨rfl, _, _, w1.heap.size, _, rfl, rfl, hl2 _ List.mem_cons_self, H1.out.1.mono (fun t ht => hl2 _ (List.mem_cons_of_mem _ ht))⟩))))
  have HT2 := hid (pushMk h2 16 a _ _ _ hd (by have := level_ds (k.pops 2); have := (HS.out.pops 2).ds; omega))
  have H2 := hid (And.intro (fun t (ht : t ∈ L) => hl2 t (List.mem_cons_of_mem _ (H1.out.2.1 t ht))) (H1.out.2.2.trans b2))
  clear h2 b2 hl2 hd HT H1
  go_wp2_with fail
  refine HT2.out.mono ?_
  rintro e w3 ⟨rfl, L3, hl3, h3, b3⟩
  have HQ := hid (MkE.of (fun t ht => hl3 t (H2.out.1 t ht)) H2.out.2 h3 b3)
  clear h3 b3 HT2 H2 hl3
  go_wp2
  go_end0
  exact HQ.out

set_option maxRecDepth 100000 in
set_option maxHeartbeats 1000000 in
theorem arraySetMk {w : World} {B kb : Nat} {L : Bxs} {k : Mk} (h : MkA w B kb L k) (hs : Sml k) (a : Int) :
    Calls Tryz.prog 175 #[ptr kb, .int .i64 17] w (MkE w B kb L (k.str 17 a)) := by
  have hmf : ∀ (fn : Fn) (first cap : Array Value) (w : World), (Instr.makeFunc fn first cap).run Tryz.prog w = .ok (.func fn first cap) w := fun _ _ _ _ => rfl
  rw [str_level3]
  have HP := hid (takeM h (by have := hs.ws; omega))
  have HS := hid hs
  clear h hs
  go_enter Tryz.func175, Tryz.ntmps175
  go_wp2_with fail
  refine HP.out.mono ?_
  rintro e w1 ⟨v, rfl, o1, h1, b1⟩
  obtain ⟨g, cp, e1, _⟩ := o1.fn
  subst e1
  have HP2 := hid (takeTwoM h1 (by have := (HS.out.pops 1).ws; omega))
  have H1 := hid (And.intro o1 b1)
  clear h1 b1 o1 HP
  go_wp2_with fail
  refine HP2.out.mono ?_
  rintro e w2 ⟨v2, L2, rfl, hl2, o2, h2, b2⟩
  rw [pops_three] at h2
  rw [pops_pops] at o2
  obtain ⟨g2, cp2, e2, _⟩ := o2.fn
  subst e2
  have h3 := h2.two #[.func (.func g) #[] cp] #[.func (.func g2) #[] cp2] 224 230
  have b3 := ((below_alloc h2.le.1 (.cells #[.func (.func g) #[] cp] 224)).trans (below_alloc (w := w2.alloc (.cells #[.func (.func g) #[] cp] 224)) (by have := h2.le.1; simp; omega) (.cells #[.func (.func g2) #[] cp2] 230)))
  have HT := hid (levelMk h3 (by have := (HS.out.pops 3).ds; omega) (by have := (HS.out.pops 3).ws; omega) (HS.out.pops 3).le (HS.out.pops 3).seen)
  have H2 := hid (And.intro o2 (And.intro hl2 ((H1.out.2.trans b2).trans b3)))
  clear h2 h3 b2 b3 o2 hl2 HP2
  go_wp2_with fail
  generalize (w2.alloc (.cells #[.func (.func g) #[] cp] 224)).alloc (.cells #[.func (.func g2) #[] cp2] 230) = W2 at *
  refine HT.out.mono ?_
  rintro e w3 ⟨rfl, L3, hl3, h3, b3⟩
  have hd : DeedV L3 (.ins 17 a [popO k, popO (k.pops 1), popO (k.pops 2)]) (.func (.func 191) #[] #[ptr w2.heap.size, ptr (w2.heap.size + 1)]) :=
    Or.inr (Or.inr (Or.inr (Or.inr ⟨rfl, _, _, _, w2.heap.size, w2.heap.size + 1, _, _, rfl, rfl, hl3 _ (List.mem_cons_of_mem _ List.mem_cons_self), hl3 _ List.mem_cons_self, H1.out.1.mono (fun t ht => hl3 _ (List.mem_cons_of_mem _ (List.mem_cons_of_mem _ (H2.out.2.1 t ht)))), H2.out.1.mono (fun t ht => hl3 _ (List.mem_cons_of_mem _ (List.mem_cons_of_mem _ ht)))⟩)))
  have HT2 := hid (thenM h3 _ _ _ hd (by have := level_ds (k.pops 3); have := (HS.out.pops 3).ds; omega))
  have H3 := hid (And.intro (fun t (ht : t ∈ L) => hl3 t (List.mem_cons_of_mem _ (List.mem_cons_of_mem _ (H2.out.2.1 t ht)))) (H2.out.2.2.trans b3))
  clear h3 b3 hl3 hd HT H1 H2
  go_wp2_with fail
  refine HT2.out.mono ?_
  rintro e w4 ⟨rfl, h4, b4⟩
  have HQ := hid (MkE.of H3.out.1 H3.out.2 h4 b4)
  clear h4 b4 HT2 H3
  go_wp2
  go_end0
  exact HQ.out
end Go.Proofs.YtkafkipjedpohaaGreatDoor

/-
  How compiled code is made: straight.
-/
namespace Go.Proofs.YtkafkipjedpohaaGreatDoor
open Go.RowKit

/-- One instruction more is seen. -/
theorem MkA.saw {w w2 : World} {B kb : Nat} {L : Bxs} {k : Mk} {op a : Int} (hs : k.seen ≤ 1000) (h : MkE w B kb L (k.str op a) (.returned (.tuple #[])) w2) :
    w2.cell? ⟨kb, 2, none⟩ = some (.int .i64 k.seen) ∧ w2.frozen? ⟨kb, 2, none⟩ = false ∧ wrap64 ((k.seen : Int) + 1) = (k.seen : Int) + 1 ∧ MkE w B kb L (k.straight op a) (.returned (.tuple #[])) (w2.setCell ⟨kb, 2, none⟩ (.int .i64 ((k.seen : Int) + 1))) := by
  obtain ⟨_, L', hl, hA, hb⟩ := h
  obtain ⟨c2, _, z2, _⟩ := hA.counts
  rw [str_seen] at c2
  obtain ⟨hA2, hb2⟩ := hA.count 2 (k.seen + 1) (by omega)
  have e : ((k.seen + 1 : Nat) : Int) = (k.seen : Int) + 1 := by omega
  rw [e] at hA2 hb2
  refine ⟨c2, z2, by unfold wrap64; omega, rfl, L', hl, ?_, hb.trans hb2⟩
  have hk : k.straight op a = { k.str op a with seen := if 2 = 2 then k.seen + 1 else (k.str op a).seen, passed := if 2 = 3 then k.seen + 1 else (k.str op a).passed } := by
    unfold Mk.straight
    rw [str_seen]
    rfl
  rw [hk]
  exact hA2
theorem mke_widen {w W w2 : World} {B kb : Nat} {L L1 : Bxs} {k' : Mk} (hl : ∀ t, t ∈ L → t ∈ L1) (hb : Below B w W) (h : MkE W B kb L1 k' (.returned (.tuple #[])) w2) : MkE w B kb L k' (.returned (.tuple #[])) w2 := by
  obtain ⟨_, L', h1, h2, h3⟩ := h
  exact ⟨rfl, L', fun t ht => h1 t (hl t ht), h2, hb.trans h3⟩

set_option maxRecDepth 100000 in
set_option maxHeartbeats 1000000 in
theorem straight_drop {w : World} {B kb : Nat} {L : Bxs} {k : Mk} (h : MkA w B kb L k) (hs : Sml k) (a : Int) :
    Calls Tryz.prog 156 #[ptr kb, .agg #[.int .i64 20, .int .i64 a]] w (MkE w B kb L (k.straight 20 a)) := by
  have hmf : ∀ (fn : Fn) (first cap : Array Value) (w : World), (Instr.makeFunc fn first cap).run Tryz.prog w = .ok (.func fn first cap) w := fun _ _ _ _ => rfl
  have hA := h.box #[.int .i64 20, .int .i64 a] 33
  have HB := hid (below_alloc h.le.1 (.cells #[.int .i64 20, .int .i64 a] 33))
  have HS := hid hs
  have HA := hid hA
  have hkz := h.le.2.1
  clear h hs hA
  go_enter Tryz.func156, Tryz.ntmps156
  go_wp2_with fail
  refine (dropMk HA.out HS.out a).mono ?_
  rintro e w2 h2
  obtain rfl := h2.1
  have HR := hid (mke_widen (mem_cons_sub _) HB.out h2)
  clear h2 HA
  obtain ⟨c2, z2, e5, HQ'⟩ := MkA.saw HS.out.seen HR.out
  have HQ := hid HQ'
  clear HQ' HR
  generalize k.straight 20 a = k' at *
  generalize (k.seen : Int) = sn at *
  go_wp2
  go_end0
  exact HQ.out

set_option maxRecDepth 100000 in
set_option maxHeartbeats 1000000 in
theorem straight_dup {w : World} {B kb : Nat} {L : Bxs} {k : Mk} (h : MkA w B kb L k) (hs : Sml k) (a : Int) :
    Calls Tryz.prog 156 #[ptr kb, .agg #[.int .i64 21, .int .i64 a]] w (MkE w B kb L (k.straight 21 a)) := by
  have hmf : ∀ (fn : Fn) (first cap : Array Value) (w : World), (Instr.makeFunc fn first cap).run Tryz.prog w = .ok (.func fn first cap) w := fun _ _ _ _ => rfl
  have hA := h.box #[.int .i64 21, .int .i64 a] 33
  have HB := hid (below_alloc h.le.1 (.cells #[.int .i64 21, .int .i64 a] 33))
  have HS := hid hs
  have HA := hid hA
  have hkz := h.le.2.1
  clear h hs hA
  go_enter Tryz.func156, Tryz.ntmps156
  go_wp2_with fail
  refine (dupMk HA.out HS.out a).mono ?_
  rintro e w2 h2
  obtain rfl := h2.1
  have HR := hid (mke_widen (mem_cons_sub _) HB.out h2)
  clear h2 HA
  obtain ⟨c2, z2, e5, HQ'⟩ := MkA.saw HS.out.seen HR.out
  have HQ := hid HQ'
  clear HQ' HR
  generalize k.straight 21 a = k' at *
  generalize (k.seen : Int) = sn at *
  go_wp2
  go_end0
  exact HQ.out

set_option maxRecDepth 100000 in
set_option maxHeartbeats 1000000 in
theorem straight_equal {w : World} {B kb : Nat} {L : Bxs} {k : Mk} (h : MkA w B kb L k) (hs : Sml k) (a : Int) :
    Calls Tryz.prog 156 #[ptr kb, .agg #[.int .i64 9, .int .i64 a]] w (MkE w B kb L (k.straight 9 a)) := by
  have hmf : ∀ (fn : Fn) (first cap : Array Value) (w : World), (Instr.makeFunc fn first cap).run Tryz.prog w = .ok (.func fn first cap) w := fun _ _ _ _ => rfl
  have hA := h.box #[.int .i64 9, .int .i64 a] 33
  have HB := hid (below_alloc h.le.1 (.cells #[.int .i64 9, .int .i64 a] 33))
  have HS := hid hs
  have HA := hid hA
  have hkz := h.le.2.1
  clear h hs hA
  go_enter Tryz.func156, Tryz.ntmps156
  go_wp2_with fail
  refine (equalMk HA.out HS.out a).mono ?_
  rintro e w2 h2
  obtain rfl := h2.1
  have HR := hid (mke_widen (mem_cons_sub _) HB.out h2)
  clear h2 HA
  obtain ⟨c2, z2, e5, HQ'⟩ := MkA.saw HS.out.seen HR.out
  have HQ := hid HQ'
  clear HQ' HR
  generalize k.straight 9 a = k' at *
  generalize (k.seen : Int) = sn at *
  go_wp2
  go_end0
  exact HQ.out

set_option maxRecDepth 100000 in
set_option maxHeartbeats 1000000 in
theorem straight_store {w : World} {B kb : Nat} {L : Bxs} {k : Mk} (h : MkA w B kb L k) (hs : Sml k) (a : Int) :
    Calls Tryz.prog 156 #[ptr kb, .agg #[.int .i64 3, .int .i64 a]] w (MkE w B kb L (k.straight 3 a)) := by
  have hmf : ∀ (fn : Fn) (first cap : Array Value) (w : World), (Instr.makeFunc fn first cap).run Tryz.prog w = .ok (.func fn first cap) w := fun _ _ _ _ => rfl
  have hA := h.box #[.int .i64 3, .int .i64 a] 33
  have HB := hid (below_alloc h.le.1 (.cells #[.int .i64 3, .int .i64 a] 33))
  have HS := hid hs
  have HA := hid hA
  have hkz := h.le.2.1
  clear h hs hA
  go_enter Tryz.func156, Tryz.ntmps156
  go_wp2_with fail
  refine (storeMk HA.out HS.out a).mono ?_
  rintro e w2 h2
  obtain rfl := h2.1
  have HR := hid (mke_widen (mem_cons_sub _) HB.out h2)
  clear h2 HA
  obtain ⟨c2, z2, e5, HQ'⟩ := MkA.saw HS.out.seen HR.out
  have HQ := hid HQ'
  clear HQ' HR
  generalize k.straight 3 a = k' at *
  generalize (k.seen : Int) = sn at *
  go_wp2
  go_end0
  exact HQ.out

set_option maxRecDepth 100000 in
set_option maxHeartbeats 1000000 in
theorem straight_new {w : World} {B kb : Nat} {L : Bxs} {k : Mk} (h : MkA w B kb L k) (hs : Sml k) (a : Int) :
    Calls Tryz.prog 156 #[ptr kb, .agg #[.int .i64 15, .int .i64 a]] w (MkE w B kb L (k.straight 15 a)) := by
  have hmf : ∀ (fn : Fn) (first cap : Array Value) (w : World), (Instr.makeFunc fn first cap).run Tryz.prog w = .ok (.func fn first cap) w := fun _ _ _ _ => rfl
  have hA := h.box #[.int .i64 15, .int .i64 a] 33
  have HB := hid (below_alloc h.le.1 (.cells #[.int .i64 15, .int .i64 a] 33))
  have HS := hid hs
  have HA := hid hA
  have hkz := h.le.2.1
  clear h hs hA
  go_enter Tryz.func156, Tryz.ntmps156
  go_wp2_with fail
  refine (arrayNewMk HA.out HS.out a).mono ?_
  rintro e w2 h2
  obtain rfl := h2.1
  have HR := hid (mke_widen (mem_cons_sub _) HB.out h2)
  clear h2 HA
  obtain ⟨c2, z2, e5, HQ'⟩ := MkA.saw HS.out.seen HR.out
  have HQ := hid HQ'
  clear HQ' HR
  generalize k.straight 15 a = k' at *
  generalize (k.seen : Int) = sn at *
  go_wp2
  go_end0
  exact HQ.out

set_option maxRecDepth 100000 in
set_option maxHeartbeats 1000000 in
theorem straight_len {w : World} {B kb : Nat} {L : Bxs} {k : Mk} (h : MkA w B kb L k) (hs : Sml k) (a : Int) :
    Calls Tryz.prog 156 #[ptr kb, .agg #[.int .i64 18, .int .i64 a]] w (MkE w B kb L (k.straight 18 a)) := by
  have hmf : ∀ (fn : Fn) (first cap : Array Value) (w : World), (Instr.makeFunc fn first cap).run Tryz.prog w = .ok (.func fn first cap) w := fun _ _ _ _ => rfl
  have hA := h.box #[.int .i64 18, .int .i64 a] 33
  have HB := hid (below_alloc h.le.1 (.cells #[.int .i64 18, .int .i64 a] 33))
  have HS := hid hs
  have HA := hid hA
  have hkz := h.le.2.1
  clear h hs hA
  go_enter Tryz.func156, Tryz.ntmps156
  go_wp2_with fail
  refine (arrayLenMk HA.out HS.out a).mono ?_
  rintro e w2 h2
  obtain rfl := h2.1
  have HR := hid (mke_widen (mem_cons_sub _) HB.out h2)
  clear h2 HA
  obtain ⟨c2, z2, e5, HQ'⟩ := MkA.saw HS.out.seen HR.out
  have HQ := hid HQ'
  clear HQ' HR
  generalize k.straight 18 a = k' at *
  generalize (k.seen : Int) = sn at *
  go_wp2
  go_end0
  exact HQ.out

set_option maxRecDepth 100000 in
set_option maxHeartbeats 1000000 in
theorem straight_get {w : World} {B kb : Nat} {L : Bxs} {k : Mk} (h : MkA w B kb L k) (hs : Sml k) (a : Int) :
    Calls Tryz.prog 156 #[ptr kb, .agg #[.int .i64 16, .int .i64 a]] w (MkE w B kb L (k.straight 16 a)) := by
  have hmf : ∀ (fn : Fn) (first cap : Array Value) (w : World), (Instr.makeFunc fn first cap).run Tryz.prog w = .ok (.func fn first cap) w := fun _ _ _ _ => rfl
  have hA := h.box #[.int .i64 16, .int .i64 a] 33
  have HB := hid (below_alloc h.le.1 (.cells #[.int .i64 16, .int .i64 a] 33))
  have HS := hid hs
  have HA := hid hA
  have hkz := h.le.2.1
  clear h hs hA
  go_enter Tryz.func156, Tryz.ntmps156
  go_wp2_with fail
  refine (arrayGetMk HA.out HS.out a).mono ?_
  rintro e w2 h2
  obtain rfl := h2.1
  have HR := hid (mke_widen (mem_cons_sub _) HB.out h2)
  clear h2 HA
  obtain ⟨c2, z2, e5, HQ'⟩ := MkA.saw HS.out.seen HR.out
  have HQ := hid HQ'
  clear HQ' HR
  generalize k.straight 16 a = k' at *
  generalize (k.seen : Int) = sn at *
  go_wp2
  go_end0
  exact HQ.out

set_option maxRecDepth 100000 in
set_option maxHeartbeats 1000000 in
theorem straight_set {w : World} {B kb : Nat} {L : Bxs} {k : Mk} (h : MkA w B kb L k) (hs : Sml k) (a : Int) :
    Calls Tryz.prog 156 #[ptr kb, .agg #[.int .i64 17, .int .i64 a]] w (MkE w B kb L (k.straight 17 a)) := by
  have hmf : ∀ (fn : Fn) (first cap : Array Value) (w : World), (Instr.makeFunc fn first cap).run Tryz.prog w = .ok (.func fn first cap) w := fun _ _ _ _ => rfl
  have hA := h.box #[.int .i64 17, .int .i64 a] 33
  have HB := hid (below_alloc h.le.1 (.cells #[.int .i64 17, .int .i64 a] 33))
  have HS := hid hs
  have HA := hid hA
  have hkz := h.le.2.1
  clear h hs hA
  go_enter Tryz.func156, Tryz.ntmps156
  go_wp2_with fail
  refine (arraySetMk HA.out HS.out a).mono ?_
  rintro e w2 h2
  obtain rfl := h2.1
  have HR := hid (mke_widen (mem_cons_sub _) HB.out h2)
  clear h2 HA
  obtain ⟨c2, z2, e5, HQ'⟩ := MkA.saw HS.out.seen HR.out
  have HQ := hid HQ'
  clear HQ' HR
  generalize k.straight 17 a = k' at *
  generalize (k.seen : Int) = sn at *
  go_wp2
  go_end0
  exact HQ.out

set_option maxRecDepth 100000 in
set_option maxHeartbeats 1000000 in
theorem straight_const {w : World} {B kb : Nat} {L : Bxs} {k : Mk} (h : MkA w B kb L k) (hs : Sml k) (a : Int) :
    Calls Tryz.prog 156 #[ptr kb, .agg #[.int .i64 0, .int .i64 a]] w (MkE w B kb L (k.straight 0 a)) := by
  have hmf : ∀ (fn : Fn) (first cap : Array Value) (w : World), (Instr.makeFunc fn first cap).run Tryz.prog w = .ok (.func fn first cap) w := fun _ _ _ _ => rfl
  have hA := h.box #[.int .i64 0, .int .i64 a] 33
  have HB := hid (below_alloc h.le.1 (.cells #[.int .i64 0, .int .i64 a] 33))
  have HS := hid hs
  have HA := hid hA
  have hkz := h.le.2.1
  clear h hs hA
  go_enter Tryz.func156, Tryz.ntmps156
  go_wp2_with fail
  refine (numberB a _).mono ?_
  rintro e w1 ⟨rfl, b1⟩
  have hA1 := HA.out.below b1
  have HT := hid (waitForM hA1 (vnum a : V) (by have := HS.out.ws; omega))
  have HB1 := hid (HB.out.trans (b1.mono HA.out.le.1))
  clear hA1 b1
  go_wp2_with fail
  refine HT.out.mono ?_
  rintro e w2 h2
  obtain rfl := h2.1
  have HR := hid (mke_widen (mem_cons_sub _) HB1.out h2)
  have HR : Hid (MkE w B kb L (k.str 0 a) (.returned (.tuple #[])) w2) := HR
  clear h2 HA HT
  obtain ⟨c2, z2, e5, HQ'⟩ := MkA.saw HS.out.seen HR.out
  have HQ := hid HQ'
  clear HQ' HR
  generalize k.straight 0 a = k' at *
  generalize (k.seen : Int) = sn at *
  go_wp2
  go_end0
  exact HQ.out

set_option maxRecDepth 100000 in
set_option maxHeartbeats 1000000 in
theorem straight_fun {w : World} {B kb : Nat} {L : Bxs} {k : Mk} (h : MkA w B kb L k) (hs : Sml k) (a : Int) :
    Calls Tryz.prog 156 #[ptr kb, .agg #[.int .i64 12, .int .i64 a]] w (MkE w B kb L (k.straight 12 a)) := by
  have hmf : ∀ (fn : Fn) (first cap : Array Value) (w : World), (Instr.makeFunc fn first cap).run Tryz.prog w = .ok (.func fn first cap) w := fun _ _ _ _ => rfl
  have hA := h.box #[.int .i64 12, .int .i64 a] 33
  have HB := hid (below_alloc h.le.1 (.cells #[.int .i64 12, .int .i64 a] 33))
  have HS := hid hs
  have HA := hid hA
  have hkz := h.le.2.1
  clear h hs hA
  go_enter Tryz.func156, Tryz.ntmps156
  go_wp2_with fail
  refine (functionB a _).mono ?_
  rintro e w1 ⟨rfl, b1⟩
  have hA1 := HA.out.below b1
  have HT := hid (waitForM hA1 (⟨3, a⟩ : V) (by have := HS.out.ws; omega))
  have HB1 := hid (HB.out.trans (b1.mono HA.out.le.1))
  clear hA1 b1
  go_wp2_with fail
  refine HT.out.mono ?_
  rintro e w2 h2
  obtain rfl := h2.1
  have HR := hid (mke_widen (mem_cons_sub _) HB1.out h2)
  have HR : Hid (MkE w B kb L (k.str 12 a) (.returned (.tuple #[])) w2) := HR
  clear h2 HA HT
  obtain ⟨c2, z2, e5, HQ'⟩ := MkA.saw HS.out.seen HR.out
  have HQ := hid HQ'
  clear HQ' HR
  generalize k.straight 12 a = k' at *
  generalize (k.seen : Int) = sn at *
  go_wp2
  go_end0
  exact HQ.out

set_option maxRecDepth 100000 in
set_option maxHeartbeats 1000000 in
theorem straight_nil {w : World} {B kb : Nat} {L : Bxs} {k : Mk} (h : MkA w B kb L k) (hs : Sml k) (a : Int) :
    Calls Tryz.prog 156 #[ptr kb, .agg #[.int .i64 1, .int .i64 a]] w (MkE w B kb L (k.straight 1 a)) := by
  have hmf : ∀ (fn : Fn) (first cap : Array Value) (w : World), (Instr.makeFunc fn first cap).run Tryz.prog w = .ok (.func fn first cap) w := fun _ _ _ _ => rfl
  have hA := h.box #[.int .i64 1, .int .i64 a] 33
  have HB := hid (below_alloc h.le.1 (.cells #[.int .i64 1, .int .i64 a] 33))
  have HS := hid hs
  have HA := hid hA
  have hkz := h.le.2.1
  clear h hs hA
  go_enter Tryz.func156, Tryz.ntmps156
  go_wp2_with fail
  refine (waitForM HA.out vnil (by have := HS.out.ws; omega)).mono ?_
  rintro e w2 h2
  obtain rfl := h2.1
  have HR := hid (mke_widen (mem_cons_sub _) HB.out h2)
  have HR : Hid (MkE w B kb L (k.str 1 a) (.returned (.tuple #[])) w2) := HR
  clear h2 HA
  obtain ⟨c2, z2, e5, HQ'⟩ := MkA.saw HS.out.seen HR.out
  have HQ := hid HQ'
  clear HQ' HR
  generalize k.straight 1 a = k' at *
  generalize (k.seen : Int) = sn at *
  go_wp2
  go_end0
  exact HQ.out

set_option maxRecDepth 100000 in
set_option maxHeartbeats 1000000 in
theorem straight_load {w : World} {B kb : Nat} {L : Bxs} {k : Mk} (h : MkA w B kb L k) (hs : Sml k) (a : Int) (ha : 0 ≤ a) :
    Calls Tryz.prog 156 #[ptr kb, .agg #[.int .i64 2, .int .i64 a]] w (MkE w B kb L (k.straight 2 a)) := by
  have hmf : ∀ (fn : Fn) (first cap : Array Value) (w : World), (Instr.makeFunc fn first cap).run Tryz.prog w = .ok (.func fn first cap) w := fun _ _ _ _ => rfl
  have hA := h.box #[.int .i64 2, .int .i64 a] 33
  have HB := hid (below_alloc h.le.1 (.cells #[.int .i64 2, .int .i64 a] 33))
  have HS := hid hs
  have HA := hid hA
  have hkz := h.le.2.1
  clear h hs hA
  go_enter Tryz.func156, Tryz.ntmps156
  have hov : OpdV ((w.heap.size, #[.int .i64 2, .int .i64 a], 33) :: L) (.loc a.toNat) (.func (.func 168) #[] #[ptr w.heap.size]) := ⟨w.heap.size, 2, rfl, by rw [show ((a.toNat : Nat) : Int) = a from Int.toNat_of_nonneg ha]; exact List.mem_cons_self⟩
  have HO := hid hov
  clear hov
  go_wp2_with fail
  refine (waitM HA.out (.loc a.toNat) _ _ HO.out (by have := HS.out.ws; omega)).mono ?_
  rintro e w2 ⟨rfl, h2, b2⟩
  have HR := hid (MkE.of (mem_cons_sub _) HB.out h2 b2)
  have HR : Hid (MkE w B kb L (k.str 2 a) (.returned (.tuple #[])) w2) := HR
  clear h2 b2 HA
  obtain ⟨c2, z2, e5, HQ'⟩ := MkA.saw HS.out.seen HR.out
  have HQ := hid HQ'
  clear HQ' HR
  generalize k.straight 2 a = k' at *
  generalize (k.seen : Int) = sn at *
  go_wp2
  go_end0
  exact HQ.out

set_option maxRecDepth 100000 in
set_option maxHeartbeats 1000000 in
theorem straight_print {w : World} {B kb : Nat} {L : Bxs} {k : Mk} (h : MkA w B kb L k) (hs : Sml k) (a : Int) :
    Calls Tryz.prog 156 #[ptr kb, .agg #[.int .i64 19, .int .i64 a]] w (MkE w B kb L (k.straight 19 a)) := by
  have hmf : ∀ (fn : Fn) (first cap : Array Value) (w : World), (Instr.makeFunc fn first cap).run Tryz.prog w = .ok (.func fn first cap) w := fun _ _ _ _ => rfl
  have hA := h.box #[.int .i64 19, .int .i64 a] 33
  have HB := hid (below_alloc h.le.1 (.cells #[.int .i64 19, .int .i64 a] 33))
  have HS := hid hs
  have HA := hid hA
  have hkz := h.le.2.1
  clear h hs hA
  go_enter Tryz.func156, Tryz.ntmps156
  go_wp2_with fail
  refine (takeM HA.out (by have := HS.out.ws; omega)).mono ?_
  rintro e w1 ⟨v, rfl, o1, h1, b1⟩
  obtain ⟨g, cp, e1, _⟩ := o1.fn
  subst e1
  have h2 := h1.box #[.func (.func g) #[] cp] 224
  have b2 := below_alloc h1.le.1 (.cells #[.func (.func g) #[] cp] 224)
  have hd : DeedV ((w1.heap.size, #[.func (.func g) #[] cp], 224) :: (w.heap.size, #[.int .i64 19, .int .i64 a], 33) :: L) (.ins 19 a [popO k]) (.func (.func 170) #[] #[ptr w1.heap.size]) := Or.inr (Or.inr (Or.inl ⟨rfl, _, w1.heap.size, _, rfl, rfl, List.mem_cons_self, o1.mono (mem_cons_sub _)⟩))
  have HT := hid (thenM h2 _ _ _ hd (by have := (HS.out.pops 1).ds; omega))
  have HB1 := hid (HB.out.trans (b1.trans b2))
  clear h1 h2 b1 b2 hd o1 HA
  go_wp2_with fail
  generalize w1.alloc (.cells #[.func (.func g) #[] cp] 224) = W1 at *
  refine HT.out.mono ?_
  rintro e w2 ⟨rfl, h2, b2⟩
  have HR := hid (show MkE w B kb L (k.str 19 a) (.returned (.tuple #[])) w2 from by rw [str_print']; exact MkE.of (fun t ht => List.mem_cons_of_mem _ (List.mem_cons_of_mem _ ht)) HB1.out h2 b2)
  clear h2 b2 HT
  obtain ⟨c2, z2, e5, HQ'⟩ := MkA.saw HS.out.seen HR.out
  have HQ := hid HQ'
  clear HQ' HR
  generalize k.straight 19 a = k' at *
  generalize (k.seen : Int) = sn at *
  go_wp2
  go_end0
  exact HQ.out

set_option maxRecDepth 100000 in
set_option maxHeartbeats 1000000 in
theorem straight_reckon {w : World} {B kb : Nat} {L : Bxs} {k : Mk} (h : MkA w B kb L k) (hs : Sml k) (op a : Int) (hop : op = 4 ∨ op = 5 ∨ op = 6 ∨ op = 7 ∨ op = 8) :
    Calls Tryz.prog 156 #[ptr kb, .agg #[.int .i64 op, .int .i64 a]] w (MkE w B kb L (k.straight op a)) := by
  have hmf : ∀ (fn : Fn) (first cap : Array Value) (w : World), (Instr.makeFunc fn first cap).run Tryz.prog w = .ok (.func fn first cap) w := fun _ _ _ _ => rfl
  have hA := h.box #[.int .i64 op, .int .i64 a] 33
  have HB := hid (below_alloc h.le.1 (.cells #[.int .i64 op, .int .i64 a] 33))
  have HS := hid hs
  have HA := hid hA
  have HO := hid hop
  have hkz := h.le.2.1
  have ho : ((op == 0) = false ∧ (op == 1) = false ∧ (op == 12) = false ∧ (op == 2) = false ∧ (op == 3) = false ∧ (op == 19) = false ∧ (op == 20) = false ∧ (op == 21) = false ∧ (op == 9) = false) ∧ ((op == 4) = true ∨ ((op == 4) = false ∧ (op == 5) = true) ∨ ((op == 4) = false ∧ (op == 5) = false ∧ (op == 6) = true) ∨ ((op == 4) = false ∧ (op == 5) = false ∧ (op == 6) = false ∧ (op == 7) = true) ∨ ((op == 4) = false ∧ (op == 5) = false ∧ (op == 6) = false ∧ (op == 7) = false ∧ (op == 8) = true)) := by
    rcases hop with rfl | rfl | rfl | rfl | rfl <;> decide
  clear h hs hA hop
  obtain ⟨⟨o0, o1, o2, o3, o4, p0, p1, p2, p3⟩, o5⟩ := ho
  go_enter Tryz.func156, Tryz.ntmps156
  rcases o5 with o5 | ⟨o5, o6⟩ | ⟨o5, o6, o7⟩ | ⟨o5, o6, o7, o8⟩ | ⟨o5, o6, o7, o8, o9⟩
  all_goals
    go_wp2_with fail
    refine (ruleM op HO.out _).mono ?_
    rintro e w1 ⟨rfl, hw1⟩
    rw [hw1]
    clear hw1 w1
    have HT := hid (reckonMk HA.out HS.out op a HO.out)
    generalize ruleP op = rf at *
    go_wp2_with fail
    refine HT.out.mono ?_
    rintro e w2 h2
    obtain rfl := h2.1
    have HR := hid (mke_widen (mem_cons_sub _) HB.out h2)
    clear h2 HA HT
    obtain ⟨c2, z2, e5, HQ'⟩ := MkA.saw HS.out.seen HR.out
    have HQ := hid HQ'
    clear HQ' HR
    generalize k.straight op a = k' at *
    generalize (k.seen : Int) = sn at *
    go_wp2
    go_end0
    exact HQ.out

theorem straightMk {w : World} {B kb : Nat} {L : Bxs} {k : Mk} (h : MkA w B kb L k) (hs : Sml k) (op a : Int) {locals n m : Int} (hl : legalP op a locals n m = true) (ht : turnsP op = false) :
    Calls Tryz.prog 156 #[ptr kb, .agg #[.int .i64 op, .int .i64 a]] w (MkE w B kb L (k.straight op a)) := by
  have ht : op ≠ 10 ∧ op ≠ 11 ∧ op ≠ 13 ∧ op ≠ 14 := by simpa [turnsP] using ht
  have hr := legal_range hl
  by_cases e : op = 0
  · subst e; exact straight_const h hs a
  by_cases e : op = 1
  · subst e; exact straight_nil h hs a
  by_cases e : op = 12
  · subst e; exact straight_fun h hs a
  by_cases e : op = 2
  · subst e
    have hf : 0 ≤ a ∧ a < locals := by simpa [legalP] using hl
    exact straight_load h hs a hf.1
  by_cases e : op = 3
  · subst e; exact straight_store h hs a
  by_cases e : op = 19
  · subst e; exact straight_print h hs a
  by_cases e : op = 20
  · subst e; exact straight_drop h hs a
  by_cases e : op = 21
  · subst e; exact straight_dup h hs a
  by_cases e : op = 9
  · subst e; exact straight_equal h hs a
  by_cases e : op = 15
  · subst e; exact straight_new h hs a
  by_cases e : op = 18
  · subst e; exact straight_len h hs a
  by_cases e : op = 16
  · subst e; exact straight_get h hs a
  by_cases e : op = 17
  · subst e; exact straight_set h hs a
  exact straight_reckon h hs op a (by omega)
end Go.Proofs.YtkafkipjedpohaaGreatDoor
