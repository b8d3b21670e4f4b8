import Derived.Test.YtkafkipjedpohaaGreatDoorM5

/-
  The project's machine: equal, array, length, cell.
-/
namespace Go.Proofs.YtkafkipjedpohaaGreatDoor
open Go.RowKit

theorem truthB (b : Bool) (w : World) : Calls Tryz.prog 153 #[.bool b] w fun e w' => e = .returned (.int .i64 (if b = true then 1 else 0)) ∧ Below w.heap.size w w' := by
  refine (truthM b w).mono ?_
  rintro e w' ⟨h, rfl⟩
  exact ⟨h, Below.refl _ _⟩

theorem eqlVal (a b : V) (t : Bool) (ht : t = decide (a.k = b.k ∧ a.n = b.n)) (X : World) : (binOp .eql 43 (.agg #[.int .i64 a.k, .int .i64 a.n]) (.agg #[.int .i64 b.k, .int .i64 b.n])).run Tryz.prog X = .ok (.bool t) X := by
  by_cases h1 : a.k = b.k
  · by_cases h2 : a.n = b.n
    · have e1 : (a.k == b.k) = true := by simpa using h1
      have e2 : (a.n == b.n) = true := by simpa using h2
      have e3 : t = true := by rw [ht]; simp [h1, h2]
      clear h1 h2 ht
      subst e3
      go_simp
    · have e1 : (a.k == b.k) = true := by simpa using h1
      have e2 : (a.n == b.n) = false := by simpa using h2
      have e3 : t = false := by rw [ht]; simp [h2]
      clear h1 h2 ht
      subst e3
      go_simp
  · have e1 : (a.k == b.k) = false := by simpa using h1
    have e3 : t = false := by rw [ht]; simp [h1]
    clear h1 ht
    subst e3
    go_simp

set_option maxRecDepth 100000 in
set_option maxHeartbeats 1000000 in
theorem equalB (a b : V) (w : World) :
    Calls Tryz.prog 138 #[.agg #[.int .i64 a.k, .int .i64 a.n], .agg #[.int .i64 b.k, .int .i64 b.n]] w fun e w' =>
      e = .returned (.agg #[.int .i64 (twoP 9 a b).1.k, .int .i64 (twoP 9 a b).1.n]) ∧ Below w.heap.size w w' := by
  obtain ⟨t, ht⟩ : ∃ t : Bool, t = decide (a.k = b.k ∧ a.n = b.n) := ⟨_, rfl⟩
  have hres : (twoP 9 a b).1 = vnum (if t = true then 1 else 0) := by unfold twoP; rw [if_pos rfl, ht]; by_cases h : a.k = b.k ∧ a.n = b.n <;> simp [h]
  rw [hres]
  have heq := eqlVal a b t ht
  have HT := hid (fun X => truthB t X)
  generalize (if t = true then (1 : Int) else 0) = r at *
  have HB := hid (three_boxes w (.int .i64 a.k) (.int .i64 a.n) (.int .i64 b.k) (.int .i64 b.n) (.int .i64 0) (.int .i64 0) 43)
  clear hres ht
  go_enter Tryz.func138, Tryz.ntmps138
  go_wp2_with fail
  have HB2 := HB.out
  clear HB
  generalize ((w.alloc (.cells #[.int .i64 a.k, .int .i64 a.n] 43)).alloc (.cells #[.int .i64 b.k, .int .i64 b.n] 43)).alloc (.cells #[.int .i64 0, .int .i64 0] 43) = W at *
  have S0 := hid (show Sb W (w.heap.size + 2) 43 W from ⟨Below.refl _ _, _, _, HB2.2.2.2.2⟩)
  have HE := hid (fun (w' : World) (h : Sb W (w.heap.size + 2) 43 w') => (show Below w.heap.size w w' from HB2.1.trans (h.1.mono (by omega))))
  clear HB2
  refine (HT.out _).mono ?_
  rintro e w1 ⟨rfl, b1⟩
  have S1 := hid (S0.out.on b1)
  clear b1
  go_wp2_with fail
  refine (numberB _ _).mono ?_
  rintro e w4 ⟨rfl, b4⟩
  have S4 := hid (S1.out.on b4)
  clear b4
  obtain ⟨x, y, y0, y1, z0, z1⟩ := S4.out.cells
  go_wp2
  obtain ⟨r0, r1⟩ := S4.out.read (.int .i64 1) (.int .i64 r)
  exact bodyPost_ret (v := .agg #[.int .i64 1, .int .i64 r]) (by simp [results, Tryz.results138, go_sem, r0, r1]) rfl ⟨rfl, HE.out _ (S4.out.set _ _)⟩

/-- An array, or TrapType. -/
theorem arrayB {w : World} {B mb : Nat} {A : AdM} {s : Mc} {en : Int} (hL : LayM w B mb A s en) (v : V) (hv : v.k = 2 → 0 ≤ v.n ∧ v.n < s.arr.length) (X : World) (hX : Below w.heap.size w X) :
    Calls Tryz.prog 154 #[.pointer (some ⟨mb, 0, none⟩), .agg #[.int .i64 v.k, .int .i64 v.n]] X fun e w' =>
      ((v.k = 2 ∧ e = .returned (A.AV v.n.toNat)) ∨ (v.k ≠ 2 ∧ e = trapE 3)) ∧ Below X.heap.size X w' := by
  by_cases hk : v.k = 2
  · obtain ⟨h0, h1⟩ := hv hk
    have hL' := hL.below hX
    have har := hL'.ar
    obtain ⟨ab, acap, hav, hab, habz, hatag, hac⟩ := har.form (by omega)
    rw [hav] at har
    have c0 := har.cell (i := v.n.toNat) (by omega)
    have c4 : X.cell? ⟨mb, 4, none⟩ = some (.slice (some ⟨ab, 0, none⟩) s.arr.length acap) := by rw [cell_heap hL'.run, ← hav]; rfl
    have hbl : Below X.heap.size X (X.alloc (.cells #[.int .i64 v.k, .int .i64 v.n] 43)) := (Below.refl _ _).alloc (Nat.le_refl _) _
    have d0 := (hbl.cell (p := ⟨ab, v.n.toNat, none⟩) habz).trans c0
    have d4 := (hbl.cell (p := ⟨mb, 4, none⟩) (heap_lt hL'.run)).trans c4
    have b1 : (X.alloc (.cells #[.int .i64 v.k, .int .i64 v.n] 43)).cell? ⟨X.heap.size, 1, none⟩ = some (.int .i64 v.n) := cell_new X _ _ _ _ rfl
    have e1 : (v.k != 2) = false := by simpa using hk
    have B1 := hid b1
    have HK := hid (And.intro hk hbl)
    generalize A.AV v.n.toNat = av at *
    generalize s.arr.length = al at *
    clear hL hL' hX har hav hk hv c0 c4 hbl b1
    have hvn : ((v.n.toNat : Nat) : Int) = v.n := by omega
    go_enter Tryz.func154, Tryz.ntmps154
    go_wp2_with fail
    have b1 := B1.out
    clear B1
    generalize X.alloc (.cells #[.int .i64 v.k, .int .i64 v.n] 43) = W at *
    go_quiet (fail)
    go_wp2
    go_ret
    exact ⟨Or.inl ⟨HK.out.1, rfl⟩, below_drewN HK.out.2 _⟩
  · have e1 : (v.k != 2) = true := by simpa using hk
    have HK := hid hk
    clear hL hX hv hk
    go_enter Tryz.func154, Tryz.ntmps154
    go_wp2
    exact ⟨rfl, Or.inr ⟨HK.out, rfl⟩, (Below.refl _ _).alloc (Nat.le_refl _) _⟩

theorem two_boxes (X : World) (a0 a1 c0 c1 : Value) (t : TypeId) :
    Below X.heap.size X ((X.alloc (.cells #[a0, a1] t)).alloc (.cells #[c0, c1] t)) ∧ ((X.alloc (.cells #[a0, a1] t)).alloc (.cells #[c0, c1] t)).heap[X.heap.size]? = some (.cells #[a0, a1] t (0, 0)) ∧ ((X.alloc (.cells #[a0, a1] t)).alloc (.cells #[c0, c1] t)).heap[X.heap.size + 1]? = some (.cells #[c0, c1] t (0, 0)) := by
  refine ⟨((Below.refl _ _).alloc (Nat.le_refl _) _).alloc (by simp) _, ?_, ?_⟩
  · rw [Below.heap_alloc _ _ _ (by simp)]
    exact Go.Deep.blk_alloc_new _ _
  · have := Go.Deep.blk_alloc_new (X.alloc (.cells #[a0, a1] t)) (.cells #[c0, c1] t)
    simpa using this

set_option maxRecDepth 100000 in
set_option maxHeartbeats 1000000 in
/-- The length of an array, or TrapType. -/
theorem lengthB {w : World} {B mb : Nat} {A : AdM} {s : Mc} {en : Int} (hL : LayM w B mb A s en) (v : V) (hv : v.k = 2 → 0 ≤ v.n ∧ v.n < s.arr.length) (X : World) (hX : Below w.heap.size w X) :
    Calls Tryz.prog 140 #[.pointer (some ⟨mb, 0, none⟩), .agg #[.int .i64 v.k, .int .i64 v.n]] X fun e w' =>
      ((v.k = 2 ∧ e = .returned (.agg #[.int .i64 1, .int .i64 (s.arr.getD v.n.toNat []).length])) ∨ (v.k ≠ 2 ∧ e = trapE 3)) ∧ Below X.heap.size X w' := by
  obtain ⟨hWX, _, hbx⟩ := two_boxes X (.int .i64 v.k) (.int .i64 v.n) (.int .i64 0) (.int .i64 0) 43
  have HA := hid (arrayB hL v hv _ (hX.trans (hWX.mono hX.size)))
  have hsl : v.k = 2 → ∃ p cp, A.AV v.n.toNat = .slice p (s.arr.getD v.n.toNat []).length cp := fun hk => by
    obtain ⟨p, cp, h, _⟩ := (hL.arr v.n.toNat (by have := hv hk; omega)).any
    exact ⟨p, cp, h⟩
  have HL := hid (And.intro hWX (And.intro hbx hsl))
  clear hL hv hX hWX hbx hsl
  go_enter Tryz.func140, Tryz.ntmps140
  go_wp2_with fail
  generalize (X.alloc (.cells #[.int .i64 v.k, .int .i64 v.n] 43)).alloc (.cells #[.int .i64 0, .int .i64 0] 43) = W at *
  have S0 := hid (show Sb W (X.heap.size + 1) 43 W from ⟨Below.refl _ _, _, _, HL.out.2.1⟩)
  refine HA.out.mono ?_
  rintro e w1 ⟨⟨hk, rfl⟩ | ⟨hk, rfl⟩, b1⟩
  · have S1 := hid (S0.out.on b1)
    have HK := hid hk
    obtain ⟨p, cp, h⟩ := HL.out.2.2 hk
    rw [h]
    clear hk b1 h HA
    generalize hal : (s.arr.getD v.n.toNat []).length = al at *
    have HAL := hid hal
    clear hal
    go_wp2_with fail
    refine (numberB _ _).mono ?_
    rintro e w4 ⟨rfl, b4⟩
    have S4 := hid (S1.out.on b4)
    clear b4
    obtain ⟨x, y, y0, y1, z0, z1⟩ := S4.out.cells
    go_wp2
    obtain ⟨r0, r1⟩ := S4.out.read (.int .i64 1) (.int .i64 al)
    exact bodyPost_ret (v := .agg #[.int .i64 1, .int .i64 al]) (by simp [results, Tryz.results140, go_sem, r0, r1]) rfl ⟨Or.inl ⟨HK.out, by rw [HAL.out]⟩, HL.out.1.trans ((S4.out.set _ _).1.mono (by omega))⟩
  · exact ⟨rfl, Or.inr ⟨hk, rfl⟩, HL.out.1.trans ((S0.out.on b1).1.mono (by omega))⟩

set_option maxRecDepth 100000 in
set_option maxHeartbeats 1000000 in
/-- A cell of an array, or a trap. -/
theorem cellB {w : World} {B mb : Nat} {A : AdM} {s : Mc} {en : Int} (hL : LayM w B mb A s en) (a i : V) (hv : a.k = 2 → 0 ≤ a.n ∧ a.n < s.arr.length) (X : World) (hX : Below w.heap.size w X) :
    Calls Tryz.prog 141 #[.pointer (some ⟨mb, 0, none⟩), .agg #[.int .i64 a.k, .int .i64 a.n], .agg #[.int .i64 i.k, .int .i64 i.n]] X fun e w' =>
      ((whereP s.arr a i = 0 ∧ ∃ b cp, A.AV a.n.toNat = .slice (some ⟨b, 0, none⟩) (s.arr.getD a.n.toNat []).length cp ∧ e = .returned (.pointer (some ⟨b, i.n.toNat * 2, none⟩))) ∨ (whereP s.arr a i ≠ 0 ∧ e = trapE (whereP s.arr a i))) ∧ Below X.heap.size X w' := by
  obtain ⟨hWX, hb1, hb2⟩ := two_boxes X (.int .i64 a.k) (.int .i64 a.n) (.int .i64 i.k) (.int .i64 i.n) 43
  have HA := hid (fun (Y : World) (hY : Below w.heap.size w Y) => arrayB hL a hv Y hY)
  have hsl : a.k = 2 → ∃ p cp, A.AV a.n.toNat = .slice p (s.arr.getD a.n.toNat []).length cp ∧ (1 ≤ (s.arr.getD a.n.toNat []).length → ∃ b, p = some ⟨b, 0, none⟩) := fun hk => by
    have hr := hL.arr a.n.toNat (by have := hv hk; omega)
    obtain ⟨p, cp, h, _⟩ := hr.any
    refine ⟨p, cp, h, fun h1 => ?_⟩
    obtain ⟨b, cap, h2, _⟩ := hr.form h1
    rw [h] at h2
    injection h2 with h2
    exact ⟨b, h2⟩
  have HL := hid (And.intro hWX (And.intro hb1 (And.intro hb2 (And.intro hsl (hX.trans (hWX.mono hX.size))))))
  clear hL hv hX hWX hb1 hb2 hsl
  go_enter Tryz.func141, Tryz.ntmps141
  go_wp2_with fail
  generalize (X.alloc (.cells #[.int .i64 a.k, .int .i64 a.n] 43)).alloc (.cells #[.int .i64 i.k, .int .i64 i.n] 43) = W at *
  have hz : X.heap.size + 1 < W.heap.size := heap_lt HL.out.2.2.1
  have HC := hid (fun (w' : World) (h : Below W.heap.size W w') => (show w'.cell? ⟨X.heap.size, 0, none⟩ = some (.int .i64 a.k) ∧ w'.cell? ⟨X.heap.size, 1, none⟩ = some (.int .i64 a.n) ∧ w'.cell? ⟨X.heap.size + 1, 0, none⟩ = some (.int .i64 i.k) ∧ w'.cell? ⟨X.heap.size + 1, 1, none⟩ = some (.int .i64 i.n) from by
    obtain ⟨_, g1, g2, _⟩ := HL.out
    have k1 := (h.block X.heap.size (by omega)).trans g1
    have k2 := (h.block (X.heap.size + 1) (by omega)).trans g2
    exact ⟨(cell_heap k1).trans rfl, (cell_heap k1).trans rfl, (cell_heap k2).trans rfl, (cell_heap k2).trans rfl⟩))
  have HE := hid (fun (w' : World) (h : Below W.heap.size W w') => (show Below X.heap.size X w' from HL.out.1.trans (h.mono (by omega))))
  have S0 := hid (show Below W.heap.size W W.drew from (Below.refl _ _).drew)
  refine region_lex (fun w' => Below W.heap.size W w') [(false, 0), (false, 1), (false, 3), (true, 2), (true, 4), (false, 5), (false, 6)] (by kernel_rfl) (by kernel_rfl) (panic_frame _ _ _) S0.out ?_
  simp only [lexL, List.getElem?_cons_zero, List.getElem?_cons_succ]
  iterate 3 (refine lexW_free (by rfl) (by intro w' hS'; obtain ⟨h1, h2, h3, h4⟩ := HC.out w' hS'; go_simp; exact rfl) ?_; simp only [Act.put, List.setIfInBounds_toArray, List.set_cons_zero, List.set_cons_succ])
  generalize W.drew = w0 at S0 ⊢
  refine lexW_sole (fun K hK => ?_)
  go_simp
  refine (HA.out _ (HL.out.2.2.2.2.trans (S0.out.mono (by have := HL.out.2.2.2.2.size; omega)))).mono ?_
  rintro e w1 ⟨⟨hk1, rfl⟩ | ⟨hk1, rfl⟩, b1⟩
  · have S1 := hid (S0.out.trans (b1.mono S0.out.size))
    obtain ⟨p, cp, h, hp⟩ := HL.out.2.2.2.1 hk1
    generalize hal : (s.arr.getD a.n.toNat []).length = al at h hp
    have HAL := hid hal
    clear hal
    have K1 := hid (And.intro hk1 (And.intro h hp))
    rw [h]
    refine hK.out _ _ S1.out ?_
    clear hK K hk1 b1 h hp
    refine lexW_sole (fun K hK => ?_)
    go_simp
    refine (integerB _ _ _).mono ?_
    rintro e w2 ⟨⟨hk2, rfl⟩ | ⟨hk2, rfl⟩, b2⟩
    · have S2 := hid (S1.out.trans (b2.mono S1.out.size))
      have K2 := hid hk2
      refine hK.out _ _ S2.out ?_
      clear hK K hk2 b2
      iterate 2 (refine lexW_free (by rfl) (by intro w' hS'; go_simp; exact rfl) ?_; simp only [Act.put, List.setIfInBounds_toArray, List.set_cons_zero, List.set_cons_succ])
      refine lexW_done ?_
      by_cases h0 : i.n < 0
      · have e1 : decide (i.n < 0) = true := by simpa using h0
        have hw : whereP s.arr a i = 5 := by unfold whereP; rw [if_neg (by have := K1.out.1; have := K2.out; omega), if_pos (Or.inl h0)]
        have HQ := hid (And.intro hw (HE.out _ S2.out))
        clear h0 hw
        go_wp2
        refine ⟨rfl, Or.inr ⟨by have := HQ.out.1; omega, by rw [HQ.out.1]; rfl⟩, HQ.out.2⟩
      · by_cases h5 : (al : Int) ≤ i.n
        · have e1 : decide (i.n < 0) = false := by simpa using h0
          have hw : whereP s.arr a i = 5 := by unfold whereP; rw [if_neg (by have := K1.out.1; have := K2.out; omega), if_pos (Or.inr (by rw [HAL.out]; exact h5))]
          have e2 : decide ((al : Int) ≤ i.n) = true := by simpa using h5
          have HQ := hid (And.intro hw (HE.out _ S2.out))
          clear h0 hw h5
          go_wp2
          refine ⟨rfl, Or.inr ⟨by have := HQ.out.1; omega, by rw [HQ.out.1]; rfl⟩, HQ.out.2⟩
        · have e1 : decide (i.n < 0) = false := by simpa using h0
          have hw : whereP s.arr a i = 0 := by unfold whereP; rw [if_neg (by have := K1.out.1; have := K2.out; omega), if_neg (by rw [HAL.out]; omega)]
          have e2 : decide ((al : Int) ≤ i.n) = false := by simpa using h5
          obtain ⟨_, hA, hp⟩ := K1.out
          obtain ⟨b, rfl⟩ := hp (by omega)
          have i0 : 0 ≤ i.n := by omega
          have i1 : i.n < (al : Int) := by omega
          have HQ := hid (And.intro hw (And.intro hA (HE.out _ S2.out)))
          clear h0 hw h5 hA hp K1
          go_wp2
          go_ret
          exact ⟨Or.inl ⟨HQ.out.1, b, cp, by rw [HAL.out]; exact HQ.out.2.1, rfl⟩, HQ.out.2.2⟩
    · have hw : whereP s.arr a i = 3 := by unfold whereP; rw [if_pos (Or.inr hk2)]
      exact ⟨rfl, Or.inr ⟨by omega, by rw [hw]; rfl⟩, HE.out _ (S1.out.trans (b2.mono S1.out.size))⟩
  · have hw : whereP s.arr a i = 3 := by unfold whereP; rw [if_pos (Or.inl hk1)]
    exact ⟨rfl, Or.inr ⟨by omega, by rw [hw]; rfl⟩, HE.out _ (S0.out.trans (b1.mono S0.out.size))⟩
end Go.Proofs.YtkafkipjedpohaaGreatDoor

/-
  The project's machine: how a run stands within a call, with the boxes that the call has made; Push, Pop, popTwo.
-/
namespace Go.Proofs.YtkafkipjedpohaaGreatDoor
open Go.RowKit

/-- Boxes: where, what they hold, of which type. -/
def Bx (w : World) (tag : Nat → Nat) (l : List (Nat × Array Value × TypeId)) : Prop := ∀ t, t ∈ l → w.heap[t.1]? = some (.cells t.2.1 t.2.2 (0, 0)) ∧ tag t.1 = 5
/-- The same, without the tags. -/
def Hb (l : List (Nat × Array Value × TypeId)) (w : World) : Prop := ∀ t, t ∈ l → w.heap[t.1]? = some (.cells t.2.1 t.2.2 (0, 0))
theorem Bx.keep {w w' : World} {B : Nat} {p : Nat → Prop} {tag tag' : Nat → Nat} {l : List (Nat × Array Value × TypeId)} (h : Bx w tag l) (k : Ch B p tag tag' w w') (hp : ¬ p 5) : Bx w' tag' l := fun t ht => by
  obtain ⟨h1, h2⟩ := h t ht
  exact ⟨(k.block t.1 (heap_lt h1) (Or.inr (by rw [h2]; exact hp))).trans h1, (k.tags t.1 (heap_lt h1)).trans h2⟩
theorem Hb.below {l : List (Nat × Array Value × TypeId)} {w w' : World} (h : Hb l w) (k : Below w.heap.size w w') : Hb l w' := fun t ht => (k.block t.1 (heap_lt (h t ht))).trans (h t ht)
theorem Hb.cell {l : List (Nat × Array Value × TypeId)} {w : World} (h : Hb l w) {b : Nat} {c : Array Value} {t : TypeId} (hm : (b, c, t) ∈ l) (i : Nat) : w.cell? ⟨b, i, none⟩ = c[i]? := cell_heap (h _ hm)

theorem n55 : ¬ N5 5 := fun h => h.1 rfl
theorem n56 : ¬ N5 6 := fun h => h.2 rfl

/-- How a run stands within a call that began in w0. -/
def Cur (w0 : World) (B mb : Nat) (A0 : AdM) (s : Mc) (en : Int) (l : List (Nat × Array Value × TypeId)) (w : World) : Prop :=
  B ≤ w0.heap.size ∧ ∃ A : AdM, LayM w B mb A s en ∧ A.g = A0.g ∧ Ch B N5 A0.tag A.tag w0 w ∧ Bx w A.tag l

theorem Cur.start {w : World} {B mb : Nat} {A : AdM} {s : Mc} {en : Int} (h : LayM w B mb A s en) (hB : B ≤ w.heap.size) : Cur w B mb A s en [] w := ⟨hB, A, h, rfl, Ch.refl _ _ _ _, fun t ht => by cases ht⟩
theorem Cur.hb {w0 w : World} {B mb : Nat} {A0 : AdM} {s : Mc} {en : Int} {l : List (Nat × Array Value × TypeId)} (h : Cur w0 B mb A0 s en l w) : Hb l w := by
  obtain ⟨_, A, _, _, _, b⟩ := h
  exact fun t ht => (b t ht).1
theorem Cur.below {w0 w w' : World} {B mb : Nat} {A0 : AdM} {s : Mc} {en : Int} {l : List (Nat × Array Value × TypeId)} (h : Cur w0 B mb A0 s en l w) (k : Below w.heap.size w w') : Cur w0 B mb A0 s en l w' := by
  obtain ⟨hB, A, h1, h2, h3, h4⟩ := h
  exact ⟨hB, A, h1.below k, h2, h3.trans' k, h4.keep (Ch.of_below (p := fun _ => False) (B := B) k) (fun h => h)⟩
theorem Cur.drew {w0 w : World} {B mb : Nat} {A0 : AdM} {s : Mc} {en : Int} {l : List (Nat × Array Value × TypeId)} (h : Cur w0 B mb A0 s en l w) : Cur w0 B mb A0 s en l w.drew := h.below (Below.refl _ _).drew
theorem Cur.box {w0 w : World} {B mb : Nat} {A0 : AdM} {s : Mc} {en : Int} {l : List (Nat × Array Value × TypeId)} (h : Cur w0 B mb A0 s en l w) (c : Array Value) (t : TypeId) : Cur w0 B mb A0 s en ((w.heap.size, c, t) :: l) (w.alloc (.cells c t)) := by
  obtain ⟨hB, A, h1, h2, h3, h4⟩ := h
  have hc : Ch B (fun _ => False) A.tag (upd A.tag w.heap.size 5) w (w.alloc (.cells c t)) := Ch.of_tags ((Below.refl _ _).alloc (Nat.le_refl _) _) (fun b hb => upd_other _ _ _ _ (by omega))
  refine ⟨hB, _, h1.box _, h2, h3.trans (hc.mono (fun _ h => h.elim)), fun u hu => ?_⟩
  rcases List.mem_cons.1 hu with rfl | hu
  · exact ⟨Go.Deep.blk_alloc_new _ _, upd_same _ _ _⟩
  · exact h4.keep hc (fun h => h) u hu
/-- Behind a callee that keeps the boxes. -/
theorem Cur.aft {w0 w w' : World} {B mb : Nat} {A0 A : AdM} {s' : Mc} {en' : Int} {l : List (Nat × Array Value × TypeId)} (hB : B ≤ w0.heap.size) (hg : A.g = A0.g) (hc : Ch B N5 A0.tag A.tag w0 w) (hb : Bx w A.tag l) {p : Nat → Prop} (hp : ∀ d, p d → N5 d) (h : Aft p w w' B mb A s' en') : Cur w0 B mb A0 s' en' l w' := by
  obtain ⟨A', h1, h2, h3⟩ := h
  exact ⟨hB, A', h1, h2.trans hg, hc.trans (h3.mono hp), hb.keep h3 (fun h => (hp _ h).1 rfl)⟩
theorem Cur.done {w0 w : World} {B mb : Nat} {A0 : AdM} {s : Mc} {en : Int} {l : List (Nat × Array Value × TypeId)} (h : Cur w0 B mb A0 s en l w) : Aft N5 w0 w B mb A0 s en := by
  obtain ⟨_, A, h1, h2, h3, _⟩ := h
  exact ⟨A, h1, h2, h3⟩
theorem Cur.drop {w0 w : World} {B mb : Nat} {A0 : AdM} {s : Mc} {en : Int} {l l' : List (Nat × Array Value × TypeId)} (h : Cur w0 B mb A0 s en l w) (hl : ∀ t, t ∈ l' → t ∈ l) : Cur w0 B mb A0 s en l' w := by
  obtain ⟨hB, A, h1, h2, h3, h4⟩ := h
  exact ⟨hB, A, h1, h2, h3, fun t ht => h4 t (hl t ht)⟩

theorem LayM.keep5 {w w' : World} {B mb : Nat} {A : AdM} {s : Mc} {en : Int} {tag' : Nat → Nat} (h : LayM w B mb A s en) (k : Ch B (fun d => d = 5) A.tag tag' w w') : LayM w' B mb { A with tag := tag' } s en := by
  obtain ⟨r1, r2⟩ := blk_keep h.run k (by rw [h.own.2]; omega)
  refine ⟨r1, ⟨h.own.1, r2.trans h.own.2⟩, h.fr.keep k (by omega), fun i hi => ?_, h.ar.keep k (by omega), h.out.keep k (by omega), fun i hi => (h.loc i hi).keep k (by omega), fun i hi => (h.stk i hi).keep k (by omega), fun j hj => (h.arr j hj).keep k (by omega)⟩
  obtain ⟨g1, g2, g3⟩ := h.fb i hi
  obtain ⟨g4, g5⟩ := blk_keep g1 k (by rw [g3]; omega)
  exact ⟨g4, g2, g5.trans g3⟩

/-- A box that the call has made is written. -/
theorem Cur.set {w0 w : World} {B mb : Nat} {A0 : AdM} {s : Mc} {en : Int} {l r : List (Nat × Array Value × TypeId)} {b : Nat} {c : Array Value} {t : TypeId} (h : Cur w0 B mb A0 s en (l ++ (b, c, t) :: r) w) (hw : w0.heap.size ≤ b) (hl : ∀ u, u ∈ l ++ r → u.1 ≠ b) (i : Nat) (v : Value) :
    Cur w0 B mb A0 s en (l ++ (b, c.setIfInBounds i v, t) :: r) (w.setCell ⟨b, i, none⟩ v) := by
  obtain ⟨hB, A, h1, h2, h3, h4⟩ := h
  obtain ⟨k1, k2⟩ := h4 (b, c, t) (by simp)
  have hBb : B ≤ b := Nat.le_trans hB hw
  have hc : Ch B (fun d => d = 5) A.tag A.tag w (w.setCell ⟨b, i, none⟩ v) := Ch.set w _ _ _ hBb k2
  refine ⟨hB, A, h1.keep5 hc, h2, h3.setNew hw v, fun u hu => ?_⟩
  have hu' : u = (b, c.setIfInBounds i v, t) ∨ u ∈ l ++ r := by
    rcases List.mem_append.1 hu with hu | hu
    · exact Or.inr (List.mem_append.2 (Or.inl hu))
    · rcases List.mem_cons.1 hu with hu | hu
      · exact Or.inl hu
      · exact Or.inr (List.mem_append.2 (Or.inr hu))
  rcases hu' with rfl | hu'
  · exact ⟨heap_set k1 _, k2⟩
  · have hm : u ∈ l ++ (b, c, t) :: r := by
      rcases List.mem_append.1 hu' with h | h
      · exact List.mem_append.2 (Or.inl h)
      · exact List.mem_append.2 (Or.inr (List.mem_cons_of_mem _ h))
    obtain ⟨j1, j2⟩ := h4 u hm
    exact ⟨(Below.heap_setCell _ _ _ _ (hl u hu')).trans j1, j2⟩

theorem Cur.le {w0 w : World} {B mb : Nat} {A0 : AdM} {s : Mc} {en : Int} {l : List (Nat × Array Value × TypeId)} (h : Cur w0 B mb A0 s en l w) : w0.heap.size ≤ w.heap.size ∧ B ≤ w.heap.size := by
  obtain ⟨hB, A, _, _, h3, _⟩ := h
  have := h3.size
  exact ⟨this, by omega⟩

theorem Cur.push {w0 w : World} {B mb : Nat} {A0 : AdM} {s : Mc} {en : Int} {l : List (Nat × Array Value × TypeId)} (h : Cur w0 B mb A0 s en l w) {f : Fr} {rest : List Fr} (hs : s.fr = f :: rest) (hn : f.stk.length ≤ 64) (v : V) :
    Calls Tryz.prog 132 #[.pointer (some ⟨A0.FB rest.length, 3, none⟩), .agg #[.int .i64 v.k, .int .i64 v.n]] w fun e w' => e = .returned (.tuple #[]) ∧ Cur w0 B mb A0 { s with fr := { f with stk := v :: f.stk } :: rest } en l w' := by
  have hle := h.le.2
  obtain ⟨hB, A, h1, h2, h3, h4⟩ := h
  have hfb : A.FB = A0.FB := by unfold AdM.FB; rw [h2]
  rw [← hfb]
  refine (pushM w B mb A s en f rest v h1 hs hle hn).mono ?_
  rintro e w' ⟨rfl, h⟩
  exact ⟨rfl, Cur.aft hB h2 h3 h4 (fun _ => tk_n5) h⟩
theorem Cur.pop {w0 w : World} {B mb : Nat} {A0 : AdM} {s : Mc} {en : Int} {l : List (Nat × Array Value × TypeId)} (h : Cur w0 B mb A0 s en l w) {f : Fr} {rest : List Fr} (hs : s.fr = f :: rest) {v : V} {st : List V} (hst : f.stk = v :: st) (hn : st.length ≤ 64) :
    Calls Tryz.prog 129 #[.pointer (some ⟨A0.FB rest.length, 3, none⟩)] w fun e w' => e = .returned (.agg #[.int .i64 v.k, .int .i64 v.n]) ∧ Cur w0 B mb A0 { s with fr := { f with stk := st } :: rest } en l w' := by
  obtain ⟨hB, A, h1, h2, h3, h4⟩ := h
  have hfb : A.FB = A0.FB := by unfold AdM.FB; rw [h2]
  rw [← hfb]
  refine (popM w B mb A s en f rest v st h1 hs hst hn).mono ?_
  rintro e w' ⟨rfl, h⟩
  exact ⟨rfl, Cur.aft hB h2 h3 h4 (fun _ => tk_n5) h⟩

theorem Cur.write0 {w0 w : World} {B mb : Nat} {A0 : AdM} {s : Mc} {en : Int} {r : List (Nat × Array Value × TypeId)} {b : Nat} {c0 c1 : Value} {t : TypeId} (h : Cur w0 B mb A0 s en ((b, #[c0, c1], t) :: r) w) (hw : w0.heap.size ≤ b) (hl : ∀ u, u ∈ r → u.1 ≠ b) (x y : Value) :
    Cur w0 B mb A0 s en ((b, #[x, y], t) :: r) ((w.setCell ⟨b, 0, none⟩ x).setCell ⟨b, 1, none⟩ y) :=
  (Cur.set (l := []) (Cur.set (l := []) h hw hl 0 x) hw hl 1 y)
theorem Cur.write1 {w0 w : World} {B mb : Nat} {A0 : AdM} {s : Mc} {en : Int} {q : Nat × Array Value × TypeId} {r : List (Nat × Array Value × TypeId)} {b : Nat} {c0 c1 : Value} {t : TypeId} (h : Cur w0 B mb A0 s en (q :: (b, #[c0, c1], t) :: r) w) (hw : w0.heap.size ≤ b) (hl : ∀ u, u ∈ [q] ++ r → u.1 ≠ b) (x y : Value) :
    Cur w0 B mb A0 s en (q :: (b, #[x, y], t) :: r) ((w.setCell ⟨b, 0, none⟩ x).setCell ⟨b, 1, none⟩ y) :=
  (Cur.set (l := [q]) (Cur.set (l := [q]) h hw hl 0 x) hw hl 1 y)
theorem Hb.frozen {l : List (Nat × Array Value × TypeId)} {w : World} (h : Hb l w) {b : Nat} {c : Array Value} {t : TypeId} (hm : (b, c, t) ∈ l) (i : Nat) : w.frozen? ⟨b, i, none⟩ = false := frozen_heap (h _ hm)
/-- The two cells of a box, as they are read and written. -/
theorem Hb.two {l : List (Nat × Array Value × TypeId)} {w : World} (h : Hb l w) {b : Nat} {c0 c1 : Value} {t : TypeId} (hm : (b, #[c0, c1], t) ∈ l) : w.cell? ⟨b, 0, none⟩ = some c0 ∧ w.cell? ⟨b, 1, none⟩ = some c1 ∧ w.frozen? ⟨b, 0, none⟩ = false ∧ w.frozen? ⟨b, 1, none⟩ = false :=
  ⟨(h.cell hm 0).trans rfl, (h.cell hm 1).trans rfl, h.frozen hm 0, h.frozen hm 1⟩

theorem cur_two {w0 w : World} {B mb : Nat} {A0 : AdM} {s : Mc} {en : Int} {l : List (Nat × Array Value × TypeId)} (h : Cur w0 B mb A0 s en l w) (c d : Array Value) (t : TypeId) : Cur w0 B mb A0 s en ((w.heap.size + 1, d, t) :: (w.heap.size, c, t) :: l) ((w.alloc (.cells c t)).alloc (.cells d t)) := by
  have := (h.box c t).box d t
  simpa using this

theorem Cur.lt {w0 w : World} {B mb : Nat} {A0 : AdM} {s : Mc} {en : Int} {l : List (Nat × Array Value × TypeId)} (h : Cur w0 B mb A0 s en l w) : ∀ u, u ∈ l → u.1 < w.heap.size := fun u hu => heap_lt (h.hb u hu)

set_option maxRecDepth 100000 in
set_option maxHeartbeats 1000000 in
theorem Cur.popTwo {w0 w : World} {B mb : Nat} {A0 : AdM} {s : Mc} {en : Int} {l : List (Nat × Array Value × TypeId)} (h : Cur w0 B mb A0 s en l w) (hl : ∀ u, u ∈ l → u.1 < w.heap.size) {f : Fr} {rest : List Fr} (hs : s.fr = f :: rest) {b a : V} {st : List V} (hst : f.stk = b :: a :: st) (hn : st.length ≤ 60) :
    Calls Tryz.prog 135 #[.pointer (some ⟨A0.FB rest.length, 0, none⟩)] w fun e w' => e = .returned (.tuple #[.agg #[.int .i64 a.k, .int .i64 a.n], .agg #[.int .i64 b.k, .int .i64 b.n]]) ∧
      Cur w0 B mb A0 { s with fr := { f with stk := st } :: rest } en l w' := by
  have hw0 := h.le.1
  have H1 := hid (cur_two h #[.int .i64 0, .int .i64 0] #[.int .i64 0, .int .i64 0] 43)
  have HL := hid hl
  generalize hfb : A0.FB rest.length = fb
  have HF := hid hfb
  clear h hl hfb
  go_enter Tryz.func135, Tryz.ntmps135
  go_wp2_with fail
  generalize (w.alloc (.cells #[.int .i64 0, .int .i64 0] 43)).alloc (.cells #[.int .i64 0, .int .i64 0] 43) = W at *
  have hp := H1.out.pop hs hst (by simp; omega)
  rw [HF.out] at hp
  refine hp.mono ?_
  rintro e w1 ⟨rfl, c1⟩
  have hl1 : ∀ u, u ∈ (w.heap.size, #[Value.int .i64 0, Value.int .i64 0], 43) :: l → u.1 ≠ w.heap.size + 1 := fun u hu => by
    rcases List.mem_cons.1 hu with rfl | hu
    · show w.heap.size ≠ _
      omega
    · have := HL.out u hu
      omega
  have c2 := c1.write0 (by omega) hl1 (.int .i64 b.k) (.int .i64 b.n)
  obtain ⟨x0, x1, z0, z1⟩ := c1.hb.two List.mem_cons_self
  have H2 := hid c2
  clear c1 c2 hp hl1 H1 hst
  go_wp2_with fail
  clear x0 x1 z0 z1
  generalize (w1.setCell ⟨w.heap.size + 1, 0, none⟩ (.int .i64 b.k)).setCell ⟨w.heap.size + 1, 1, none⟩ (.int .i64 b.n) = w2 at *
  have hp := H2.out.pop (v := a) (st := st) rfl rfl (by omega)
  rw [HF.out] at hp
  refine hp.mono ?_
  rintro e w3 ⟨rfl, c3⟩
  have hl2 : ∀ u, u ∈ [(w.heap.size + 1, #[Value.int .i64 b.k, Value.int .i64 b.n], 43)] ++ l → u.1 ≠ w.heap.size := fun u hu => by
    rcases List.mem_cons.1 hu with rfl | hu
    · show w.heap.size + 1 ≠ _
      omega
    · have := HL.out u hu
      omega
  have hl3 : ∀ u, u ∈ (w.heap.size, #[Value.int .i64 a.k, Value.int .i64 a.n], 43) :: l → u.1 ≠ w.heap.size + 1 := fun u hu => by
    rcases List.mem_cons.1 hu with rfl | hu
    · show w.heap.size ≠ _
      omega
    · have := HL.out u hu
      omega
  have c4 := c3.write1 (by omega) hl2 (.int .i64 a.k) (.int .i64 a.n)
  obtain ⟨x0, x1, z0, z1⟩ := c3.hb.two (List.mem_cons_of_mem _ List.mem_cons_self)
  have H4 := hid c4
  have HLL := hid (And.intro hl2 hl3)
  clear c3 c4 hp H2 hl2 hl3
  go_wp2_with fail
  clear x0 x1 z0 z1
  generalize (w3.setCell ⟨w.heap.size, 0, none⟩ (.int .i64 a.k)).setCell ⟨w.heap.size, 1, none⟩ (.int .i64 a.n) = w4 at *
  have H5 := hid H4.out.drew
  refine region_lex (Hb ((w.heap.size + 1, #[Value.int .i64 b.k, Value.int .i64 b.n], 43) :: (w.heap.size, #[Value.int .i64 a.k, Value.int .i64 a.n], 43) :: l)) [(false, 0), (false, 1), (true, 2), (true, 3)] (by kernel_rfl) (by kernel_rfl) (panic_frame _ _ _) H5.out.hb ?_
  simp only [lexL, List.getElem?_cons_zero, List.getElem?_cons_succ]
  iterate 2 (refine lexW_free (by rfl) (by intro w' hS'; obtain ⟨y0, y1, _, _⟩ := hS'.two List.mem_cons_self; obtain ⟨u0, u1, _, _⟩ := hS'.two (List.mem_cons_of_mem _ List.mem_cons_self); clear hS'; go_simp; exact rfl) ?_; simp only [Act.put, List.setIfInBounds_toArray, List.set_cons_zero, List.set_cons_succ])
  generalize w4.drew = w5 at H5 ⊢
  obtain ⟨y0, y1, g0, g1⟩ := H5.out.hb.two (List.mem_cons_of_mem _ List.mem_cons_self)
  have H6 := hid (H5.out.write1 (by omega) HLL.out.1 (.int .i64 a.k) (.int .i64 a.n))
  refine lexW_sole (fun K hK => ?_)
  go_simp
  refine hK.out _ _ H6.out.hb ?_
  clear hK K y0 y1 g0 g1
  generalize (w5.setCell ⟨w.heap.size, 0, none⟩ (.int .i64 a.k)).setCell ⟨w.heap.size, 1, none⟩ (.int .i64 a.n) = w6 at *
  obtain ⟨y0, y1, g0, g1⟩ := H6.out.hb.two List.mem_cons_self
  have H7 := hid (H6.out.write0 (by omega) HLL.out.2 (.int .i64 b.k) (.int .i64 b.n))
  refine lexW_sole (fun K hK => ?_)
  go_simp
  refine hK.out _ _ H7.out.hb ?_
  clear hK K y0 y1 g0 g1
  generalize (w6.setCell ⟨w.heap.size + 1, 0, none⟩ (.int .i64 b.k)).setCell ⟨w.heap.size + 1, 1, none⟩ (.int .i64 b.n) = w7 at *
  refine lexW_done ?_
  clear HL H4 H5 H6 HLL
  go_wp2
  obtain ⟨y0, y1, g0, g1⟩ := H7.out.hb.two List.mem_cons_self
  obtain ⟨u0, u1, v0, v1⟩ := H7.out.hb.two (List.mem_cons_of_mem _ List.mem_cons_self)
  exact bodyPost_ret (v := .tuple #[.agg #[.int .i64 a.k, .int .i64 a.n], .agg #[.int .i64 b.k, .int .i64 b.n]]) (by simp [results, Tryz.results135, go_sem, y0, y1, u0, u1]) rfl ⟨rfl, H7.out.drop (fun t ht => List.mem_cons_of_mem _ (List.mem_cons_of_mem _ ht))⟩
end Go.Proofs.YtkafkipjedpohaaGreatDoor
