import Derived.Test.YtkafkipjedpohaaGreatDoorK3

/-
  Package upshiftkeep: looped.
-/
namespace Go.Proofs.YtkafkipjedpohaaGreatDoor
open Go.RowKit

theorem ListAt.below {w w' : World} {B b : Nat} {x : List (Int × Int)} (h : ListAt w b x) (k : Below B w w') (hb : b < B) : ListAt w' b x :=
  fun j u hu => (k.cell (p := ⟨b, j, none⟩) hb).trans (h j u hu)

/-- An append of a list of instructions to one that the call itself has made. -/
theorem append_ownL {ops : Array Oper} {rest : List Oper} {o : Oper} {a : Act} {Q : Exit → Act → World → Prop} (w : World) (hgd : o.guard = none) (s z : Operand)
    (ho : o.op = .call { callee := .builtin .append, args := #[s, z], argTypes := #[29, 29] })
    (B : Nat) (v : Value) (n : Nat) (x : List (Int × Int)) (hs : a.eval s = v) (hown : OwnL w B v x) (hn : n = x.length)
    (b m c : Nat) (y : List (Int × Int)) (hz : a.eval z = .slice (some ⟨b, 0, none⟩) m c) (hm : m = y.length) (hl : ListAt w b y) (hy : 1 ≤ y.length) (h1000 : x.length + y.length ≤ 1000) (hB : B ≤ w.heap.size)
    (h : ∀ g cap w', OwnL w' B (.slice (some ⟨g, 0, none⟩) (n + m) cap) (x ++ y) → Below B w w' → (∀ k, k < w.heap.size → some k ≠ v.ownBlock → w'.heap[k]? = w.heap[k]?) → wpList Tryz.prog ops Q rest (a.put o.dst (.slice (some ⟨g, 0, none⟩) (n + m) cap)) w') : wpList Tryz.prog ops Q (o :: rest) a w := by
  obtain ⟨inf, hi, hz0, hz1, hz2⟩ := Tryz.infoIns
  subst hn hm
  refine wpList_append_lies w hgd s z _ ho B 33 inf _ 2 16 Tryz.underlying29 hi hz0 hz1 hz2 rfl (by decide) v x.length _ hs hown ⟨b, 0, none⟩ y.length c (icells y) hz (icells_len y) (fun j u hu => ?_) (icells_one y) (by omega) (by unfold maxLen; omega) (by omega) hB _ rfl ?_
  · rw [Addr.add_lit, Nat.zero_add]
    exact hl j u hu
  · intro g cap w' h1 h2 h3 h4
    exact h g cap w' (OwnL.grew rfl rfl rfl h1) (below_grown h2 hown.own hB) h2.block

/-- A list that was just laid. -/
theorem list_made (w : World) (x : List (Int × Int)) (t : TypeId) (b : Nat) (hb : b = w.heap.size) (cs : Array Value) (hcs : cs = (icells x).toArray) : ListAt (w.alloc (.cells cs t)) b x := by
  subst hb hcs
  intro j u hu
  rw [cell_made w _ _ _ _ rfl]
  simpa using hu

set_option maxRecDepth 100000 in
set_option maxHeartbeats 1000000 in
theorem looped_any (x : List (Int × Int)) (hx : 1 ≤ x.length) (hx8 : x.length ≤ 64) (b cap off : Nat) (hoff : off ≤ 64) (times : Int) (w : World) (hb : b < w.heap.size) (hl : ListAt w b x) :
    Calls Tryz.prog 31 #[.slice (some ⟨b, 0, none⟩) x.length cap, .int .i64 off, .int .i64 times] w (Gave (loopedP x off times) w) := by
  obtain ⟨inf, hi, hz0, hz1, hz2⟩ := Tryz.infoIns
  have e1 : wrap64 ((off : Int) + 9) = (off : Int) + 9 := by unfold wrap64; omega
  have e2 : wrap64 ((off : Int) + 9 + (x.length : Int)) = (off : Int) + 9 + (x.length : Int) := by unfold wrap64; omega
  have e3 : wrap64 ((off : Int) + 2) = (off : Int) + 2 := by unfold wrap64; omega
  have HL := hidK hl
  clear hl
  generalize hn : x.length = n at *
  have HN := hidK hn
  clear hn
  go_enter Tryz.func31, Tryz.ntmps31
  go_wp2_with (first
    | (go_at_call 15; refine (keepLoad_any _ _).mono ?_; rintro e w' ⟨rfl, hw'⟩; rw [hw']; clear hw' w')
    | (go_at_call 43; refine (keepStore_any _ _).mono ?_; rintro e w' ⟨rfl, hw'⟩; rw [hw']; clear hw' w')
    | (go_at_call 33; refine (keepConst_any _ _).mono ?_; rintro e w' ⟨rfl, hw'⟩; rw [hw']; clear hw' w')
    | (go_at_call 16; refine (keepOp_any _ _).mono ?_; rintro e w' ⟨rfl, hw'⟩; rw [hw']; clear hw' w')
    | (at_builtin; refine stopHere ?_))
  refine ⟨?_, trivial⟩
  have hW : Below w.heap.size w ((((w.alloc (.cells #[.int .i64 0, .int .i64 times] 33)).alloc (.cells #[.int .i64 3, .int .i64 5] 33)).alloc (.cells #[.int .i64 2, .int .i64 5] 33)).alloc (.cells #[.int .i64 0, .int .i64 times, .int .i64 3, .int .i64 5, .int .i64 2, .int .i64 5, .int .i64 11, .int .i64 ((off : Int) + 9 + n)] 33)) := by
    repeat (first | exact Below.refl _ _ | refine Below.alloc ?_ (by first | omega | (simp; done) | (simp; omega)) _)
  have hO : OwnL ((((w.alloc (.cells #[.int .i64 0, .int .i64 times] 33)).alloc (.cells #[.int .i64 3, .int .i64 5] 33)).alloc (.cells #[.int .i64 2, .int .i64 5] 33)).alloc (.cells #[.int .i64 0, .int .i64 times, .int .i64 3, .int .i64 5, .int .i64 2, .int .i64 5, .int .i64 11, .int .i64 ((off : Int) + 9 + n)] 33)) w.heap.size (.slice (some ⟨w.heap.size + 1 + 1 + 1, 0, none⟩) 4 4) [(0, times), (3, 5), (2, 5), (11, (off : Int) + 9 + n)] :=
    OwnL.made _ _ _ _ _ _ (by simp) rfl rfl (by simp; omega) (by unfold maxLen; simp) _ (by simp [icells])
  have hL := HL.out.below hW hb
  have hs := hW.size
  have HW := hidK hW
  have HO := hidK hO
  have HL2 := hidK hL
  clear hW hO hL HL
  generalize (((w.alloc (.cells #[.int .i64 0, .int .i64 times] 33)).alloc (.cells #[.int .i64 3, .int .i64 5] 33)).alloc (.cells #[.int .i64 2, .int .i64 5] 33)).alloc (.cells #[.int .i64 0, .int .i64 times, .int .i64 3, .int .i64 5, .int .i64 2, .int .i64 5, .int .i64 11, .int .i64 ((off : Int) + 9 + n)] 33) = W at *
  refine append_ownL _ rfl _ _ rfl w.heap.size _ _ _ rfl HO.out rfl _ _ _ x rfl HN.out.symm HL2.out (by rw [HN.out]; exact hx) (by simp; rw [HN.out]; omega) hs ?_
  intro g1 cap1 w1 hO1 hB1 hk1
  have HO1 := hidK hO1
  have HB1 := hidK (HW.out.trans hB1)
  have hs1 : w.heap.size ≤ w1.heap.size := HB1.out.size
  clear hO1 hB1 hk1
  simp only [List.length_cons, List.length_nil, Nat.zero_add, Nat.reduceAdd] at *
  go_wp2_with (first
    | (go_at_call 15; refine (keepLoad_any _ _).mono ?_; rintro e w' ⟨rfl, hw'⟩; rw [hw']; clear hw' w')
    | (go_at_call 43; refine (keepStore_any _ _).mono ?_; rintro e w' ⟨rfl, hw'⟩; rw [hw']; clear hw' w')
    | (go_at_call 33; refine (keepConst_any _ _).mono ?_; rintro e w' ⟨rfl, hw'⟩; rw [hw']; clear hw' w')
    | (go_at_call 16; refine (keepOp_any _ _).mono ?_; rintro e w' ⟨rfl, hw'⟩; rw [hw']; clear hw' w')
    | (at_builtin; refine stopHere ?_))
  refine ⟨?_, trivial⟩
  refine append_ownL _ rfl _ _ rfl w.heap.size _ (4 + n) _ rfl (HO1.out.below (by repeat (first | exact Below.refl _ _ | refine Below.alloc ?_ (by first | omega | (simp; done) | (simp; omega)) _))) (by simp [HN.out]; omega) _ _ _ [(2, 5), (0, 1), (5, 0), (3, 5), (10, (off : Int) + 2)] rfl rfl (list_made _ _ _ _ (by simp) _ (by simp [icells])) (by simp) (by simp; rw [HN.out]; omega) (by simp; omega) ?_
  intro g2 cap2 w2 hO2 hB2 hk2
  have HO2 := hidK hO2
  have HB2 : Hid (Below w.heap.size w w2) := by
    refine Below.trans ?_ hB2
    repeat (first | exact HB1.out | refine Below.alloc ?_ (by first | omega | (simp; done) | (simp; omega)) _)
  clear hO2 hB2 hk2
  go_wp2
  go_ret
  have e : loopedP x off times = [(0, times), (3, 5), (2, 5), (11, (off : Int) + 9 + n)] ++ x ++ [(2, 5), (0, 1), (5, 0), (3, 5), (10, (off : Int) + 2)] := by
    unfold loopedP
    rw [HN.out]
    simp
  rw [e]
  exact OwnL.gave HO2.out (by simp) HB2.out
end Go.Proofs.YtkafkipjedpohaaGreatDoor
