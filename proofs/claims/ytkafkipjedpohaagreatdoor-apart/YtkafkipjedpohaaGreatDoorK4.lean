import Derived.Test.YtkafkipjedpohaaGreatDoorK1

/-
  Package upshiftkeep: looped.
-/
namespace Go.Proofs.YtkafkipjedpohaaGreatDoor
open Go.RowKit

theorem ListAt.below {w w' : World} {B b : Nat} {x : List (Int × Int)} (h : ListAt w b x) (k : Below B w w') (hb : b < B) : ListAt w' b x :=
  fun j u hu => (k.cell (p := ⟨b, j, none⟩) hb).trans (h j u hu)

/-- An append of a list of instructions to one that the call itself has made. -/
theorem append_ownL {ops : Array Oper} {rest : List Oper} {o : Oper} {a : Act} {Q : Exit → Act → World → Prop} (w : World) (hgd : o.guard = none) (s z : Operand)
    (ho : o.op = .call { callee := .builtin .append, args := #[s, z], argTypes := #[29, 29] })
    (B : Nat) (v : Value) (n : Nat) (x : List (Int × Int)) (hs : a.eval s = v) (hown : OwnL w B v x) (hn : n = x.length)
    (b m c : Nat) (y : List (Int × Int)) (hz : a.eval z = .slice (some ⟨b, 0, none⟩) m c) (hm : m = y.length) (hl : ListAt w b y) (hy : 1 ≤ y.length) (h1000 : x.length + y.length ≤ 1000) (hB : B ≤ w.heap.size)
    (h : ∀ g cap w', OwnL w' B (.slice (some ⟨g, 0, none⟩) (n + m) cap) (x ++ y) → Below B w w' → (∀ k, k < w.heap.size → some k ≠ v.ownBlock → w'.heap[k]? = w.heap[k]?) → wpList Tryz.prog ops Q rest (a.put o.dst (.slice (some ⟨g, 0, none⟩) (n + m) cap)) w') : wpList Tryz.prog ops Q (o :: rest) a w := by
  obtain ⟨inf, hi, hz0, hz1, hz2⟩ := Tryz.infoIns
  subst hn hm
  refine wpList_append_lies w hgd s z _ ho B 33 inf _ 2 16 Tryz.underlying29 hi hz0 hz1 hz2 rfl (by decide) v x.length _ hs hown ⟨b, 0, none⟩ y.length c (icells y) hz (icells_len y) (fun j u hu => ?_) (icells_one y) (by omega) (by unfold maxLen; omega) (by omega) hB _ rfl ?_
  · rw [Addr.add_lit, Nat.zero_add]
    exact hl j u hu
  · intro g cap w' h1 h2 h3 h4
    exact h g cap w' (OwnL.grew rfl rfl rfl h1) (below_grown h2 hown.own hB) h2.block

/-- A list that was just laid. -/
theorem list_made (w : World) (x : List (Int × Int)) (t : TypeId) (b : Nat) (hb : b = w.heap.size) (cs : Array Value) (hcs : cs = (icells x).toArray) : ListAt (w.alloc (.cells cs t)) b x := by
  subst hb hcs
  intro j u hu
  rw [cell_made w _ _ _ _ rfl]
  simpa using hu

set_option maxRecDepth 100000 in
set_option maxHeartbeats 1000000 in
theorem looped_any (x : List (Int × Int)) (hx : 1 ≤ x.length) (hx8 : x.length ≤ 64) (b cap off : Nat) (hoff : off ≤ 64) (times : Int) (w : World) (hb : b < w.heap.size) (hl : ListAt w b x) :
    Calls Tryz.prog 31 #[.slice (some ⟨b, 0, none⟩) x.length cap, .int .i64 off, .int .i64 times] w (Gave (loopedP x off times) w) := by
  obtain ⟨inf, hi, hz0, hz1, hz2⟩ := Tryz.infoIns
  have e1 : wrap64 ((off : Int) + 9) = (off : Int) + 9 := by unfold wrap64; omega
  have e2 : wrap64 ((off : Int) + 9 + (x.length : Int)) = (off : Int) + 9 + (x.length : Int) := by unfold wrap64; omega
  have e3 : wrap64 ((off : Int) + 2) = (off : Int) + 2 := by unfold wrap64; omega
  have HL := hidK hl
  clear hl
  generalize hn : x.length = n at *
  have HN := hidK hn
  clear hn
  go_enter Tryz.func31, Tryz.ntmps31
  go_wp2_with (first
    | (go_at_call 15; refine (keepLoad_any _ _).mono ?_; rintro e w' ⟨rfl, hw'⟩; rw [hw']; clear hw' w')
    | (go_at_call 43; refine (keepStore_any _ _).mono ?_; rintro e w' ⟨rfl, hw'⟩; rw [hw']; clear hw' w')
    | (go_at_call 33; refine (keepConst_any _ _).mono ?_; rintro e w' ⟨rfl, hw'⟩; rw [hw']; clear hw' w')
    | (go_at_call 16; refine (keepOp_any _ _).mono ?_; rintro e w' ⟨rfl, hw'⟩; rw [hw']; clear hw' w')
    | (at_builtin; refine stopHere ?_))
  refine ⟨?_, trivial⟩
  have hW : Below w.heap.size w ((((w.alloc (.cells #[.int .i64 0, .int .i64 times] 33)).alloc (.cells #[.int .i64 3, .int .i64 5] 33)).alloc (.cells #[.int .i64 2, .int .i64 5] 33)).alloc (.cells #[.int .i64 0, .int .i64 times, .int .i64 3, .int .i64 5, .int .i64 2, .int .i64 5, .int .i64 11, .int .i64 ((off : Int) + 9 + n)] 33)) := by
    repeat (first | exact Below.refl _ _ | refine Below.alloc ?_ (by first | omega | (simp; done) | (simp; omega)) _)
  have hO : OwnL ((((w.alloc (.cells #[.int .i64 0, .int .i64 times] 33)).alloc (.cells #[.int .i64 3, .int .i64 5] 33)).alloc (.cells #[.int .i64 2, .int .i64 5] 33)).alloc (.cells #[.int .i64 0, .int .i64 times, .int .i64 3, .int .i64 5, .int .i64 2, .int .i64 5, .int .i64 11, .int .i64 ((off : Int) + 9 + n)] 33)) w.heap.size (.slice (some ⟨w.heap.size + 1 + 1 + 1, 0, none⟩) 4 4) [(0, times), (3, 5), (2, 5), (11, (off : Int) + 9 + n)] :=
    OwnL.made _ _ _ _ _ _ (by simp) rfl rfl (by simp; omega) (by unfold maxLen; simp) _ (by simp [icells])
  have hL := HL.out.below hW hb
  have hs := hW.size
  have HW := hidK hW
  have HO := hidK hO
  have HL2 := hidK hL
  clear hW hO hL HL
  generalize (((w.alloc (.cells #[.int .i64 0, .int .i64 times] 33)).alloc (.cells #[.int .i64 3, .int .i64 5] 33)).alloc (.cells #[.int .i64 2, .int .i64 5] 33)).alloc (.cells #[.int .i64 0, .int .i64 times, .int .i64 3, .int .i64 5, .int .i64 2, .int .i64 5, .int .i64 11, .int .i64 ((off : Int) + 9 + n)] 33) = W at *
  refine append_ownL _ rfl _ _ rfl w.heap.size _ _ _ rfl HO.out rfl _ _ _ x rfl HN.out.symm HL2.out (by rw [HN.out]; exact hx) (by simp; rw [HN.out]; omega) hs ?_
  intro g1 cap1 w1 hO1 hB1 hk1
  have HO1 := hidK hO1
  have HB1 := hidK (HW.out.trans hB1)
  have hs1 : w.heap.size ≤ w1.heap.size := HB1.out.size
  clear hO1 hB1 hk1
  simp only [List.length_cons, List.length_nil, Nat.zero_add, Nat.reduceAdd] at *
  go_wp2_with (first
    | (go_at_call 15; refine (keepLoad_any _ _).mono ?_; rintro e w' ⟨rfl, hw'⟩; rw [hw']; clear hw' w')
    | (go_at_call 43; refine (keepStore_any _ _).mono ?_; rintro e w' ⟨rfl, hw'⟩; rw [hw']; clear hw' w')
    | (go_at_call 33; refine (keepConst_any _ _).mono ?_; rintro e w' ⟨rfl, hw'⟩; rw [hw']; clear hw' w')
    | (go_at_call 16; refine (keepOp_any _ _).mono ?_; rintro e w' ⟨rfl, hw'⟩; rw [hw']; clear hw' w')
    | (at_builtin; refine stopHere ?_))
  refine ⟨?_, trivial⟩
  refine append_ownL _ rfl _ _ rfl w.heap.size _ (4 + n) _ rfl (HO1.out.below (by repeat (first | exact Below.refl _ _ | refine Below.alloc ?_ (by first | omega | (simp; done) | (simp; omega)) _))) (by simp [HN.out]; omega) _ _ _ [(2, 5), (0, 1), (5, 0), (3, 5), (10, (off : Int) + 2)] rfl rfl (list_made _ _ _ _ (by simp) _ (by simp [icells])) (by simp) (by simp; rw [HN.out]; omega) (by simp; omega) ?_
  intro g2 cap2 w2 hO2 hB2 hk2
  have HO2 := hidK hO2
  have HB2 : Hid (Below w.heap.size w w2) := by
    refine Below.trans ?_ hB2
    repeat (first | exact HB1.out | refine Below.alloc ?_ (by first | omega | (simp; done) | (simp; omega)) _)
  clear hO2 hB2 hk2
  go_wp2
  go_ret
  have e : loopedP x off times = [(0, times), (3, 5), (2, 5), (11, (off : Int) + 9 + n)] ++ x ++ [(2, 5), (0, 1), (5, 0), (3, 5), (10, (off : Int) + 2)] := by
    unfold loopedP
    rw [HN.out]
    simp
  rw [e]
  exact OwnL.gave HO2.out (by simp) HB2.out
end Go.Proofs.YtkafkipjedpohaaGreatDoor

/-
  Package upshiftkeep: prog, the lines of one function.
-/
namespace Go.Proofs.YtkafkipjedpohaaGreatDoor
open Go.RowKit

/-- Lines as they lie in memory. -/
def LinesAt (w : World) (b off : Nat) (ls : List Ln) : Prop := ∀ i l, ls[i]? = some l → LnOk l ∧
  w.cell? ⟨b, off + i * 7, none⟩ = some (.int .i64 l.i) ∧ w.cell? ⟨b, off + i * 7 + 1, none⟩ = some (.int .i64 l.kind) ∧ w.cell? ⟨b, off + i * 7 + 2, none⟩ = some (.int .i64 l.p) ∧
  w.cell? ⟨b, off + i * 7 + 3, none⟩ = some (.int .i64 l.q) ∧ w.cell? ⟨b, off + i * 7 + 4, none⟩ = some (.int .i64 l.r) ∧ w.cell? ⟨b, off + i * 7 + 5, none⟩ = some (.int .i64 l.loop) ∧ w.cell? ⟨b, off + i * 7 + 6, none⟩ = some (.int .i64 l.num)

theorem LinesAt.below {w w' : World} {B b off : Nat} {ls : List Ln} (h : LinesAt w b off ls) (k : Below B w w') (hb : b < B) : LinesAt w' b off ls := fun i l hl => by
  obtain ⟨h0, h1, h2, h3, h4, h5, h6, h7⟩ := h i l hl
  exact ⟨h0, (k.cell (p := ⟨b, _, none⟩) hb).trans h1, (k.cell (p := ⟨b, _, none⟩) hb).trans h2, (k.cell (p := ⟨b, _, none⟩) hb).trans h3, (k.cell (p := ⟨b, _, none⟩) hb).trans h4, (k.cell (p := ⟨b, _, none⟩) hb).trans h5, (k.cell (p := ⟨b, _, none⟩) hb).trans h6, (k.cell (p := ⟨b, _, none⟩) hb).trans h7⟩

/-- The lines that are handed in. -/
def LinesIn (w : World) (a : Option Addr) (ls : List Ln) : Prop := ls ≠ [] → ∃ b off, a = some ⟨b, off, none⟩ ∧ b < w.heap.size ∧ LinesAt w b off ls

theorem line_len (l : Ln) : 2 ≤ (lineP l).length ∧ (lineP l).length ≤ 5 := by
  have h3 := pickP_bd l.r (n := 3) (by omega)
  unfold lineP
  dsimp only
  split; simp
  split; simp
  split; simp
  split; simp
  split
  · simp [loads_len]; omega
  split; simp
  split; simp
  split; simp
  split; simp
  simp
theorem looped_len (x : List (Int × Int)) (off : Nat) (t : Int) : (loopedP x off t).length = x.length + 9 := by simp [loopedP]

theorem OwnL.form {w : World} {B : Nat} {v : Value} {x : List (Int × Int)} (h : OwnL w B v x) : ∃ p c, v = .slice p x.length c := by
  rcases h.2 with ⟨h1, h2⟩ | ⟨g, cap, cur, hv, _⟩
  · exact ⟨none, 0, by rw [h1, h2]⟩
  · exact ⟨_, _, hv⟩

/-- The lines of function f ahead of line i. -/
def partP (f : Nat) (ls : List Ln) (i : Nat) : List (Int × Int) := (ls.take i).foldl (addP f) []
theorem part_succ (f : Nat) (ls : List Ln) (i : Nat) (l : Ln) (h : ls[i]? = some l) : partP f ls (i + 1) = addP f (partP f ls i) l := by
  unfold partP
  rw [List.take_add_one, h]
  simp
theorem part_len (f : Nat) (ls : List Ln) (i : Nat) : (partP f ls i).length ≤ 62 := (fold_seg f _ [] ⟨by simp, _, Seg.nil _ _ 0 0⟩).1
theorem part_end (f : Nat) (ls : List Ln) (i : Nat) (h : ls.length ≤ i ∨ i = 200) (hi : i ≤ ls.length ∧ i ≤ 200) : partP f ls i = bodyP f ls := by
  unfold partP bodyP
  rcases h with h | h
  · rw [List.take_of_length_le (by omega), List.take_of_length_le (by omega)]
  · rw [h]

/-- What the first of prog's loops has made. -/
def fcells (ls : List Ln) (CB CC : Nat → Nat) (n : Nat) : List Value := (List.range n).flatMap fun f : Nat => [.int .i64 (f : Int), .int .i64 6, .slice (some ⟨CB f, 0, none⟩) (codeP f ls).length (CC f)]
theorem Tryz.infoFunc : ∃ i, Tryz.prog.info? 31 = some i ∧ i.zero = some (.agg #[.int .i64 0, .int .i64 0, .slice none 0 0]) ∧ i.size = 3 ∧ i.bytes = 40 := by
  have h : (Tryz.prog.info? 31).map (fun i => (i.zero, i.size, i.bytes)) = some (some (.agg #[.int .i64 0, .int .i64 0, .slice none 0 0]), 3, 40) := by kernel_rfl
  obtain ⟨i, hi, hzz⟩ := Option.map_eq_some_iff.1 h
  simp only [Prod.mk.injEq] at hzz
  exact ⟨i, hi, hzz.1, hzz.2.1, hzz.2.2⟩

theorem fcells_succ (ls : List Ln) (CB CC : Nat → Nat) (n g c : Nat) : fcells ls (upd CB n g) (upd CC n c) (n + 1) = fcells ls CB CC n ++ [.int .i64 (n : Int), .int .i64 6, .slice (some ⟨g, 0, none⟩) (codeP n ls).length c] := by
  unfold fcells
  rw [List.range_succ, List.flatMap_append]
  have h : ∀ m, m ≤ n → (List.range m).flatMap (fun f : Nat => [Value.int .i64 (f : Int), .int .i64 6, .slice (some ⟨upd CB n g f, 0, none⟩) (codeP f ls).length (upd CC n c f)]) = (List.range m).flatMap (fun f : Nat => [Value.int .i64 (f : Int), .int .i64 6, .slice (some ⟨CB f, 0, none⟩) (codeP f ls).length (CC f)]) := by
    intro m
    induction m with
    | zero => intro _; rfl
    | succ m ih =>
      intro hm
      rw [List.range_succ, List.flatMap_append, List.flatMap_append, ih (by omega)]
      simp [upd_other _ _ _ _ (show m ≠ n by omega)]
  rw [h n (Nat.le_refl _)]
  simp [upd_same]

/-- n functions made, v their list. -/
def MadeF (w wr : World) (ls : List Ln) (v : Value) (n : Nat) : Prop :=
  Below w.heap.size w wr ∧ ∃ CB CC, wr.ownsRow w.heap.size 31 3 v n (fcells ls CB CC n) ∧ ∀ f, f < n → w.heap.size ≤ CB f ∧ CB f < wr.heap.size ∧ some (CB f) ≠ v.ownBlock ∧ ListAt wr (CB f) (codeP f ls) ∧ (codeP f ls).length ≤ CC f

theorem ownBlock_lt {w : World} {B : Nat} {e : TypeId} {size : Nat} {v : Value} {n : Nat} {xs : List Value} (h : w.ownsRow B e size v n xs) {k : Nat} (hk : v.ownBlock = some k) : B ≤ k ∧ k < w.heap.size := by
  rcases h.2 with ⟨h2, _⟩ | ⟨g, cap, cur, hv, hb, hg, _⟩
  · rw [h2] at hk; simp [Value.ownBlock] at hk
  · rw [hv] at hk
    have : g = k := by simpa [Value.ownBlock] using hk
    subst this
    exact ⟨hb, (Array.getElem?_eq_some_iff.1 hg).1⟩
theorem owns_below {w w' : World} {B : Nat} {e : TypeId} {size : Nat} {v : Value} {n : Nat} {xs : List Value} (h : w.ownsRow B e size v n xs) (k : Below w.heap.size w w') : w'.ownsRow B e size v n xs := by
  obtain ⟨h1, h2⟩ := h
  refine ⟨h1, ?_⟩
  rcases h2 with h2 | ⟨g, cap, cur, hv, hb, hg, hr⟩
  · exact Or.inl h2
  · exact Or.inr ⟨g, cap, cur, hv, hb, (k.block g (Array.getElem?_eq_some_iff.1 hg).1).trans hg, hr⟩

/-- One function more. -/
theorem MadeF.step {w w0 w5 w7 : World} {ls : List Ln} {u : Value} {j g5 cap5 g7 cap7 : Nat} {CB CC : Nat → Nat} {o : Obj} (hM : Below w.heap.size w w0) (hC : w0.ownsRow w.heap.size 31 3 u j (fcells ls CB CC j)) (hF : ∀ f, f < j → w.heap.size ≤ CB f ∧ CB f < w0.heap.size ∧ some (CB f) ≠ u.ownBlock ∧ ListAt w0 (CB f) (codeP f ls) ∧ (codeP f ls).length ≤ CC f)
    (hB5 : Below w0.heap.size w0 w5) (hO5 : OwnL w5 w0.heap.size (.slice (some ⟨g5, 0, none⟩) (codeP j ls).length cap5) (codeP j ls))
    (hown : w7.ownsRow w.heap.size 31 3 (.slice (some ⟨g7, 0, none⟩) (j + 1) cap7) (j + 1) (fcells ls CB CC j ++ [.int .i64 (j : Int), .int .i64 6, .slice (some ⟨g5, 0, none⟩) (codeP j ls).length cap5]))
    (hgrow : (w5.alloc o).grownBy w7 u.ownBlock) (hat : u.ownBlock = some g7 ∨ g7 = w5.heap.size + 1) : MadeF w w7 ls (.slice (some ⟨g7, 0, none⟩) (j + 1) cap7) (j + 1) := by
  have hs0 := hM.size
  have hs5 := hB5.size
  have hsA : (w5.alloc o).heap.size = w5.heap.size + 1 := by simp
  have hub : ∀ k, u.ownBlock = some k → w.heap.size ≤ k ∧ k < w0.heap.size := fun k hk => ownBlock_lt hC hk
  have hg5 : w0.heap.size ≤ g5 ∧ g5 < w5.heap.size := ownBlock_lt hO5 rfl
  have hL5 : ListAt w5 g5 (codeP j ls) ∧ (codeP j ls).length ≤ cap5 := by
    obtain ⟨b, cap, he, _, _, _, h5, h6⟩ := OwnL.gave (w := w0) hO5 (by simp [codeP]) hB5
    injection he with he
    injection he with e1 e2 e3
    injection e1 with e1
    injection e1 with e1
    subst e1
    subst e3
    exact ⟨h6, h5⟩
  have hA : Below w5.heap.size w5 (w5.alloc o) := (Below.refl _ _).alloc (Nat.le_refl _) _
  have hcell : ∀ k, k < w5.heap.size → some k ≠ u.ownBlock → w7.heap[k]? = w5.heap[k]? := fun k hk hne => (hgrow.block k (by omega) hne).trans (hA.block k hk)
  refine ⟨?_, upd CB j g5, upd CC j cap5, ?_, fun f hf => ?_⟩
  · exact (hM.trans (hB5.mono hs0)).trans ((hA.mono (by omega)).trans (below_grown hgrow (fun k hk => (hub k hk).1) (by omega)))
  · rw [fcells_succ]
    exact hown
  · have hsize := hgrow.size
    by_cases e : f = j
    · subst e
      rw [upd_same, upd_same]
      have hne : some g5 ≠ u.ownBlock := fun h => by have := hub g5 h.symm; omega
      refine ⟨by omega, by omega, ?_, fun i v hv => ?_, hL5.2⟩
      · intro h
        have h : some g5 = some g7 := h
        injection h with h
        rcases hat with h2 | h2
        · exact hne (by rw [h2, h])
        · omega
      · exact (World.cell?_of_block (w := w5) (a := ⟨g5, i, none⟩) (hcell g5 hg5.2 hne)).trans (hL5.1 i v hv)
    · rw [upd_other _ _ _ _ e, upd_other _ _ _ _ e]
      obtain ⟨f1, f2, f3, f4, f5⟩ := hF f (by omega)
      refine ⟨f1, by omega, ?_, fun i v hv => ?_, f5⟩
      · intro h
        have h : some (CB f) = some g7 := h
        injection h with h
        rcases hat with h2 | h2
        · exact f3 (by rw [h2, h])
        · omega
      · exact (World.cell?_of_block (w := w5) (a := ⟨CB f, i, none⟩) (hcell (CB f) (by omega) f3)).trans ((hB5.cell (p := ⟨CB f, i, none⟩) f2).trans (f4 i v hv))

set_option maxRecDepth 100000 in
set_option maxHeartbeats 2000000 in
theorem prog_any (ls : List Ln) (a : Option Addr) (cap : Nat) (w : World) (hin : LinesIn w a ls) (hlen : ls.length ≤ 140737488355328) :
    Calls Tryz.prog 12 #[.slice a ls.length cap] w fun e w' => ∃ v, e = .returned v ∧ MadeF w w' ls v 3 := by
  have HIn := hidK hin
  clear hin
  generalize hn : ls.length = n at *
  have HN := hidK hn
  clear hn
  go_enter Tryz.func12, Tryz.ntmps12
  go_wp2
  go_loopw [3, 4] (fun o v wr => ∃ j : Nat, j ≤ 3 ∧ v = .int .i64 j ∧ MadeF w wr ls o j) (fun _ v _ => 3 - (intOf v).toNat)
  case atStart => exact ⟨0, by omega, rfl, Below.refl _ _, fun _ => 0, fun _ => 0, ⟨rfl, Or.inl ⟨rfl, rfl⟩⟩, fun f hf => by omega⟩
  case round =>
    obtain ⟨j, hj, rfl, hM⟩ := hrel
    have HM := hidK hM
    clear hM
    generalize wr = w0 at *
    by_cases hlt : j < 3
    · have hd : decide ((j : Int) < 3) = true := by simp; omega
      go_wp2
      go_loopw [5, 6] (fun c v wr => ∃ i : Nat, i ≤ n ∧ i ≤ 200 ∧ v = .int .i64 i ∧ Below w0.heap.size w0 wr ∧ OwnL wr w0.heap.size c (partP j ls i)) (fun _ v _ => 200 - (intOf v).toNat)
      case atStart => exact ⟨0, by omega, by omega, rfl, Below.refl _ _, OwnL.nil _ _⟩
      case round =>
        obtain ⟨i, hi1, hi2, rfl, hB, hO⟩ := hrel
        have HB := hidK hB
        have HO := hidK hO
        clear hB hO
        by_cases hc : i < n ∧ i < 200
        · obtain ⟨hc1, hc2⟩ := hc
          have d1 : decide ((i : Int) < (n : Int)) = true := by simp; omega
          have d2 : decide ((i : Int) < 200) = true := by simp; omega
          obtain ⟨l, hl⟩ : ∃ l, ls[i]? = some l := ⟨ls[i]'(by rw [HN.out]; exact hc1), List.getElem?_eq_getElem _⟩
          obtain ⟨lb, lo, rfl, hlb, hLA⟩ := HIn.out (by intro h; rw [h] at hl; simp at hl)
          have hww : Below w.heap.size w wr := HM.out.1.trans (HB.out.mono HM.out.1.size)
          have hwrz : w.heap.size ≤ wr.heap.size := hww.size
          obtain ⟨hok, c0, c1, c2, c3, c4, c5, c6⟩ := (hLA.below hww hlb) i l hl
          obtain ⟨pc, cc, rfl⟩ := HO.out.form
          have hsucc := hidK (part_succ j ls i l hl)
          have hpl := part_len j ls i
          have hlw : lb < wr.heap.size := by omega
          clear hl hLA hww
          generalize hplx : (partP j ls i).length = pl at *
          have HPL := hidK hplx
          clear hplx
          by_cases hf : pickP l.i 3 = j
          · have e1 : (pickP l.i 3 != (j : Int)) = false := by simp [hf]
            have HF := hidK hf
            clear hf
            go_wp2_with fail
            refine (keepPick_any _ _ _ hok.i (by omega)).mono ?_
            rintro e w' ⟨rfl, hw'⟩
            rw [hw']
            clear hw' w'
            go_wp2_with fail
            refine (line_any l hok _).mono ?_
            rintro e w2 ⟨b2, cap2, rfl, hB2, hb2, hb2', hcap2, hL2⟩
            have q5 := (hB2.cell (p := ⟨lb, lo + i * 7 + 5, none⟩) hlw).trans c5
            have hll := line_len l
            have HL2 := hidK hL2
            have HB2 := hidK hB2
            clear hL2 hB2
            generalize hxl : (lineP l).length = xl at *
            have HXL := hidK hxl
            clear hxl
            go_wp2_with fail
            refine (keepPick_any _ _ _ hok.loop (by omega)).mono ?_
            rintro e w' ⟨rfl, hw'⟩
            rw [hw']
            clear hw' w'
            have h8 := pickP_bd l.loop (n := 8) (by omega)
            by_cases h3 : 3 < pickP l.loop 8
            · have d3 : decide (3 < pickP l.loop 8) = true := by simp [h3]
              have e3 : wrap64 (pickP l.loop 8 - 3) = pickP l.loop 8 - 3 := by unfold wrap64; omega
              have hlo := looped_any (lineP l) (by rw [HXL.out]; omega) (by rw [HXL.out]; omega) b2 cap2 pl (by omega) (pickP l.loop 8 - 3) w2 hb2' HL2.out
              rw [HXL.out] at hlo
              have HLo := hidK hlo
              clear hlo
              go_wp2_with fail
              refine HLo.out.mono ?_
              rintro e w4 ⟨b4, cap4, rfl, hB4, hb4, hb4', hcap4, hL4⟩
              rw [looped_len, HXL.out]
              have HL4 := hidK hL4
              have HB4 : Hid (Below w0.heap.size w0 w4) := HB.out.trans ((HB2.out.mono HB.out.size).trans (hB4.mono (Nat.le_trans HB.out.size HB2.out.size)))
              have HO4 : Hid (OwnL w4 w0.heap.size (.slice pc pl cc) (partP j ls i)) := (HO.out.below HB2.out).below hB4
              clear hL4 hB4
              by_cases h62 : pl + (xl + 9 : Nat) ≤ 62
              · have d5 : decide ((pl : Int) + ((xl + 9 : Nat) : Int) ≤ 62) = true := by simp; omega
                go_wp2_with (at_builtin; refine stopHere ?_)
                refine ⟨?_, trivial⟩
                refine append_ownL _ rfl _ _ rfl w0.heap.size (.slice pc pl cc) pl (partP j ls i) rfl HO4.out HPL.out.symm _ _ _ (loopedP (lineP l) pl (pickP l.loop 8 - 3)) rfl (by rw [looped_len, HXL.out]) HL4.out (by rw [looped_len, HXL.out]; omega) (by rw [looped_len, HXL.out, HPL.out]; omega) (by have := HB4.out.size; omega) ?_
                intro g5 cap5 w5 hO5 hB5 hk5
                have HO5 := hidK hO5
                have HB5 : Hid (Below w0.heap.size w0 w5) := HB4.out.trans hB5
                clear hO5 hB5 hk5
                have hadd : Hid (addP j (partP j ls i) l = partP j ls i ++ loopedP (lineP l) pl (pickP l.loop 8 - 3) ) := by unfold Hid addP; rw [if_neg (fun h => h HF.out)]; dsimp only; rw [if_pos h3, HPL.out, if_pos (by rw [looped_len, HXL.out]; omega)]
                go_wp2
                go_roundw
                case rel => exact ⟨i + 1, by omega, by omega, by go_num, HB5.out, by rw [hsucc.out, hadd.out]; exact HO5.out⟩
                case measure => simp [intOf]; omega
              · have d5 : decide ((pl : Int) + ((xl + 9 : Nat) : Int) ≤ 62) = false := by simp; omega
                have hadd : Hid (addP j (partP j ls i) l = partP j ls i ) := by unfold Hid addP; rw [if_neg (fun h => h HF.out)]; dsimp only; rw [if_pos h3, HPL.out, if_neg (by rw [looped_len, HXL.out]; omega)]
                go_wp2
                go_roundw
                case rel => exact ⟨i + 1, by omega, by omega, by go_num, HB4.out, by rw [hsucc.out, hadd.out]; exact HO4.out⟩
                case measure => simp [intOf]; omega
            · have d3 : decide (3 < pickP l.loop 8) = false := by simp; omega
              have HL4 := HL2
              have HB4 : Hid (Below w0.heap.size w0 w2) := HB.out.trans (HB2.out.mono HB.out.size)
              have HO4 : Hid (OwnL w2 w0.heap.size (.slice pc pl cc) (partP j ls i)) := HO.out.below HB2.out
              by_cases h62 : pl + (xl : Nat) ≤ 62
              · have d5 : decide ((pl : Int) + ((xl : Nat) : Int) ≤ 62) = true := by simp; omega
                go_wp2_with (at_builtin; refine stopHere ?_)
                refine ⟨?_, trivial⟩
                refine append_ownL _ rfl _ _ rfl w0.heap.size (.slice pc pl cc) pl (partP j ls i) rfl HO4.out HPL.out.symm _ _ _ (lineP l) rfl HXL.out.symm HL4.out (by rw [HXL.out]; omega) (by rw [HXL.out, HPL.out]; omega) (by have := HB4.out.size; omega) ?_
                intro g5 cap5 w5 hO5 hB5 hk5
                have HO5 := hidK hO5
                have HB5 : Hid (Below w0.heap.size w0 w5) := HB4.out.trans hB5
                clear hO5 hB5 hk5
                have hadd : Hid (addP j (partP j ls i) l = partP j ls i ++ lineP l ) := by unfold Hid addP; rw [if_neg (fun h => h HF.out)]; dsimp only; rw [if_neg (show ¬ 3 < pickP l.loop 8 by omega), HPL.out, if_pos (by rw [HXL.out]; omega)]
                go_wp2
                go_roundw
                case rel => exact ⟨i + 1, by omega, by omega, by go_num, HB5.out, by rw [hsucc.out, hadd.out]; exact HO5.out⟩
                case measure => simp [intOf]; omega
              · have d5 : decide ((pl : Int) + ((xl : Nat) : Int) ≤ 62) = false := by simp; omega
                have hadd : Hid (addP j (partP j ls i) l = partP j ls i ) := by unfold Hid addP; rw [if_neg (fun h => h HF.out)]; dsimp only; rw [if_neg (show ¬ 3 < pickP l.loop 8 by omega), HPL.out, if_neg (by rw [HXL.out]; omega)]
                go_wp2
                go_roundw
                case rel => exact ⟨i + 1, by omega, by omega, by go_num, HB4.out, by rw [hsucc.out, hadd.out]; exact HO4.out⟩
                case measure => simp [intOf]; omega
          · have e1 : (pickP l.i 3 != (j : Int)) = true := by simpa using hf
            have hadd : Hid (addP j (partP j ls i) l = partP j ls i ) := by unfold Hid addP; rw [if_pos hf]
            clear hf
            go_wp2_with fail
            refine (keepPick_any _ _ _ hok.i (by omega)).mono ?_
            rintro e w' ⟨rfl, hw'⟩
            rw [hw']
            clear hw' w'
            go_wp2
            go_roundw
            case rel => exact ⟨i + 1, by omega, by omega, by go_num, HB.out, by rw [hsucc.out, hadd.out]; exact HO.out⟩
            case measure => simp [intOf]; omega
        · have hend := hidK (part_end j ls i (by rw [HN.out]; omega) (by rw [HN.out]; omega))
          have hcond : ((i : Int) < (n : Int)) = False ∨ (((i : Int) < (n : Int)) = True ∧ ((i : Int) < 200) = False) := by
            by_cases h : i < n
            · right; exact ⟨eq_true (by omega), eq_false (by omega)⟩
            · left; exact eq_false (by omega)
          obtain ⟨pc, cc, rfl⟩ := HO.out.form
          have hpl := part_len j ls i
          have hsz : w0.heap.size ≤ wr.heap.size := HB.out.size
          obtain ⟨hM1, CB, CC, hC, hF⟩ := HM.out
          have hs0 := hM1.size
          obtain ⟨inf, hi, hz0, hz1, hz2⟩ := Tryz.infoFunc
          have HC := hidK (And.intro hM1 (And.intro hC hF))
          clear hM1 hC hF hc
          generalize hplx : (partP j ls i).length = pl at *
          have HPL := hidK hplx
          clear hplx
          rcases hcond with d1 | ⟨d1, d2⟩
          · go_wp2_with (first
              | (go_at_call 15; refine (keepLoad_any _ _).mono ?_; rintro e w' ⟨rfl, hw'⟩; rw [hw']; clear hw' w')
              | (go_at_call 16; refine (keepOp_any _ _).mono ?_; rintro e w' ⟨rfl, hw'⟩; rw [hw']; clear hw' w')
              | (at_builtin; refine stopHere ?_))
            refine ⟨?_, trivial⟩
            refine append_ownL _ rfl _ _ rfl w0.heap.size (.slice pc pl cc) pl (partP j ls i) rfl (HO.out.below (by repeat (first | exact Below.refl _ _ | refine Below.alloc ?_ (by first | omega | (simp; done) | (simp; omega)) _))) HPL.out.symm _ _ _ [(2, 0), (14, 0)] rfl rfl (list_made _ _ _ _ (by simp) _ (by simp [icells])) (by simp) (by simp; rw [HPL.out]; omega) (by simp; omega) ?_
            intro g5 cap5 w5 hO5 hB5 hk5
            have hcl : (codeP j ls).length = pl + 2 := by rw [code_len, ← hend.out, HPL.out]
            have HO5 : Hid (OwnL w5 w0.heap.size (.slice (some ⟨g5, 0, none⟩) (codeP j ls).length cap5) (codeP j ls)) := by
              unfold Hid
              rw [hcl]
              unfold codeP
              rw [← hend.out]
              exact hO5
            have HB5 : Hid (Below w0.heap.size w0 w5) := by
              refine Below.trans ?_ hB5
              repeat (first | exact HB.out | refine Below.alloc ?_ (by first | omega | (simp; done) | (simp; omega)) _)
            have hs5 : w0.heap.size ≤ w5.heap.size := HB5.out.size
            have HCL := hidK hcl
            clear hO5 hB5 hk5 hcl
            go_wp2_with (first
              | (go_at_call 32; refine (keepArgs_any _ _).mono ?_; rintro e w' ⟨rfl, hw'⟩; rw [hw']; clear hw' w')
              | (at_builtin; refine stopHere ?_))
            refine ⟨?_, trivial⟩
            refine wpList_append_lies _ rfl _ _ _ rfl w.heap.size 31 inf _ 3 40 Tryz.underlying23 hi hz0 hz1 hz2 rfl (by decide) _ j _ rfl (World.ownsRow.alloc (owns_below HC.out.2.1 HB5.out) _) ⟨w5.heap.size, 0, none⟩ 1 1 [.int .i64 (j : Int), .int .i64 6, .slice (some ⟨g5, 0, none⟩) (pl + 2) cap5] rfl rfl (World.news_of_block (blk_at _ _ _ (by simp))) (by intro u hu; simp at hu; rcases hu with rfl | rfl | rfl <;> rfl) (by omega) (by unfold maxLen; omega) (by omega) (by simp; omega) (w5.heap.size + 1) (by simp) ?_
            intro g7 cap7 w7 hown hgrow hat hlt7
            rw [← HCL.out] at hown
            have HN7 := hidK (MadeF.step HC.out.1 HC.out.2.1 HC.out.2.2 HB5.out HO5.out hown hgrow hat)
            clear hown hgrow hat hlt7
            go_wp2
            go_roundw
            case rel => exact ⟨j + 1, by omega, by go_num, HN7.out⟩
            case measure => simp [intOf]; omega
          · go_wp2_with (first
              | (go_at_call 15; refine (keepLoad_any _ _).mono ?_; rintro e w' ⟨rfl, hw'⟩; rw [hw']; clear hw' w')
              | (go_at_call 16; refine (keepOp_any _ _).mono ?_; rintro e w' ⟨rfl, hw'⟩; rw [hw']; clear hw' w')
              | (at_builtin; refine stopHere ?_))
            refine ⟨?_, trivial⟩
            refine append_ownL _ rfl _ _ rfl w0.heap.size (.slice pc pl cc) pl (partP j ls i) rfl (HO.out.below (by repeat (first | exact Below.refl _ _ | refine Below.alloc ?_ (by first | omega | (simp; done) | (simp; omega)) _))) HPL.out.symm _ _ _ [(2, 0), (14, 0)] rfl rfl (list_made _ _ _ _ (by simp) _ (by simp [icells])) (by simp) (by simp; rw [HPL.out]; omega) (by simp; omega) ?_
            intro g5 cap5 w5 hO5 hB5 hk5
            have hcl : (codeP j ls).length = pl + 2 := by rw [code_len, ← hend.out, HPL.out]
            have HO5 : Hid (OwnL w5 w0.heap.size (.slice (some ⟨g5, 0, none⟩) (codeP j ls).length cap5) (codeP j ls)) := by
              unfold Hid
              rw [hcl]
              unfold codeP
              rw [← hend.out]
              exact hO5
            have HB5 : Hid (Below w0.heap.size w0 w5) := by
              refine Below.trans ?_ hB5
              repeat (first | exact HB.out | refine Below.alloc ?_ (by first | omega | (simp; done) | (simp; omega)) _)
            have hs5 : w0.heap.size ≤ w5.heap.size := HB5.out.size
            have HCL := hidK hcl
            clear hO5 hB5 hk5 hcl
            go_wp2_with (first
              | (go_at_call 32; refine (keepArgs_any _ _).mono ?_; rintro e w' ⟨rfl, hw'⟩; rw [hw']; clear hw' w')
              | (at_builtin; refine stopHere ?_))
            refine ⟨?_, trivial⟩
            refine wpList_append_lies _ rfl _ _ _ rfl w.heap.size 31 inf _ 3 40 Tryz.underlying23 hi hz0 hz1 hz2 rfl (by decide) _ j _ rfl (World.ownsRow.alloc (owns_below HC.out.2.1 HB5.out) _) ⟨w5.heap.size, 0, none⟩ 1 1 [.int .i64 (j : Int), .int .i64 6, .slice (some ⟨g5, 0, none⟩) (pl + 2) cap5] rfl rfl (World.news_of_block (blk_at _ _ _ (by simp))) (by intro u hu; simp at hu; rcases hu with rfl | rfl | rfl <;> rfl) (by omega) (by unfold maxLen; omega) (by omega) (by simp; omega) (w5.heap.size + 1) (by simp) ?_
            intro g7 cap7 w7 hown hgrow hat hlt7
            rw [← HCL.out] at hown
            have HN7 := hidK (MadeF.step HC.out.1 HC.out.2.1 HC.out.2.2 HB5.out HO5.out hown hgrow hat)
            clear hown hgrow hat hlt7
            go_wp2
            go_roundw
            case rel => exact ⟨j + 1, by omega, by go_num, HN7.out⟩
            case measure => simp [intOf]; omega
    · have hd : decide ((j : Int) < 3) = false := by simp; omega
      have hj3 : j = 3 := by omega
      subst hj3
      go_wp2
      go_ret
      exact ⟨_, rfl, HM.out⟩
end Go.Proofs.YtkafkipjedpohaaGreatDoor
