import Derived.Test.YtkafkipjedpohaaGreatDoorWd
import Derived.Test.YtkafkipjedpohaaGreatDoorPureA
import Derived.Deep.AppendLies
import Derived.Deep.RegionHeld3
import Derived.Deep.RegionLaw

/-
  The walk of check.look.
-/
namespace Go.Proofs.YtkafkipjedpohaaGreatDoor
open Go.RowKit

theorem hid {p : Prop} (h : p) : Hid p := h
theorem PlacesAt.alloc {w : World} {b n : Nat} {s : St} (h : PlacesAt w b n s) (o : Obj) : PlacesAt (w.alloc o) b n s := World.rowIs.alloc h o
theorem PlacesAt.drewN {w : World} {b n : Nat} {s : St} (h : PlacesAt w b n s) (k : Nat) : PlacesAt (w.drewN k) b n s := h
theorem Kp.drewN {b : Nat} {u w : World} (h : Kp b u w) (k : Nat) : Kp b u (w.drewN k) := ⟨h.os, h.tape, h.output, h.size, h.block⟩
theorem PlacesAt.below {w w' : World} {B b n : Nat} {s : St} (h : PlacesAt w b n s) (k : Below B w w') (hb : b < B) : PlacesAt w' b n s := World.rowIs.of_block h (k.block b hb)

theorem afterP_nonneg {op a : Int} {i : Nat} (hj : op = 10 ∨ op = 11 → 0 ≤ a) : ∀ t, t ∈ afterP op a i → 0 ≤ t := by
  intro t ht
  unfold afterP at ht
  split at ht
  · simp at ht
  · split at ht
    · simp at ht; subst ht; exact hj (Or.inl (by assumption))
    · split at ht
      · simp at ht
        rcases ht with rfl | rfl
        · omega
        · exact hj (Or.inr (by assumption))
      · simp at ht; omega
theorem afterP_len (op a : Int) (i : Nat) : (afterP op a i).length ≤ 2 := by unfold afterP; split <;> (try split) <;> (try split) <;> simp
theorem getD_lt (l : List Int) (k : Nat) (h : k < l.length) : l.getD k 0 = l[k] := by simp [List.getD_eq_getElem?_getD, h]
theorem reachAll_drop (n : Nat) (h : Int) (l : List Int) (s : St) (k : Nat) (hk : k < l.length) :
    reachAll n h (l.drop k) s = if (reachP n s (l.getD k 0) h).1 = 0 then reachAll n h (l.drop (k + 1)) (reachP n s (l.getD k 0) h).2 else reachP n s (l.getD k 0) h := by
  rw [List.drop_eq_getElem_cons hk, reachAll, getD_lt l k hk]
theorem reachAll_end (n : Nat) (h : Int) (l : List Int) (s : St) : reachAll n h (l.drop l.length) s = (0, s) := by simp [reachAll]

theorem IntsAt.kp {w w' : World} {c b : Nat} {l : List Int} (h : IntsAt w b l) (k : Kp c w w') (hb : b < w.heap.size) (hc : b ≠ c) : IntsAt w' b l :=
  fun j hj => (k.cell (p := ⟨b, _, none⟩) hb hc).trans (h j hj)

set_option maxHeartbeats 1000000 in
theorem look_any (cb co cc b n i : Nat) (op ar : Nat → Int) (s : St) (w : World) (hc : CodeAt w cb co n op ar) (hcb : cb < w.heap.size) (hne : ¬ cb = b) (hp : PlacesAt w b n s) (ht : TabAt w) (h0b : ¬ 0 = b) (hs : HB s) (hi : i < n) (hn : n ≤ 64)
    (ho : 0 ≤ op i ∧ op i < 22) (h13 : op i = 13 → 0 ≤ ar i ∧ ar i ≤ 8) (hj : op i = 10 ∨ op i = 11 → 0 ≤ ar i ∧ ar i < n) :
    Calls Tryz.prog 95 #[.slice (some ⟨cb, co, none⟩) n cc, .slice (some ⟨b, 0, none⟩) n n, .int .i64 i] w fun e w' =>
      e = .returned (.int .i64 (lookP n op ar s i).1) ∧ PlacesAt w' b n (lookP n op ar s i).2 ∧ Kp b w w' := by
  have hb : b < w.heap.size := World.rowIs.lt hp
  obtain ⟨x0, x1⟩ := hc i hi
  have fz : ∀ o, w.frozen? ⟨b, o, none⟩ = false := fun o => World.rowIs.frozen hp o
  have l1 := hp.L hi
  have hp1 := hp.setL i true
  have hk1 : Kp b w (w.setCell ⟨b, i * 3 + 1, none⟩ (.bool true)) := (Kp.refl b w).set _ _
  have ht1 := ht.kp hk1 (by omega) h0b
  have HP : Hid (PlacesAt (w.setCell ⟨b, i * 3 + 1, none⟩ (.bool true)) b n { s with L := upd s.L i true } ∧ Kp b w (w.setCell ⟨b, i * 3 + 1, none⟩ (.bool true)) ∧ TabAt (w.setCell ⟨b, i * 3 + 1, none⟩ (.bool true)) ∧ CodeAt w cb co n op ar ∧ HB s) := ⟨hp1, hk1, ht1, hc, hs⟩
  clear hp1 hk1 ht1 hp ht hc hs
  have hsz : (w.setCell ⟨b, i * 3 + 1, none⟩ (.bool true)).heap.size = w.heap.size := by simp [World.setCell]
  have hpb := popsP_bd h13
  have hqb := pushesP_bd (op i)
  have hHi := HP.out.2.2.2.2 i
  go_enter Tryz.func95, Tryz.ntmps95
  go_wp2_with fail
  refine (effectOf_any _ _ _ HP.out.2.2.1 ho.1 ho.2 h13 (by omega)).mono ?_
  rintro e w2 ⟨rfl, hB2⟩
  obtain ⟨hp1, hk1, ht1, hc, hs⟩ := HP.out
  have hp2 := hp1.below hB2 (by omega)
  have hk2 : Kp b w w2 := hk1.trans (Kp.of_below hB2)
  have y0 : w2.cell? ⟨cb, co + i * 2, none⟩ = some (.int .i64 (op i)) := ((hc.kp hk2 hcb hne) i hi).1
  have y1 : w2.cell? ⟨cb, co + i * 2 + 1, none⟩ = some (.int .i64 (ar i)) := ((hc.kp hk2 hcb hne) i hi).2
  have y2 : w2.cell? ⟨b, i * 3 + 2, none⟩ = some (.int .i64 (s.H i)) := hp2.H hi
  have hsz2 : w.heap.size ≤ w2.heap.size := hk2.size
  have hb2 : b < w2.heap.size := by omega
  have hcb2 : cb < w2.heap.size := by omega
  clear HP x0 x1 l1 hB2 hp1 hk1 ht1 hc hsz fz
  have hs1 : HB { s with L := upd s.L i true } := hs
  clear hs
  by_cases hA : s.H i < popsP (op i) (ar i)
  · have HL : Hid (lookP n op ar s i = (4, { s with L := upd s.L i true })) := by unfold Hid lookP; rw [if_pos hA]
    have HP2 : Hid (PlacesAt w2 b n { s with L := upd s.L i true } ∧ Kp b w w2) := ⟨hp2, hk2⟩
    clear hp2 hk2 hs1
    generalize popsP (op i) (ar i) = pp at *
    generalize pushesP (op i) = qq at *
    generalize s.H i = hh at *
    go_wp2
    go_quiet (fail)
    go_wp2
    go_ret
    rw [HL.out]
    exact ⟨rfl, (HP2.out.1.alloc _).drewN _, (HP2.out.2.alloc _).drewN _⟩
  · by_cases hC : 16 < s.H i - popsP (op i) (ar i) + pushesP (op i)
    · have HL : Hid (lookP n op ar s i = (4, { s with L := upd s.L i true })) := by unfold Hid lookP; rw [if_neg hA, if_pos hC]
      have HP2 : Hid (PlacesAt w2 b n { s with L := upd s.L i true } ∧ Kp b w w2) := ⟨hp2, hk2⟩
      clear hp2 hk2 hs1
      generalize popsP (op i) (ar i) = pp at *
      generalize pushesP (op i) = qq at *
      generalize s.H i = hh at *
      go_wp2
      go_quiet (fail)
      go_wp2
      go_quiet (fail)
      go_wp2
      go_ret
      rw [HL.out]
      exact ⟨rfl, (HP2.out.1.alloc _).drewN _, (HP2.out.2.alloc _).drewN _⟩
    · have HL : Hid (lookP n op ar s i = reachAll n (s.H i - popsP (op i) (ar i) + pushesP (op i)) (afterP (op i) (ar i) i) { s with L := upd s.L i true }) := by unfold Hid lookP; rw [if_neg hA, if_neg hC]
      have HP2 : Hid (PlacesAt w2 b n { s with L := upd s.L i true } ∧ Kp b w w2 ∧ HB { s with L := upd s.L i true }) := ⟨hp2, hk2, hs1⟩
      clear hp2 hk2 hs1
      generalize popsP (op i) (ar i) = pp at *
      generalize pushesP (op i) = qq at *
      generalize s.H i = hh at *
      go_wp2
      go_quiet (fail)
      go_wp2
      go_quiet (fail)
      go_wp2_with fail
      refine (follows_any _ _ _ _ (by omega)).mono ?_
      rintro e w3 ⟨p, c, rfl, hB3, hG⟩
      obtain ⟨hp2, hk2, hs1⟩ := HP2.out
      have hp3 : PlacesAt w3 b n { s with L := upd s.L i true } := ((hp2.alloc _).drewN _).below hB3 (by simp; omega)
      have hk3 : Kp b w w3 := ((hk2.alloc _).drewN _).trans (Kp.of_below hB3)
      have hnn := afterP_nonneg (i := i) (fun hx => (hj hx).1)
      have hln := afterP_len (op i) (ar i) i
      have hsz3 : w2.heap.size + 1 ≤ w3.heap.size := by have := hB3.size; simpa using this
      clear HP2 hp2 hk2 hB3 y0 y1 y2 hcb2
      generalize { s with L := upd s.L i true } = s1 at *
      generalize afterP (op i) (ar i) i = l at *
      clear ho h13 hj
      rcases hG with rfl | ⟨bl, hbl, hbl3, rfl, hI⟩
      · have HF : Hid (PlacesAt w3 b n s1 ∧ Kp b w w3) := ⟨hp3, hk3⟩
        clear hp3 hk3 hnn hs1
        go_wp2
        go_loopw [49] (fun j wr => j = .int .i64 0 ∧ wr = w3) (fun _ _ => 0)
        case atStart => exact ⟨rfl, rfl⟩
        case round =>
          obtain ⟨rfl, rfl⟩ := hrel
          go_wp2
          go_ret
          rw [HL.out]
          exact ⟨rfl, HF.out⟩
      · have hblb : ¬ bl = b := by simp at hbl; omega
        have hblw : w2.heap.size + 1 ≤ bl := by simpa using hbl
        have HF : Hid ((∀ t, t ∈ l → 0 ≤ t) ∧ HB s1) := ⟨hnn, hs1⟩
        clear hbl hnn hs1
        have h16 : 0 ≤ hh - pp + qq := by omega
        generalize hh - pp + qq = ht at *
        go_wp2
        go_loopw [49] (fun j wr => ∃ (k : Nat) (sk : St), k ≤ l.length ∧ j = .int .i64 k ∧ reachAll n ht l s1 = reachAll n ht (l.drop k) sk ∧ PlacesAt wr b n sk ∧ Kp b w wr ∧ IntsAt wr bl l ∧ bl < wr.heap.size) (fun j _ => l.length - (intOf j).toNat)
        case atStart => exact ⟨0, s1, Nat.zero_le _, rfl, rfl, hp3, hk3, hI, hbl3⟩
        case round =>
          obtain ⟨k, sk, hk, rfl, hR, hpk, hkk, hIk, hblk⟩ := hrel
          by_cases hlt : k < l.length
          · have z := hIk k hlt
            have hz0 : 0 ≤ l.getD k 0 := HF.out.1 _ (by rw [getD_lt l k hlt]; exact List.getElem_mem _)
            have HK : Hid (reachAll n ht l s1 = reachAll n ht (l.drop k) sk ∧ PlacesAt wr b n sk ∧ Kp b w wr ∧ IntsAt wr bl l) := ⟨hR, hpk, hkk, hIk⟩
            have hst := reachAll_drop n ht l sk k hlt
            clear hR hpk hkk hIk hp3 hk3 hI
            generalize l.getD k 0 = tk at *
            have HS : Hid (reachAll n ht (l.drop k) sk = if (reachP n sk tk ht).1 = 0 then reachAll n ht (l.drop (k + 1)) (reachP n sk tk ht).2 else reachP n sk tk ht) := hst
            clear hst
            have hcon := reach_any b n sk tk ht wr HK.out.2.1 hz0
            rcases hrp : reachP n sk tk ht with ⟨er, sr⟩
            rw [hrp] at hcon
            unfold Hid at HS
            rw [hrp] at HS
            simp only at hcon HS
            have HC := hid hcon
            have HS' := hid HS
            clear hcon HS hrp
            go_wp2_with fail
            refine HC.out.mono ?_
            rintro e w4 ⟨rfl, hp4, hk4⟩
            have hk5 : Kp b w w4 := HK.out.2.2.1.trans hk4
            have hI5 : IntsAt w4 bl l := HK.out.2.2.2.kp hk4 hblk hblb
            have hb5 : bl < w4.heap.size := by have := hk4.size; omega
            have HM : Hid (PlacesAt w4 b n sr ∧ Kp b w w4 ∧ IntsAt w4 bl l) := ⟨hp4, hk5, hI5⟩
            clear hp4 hk4 hk5 hI5 HC
            by_cases her : er = 0
            · subst her
              go_wp2
              go_roundw
              case rel => exact ⟨k + 1, sr, by omega, by go_num, by rw [HK.out.1, HS'.out]; rfl, HM.out.1, HM.out.2.1, HM.out.2.2, hb5⟩
              case measure => simp [intOf]; omega
            · have hne : (er != 0) = true := by simpa using her
              have HR : Hid (lookP n op ar s i = (er, sr)) := by unfold Hid; rw [HL.out, HK.out.1, HS'.out, if_neg her]
              clear her
              go_wp2
              go_ret
              rw [HR.out]
              exact ⟨rfl, HM.out.1, HM.out.2.1⟩
          · obtain rfl : k = l.length := by omega
            have HR : Hid (lookP n op ar s i = (0, sk)) := by unfold Hid; rw [HL.out, hR, reachAll_end]
            have HM : Hid (PlacesAt wr b n sk ∧ Kp b w wr) := ⟨hpk, hkk⟩
            clear hR hpk hkk hIk hp3 hk3 hI
            go_wp2
            go_ret
            rw [HR.out]
            exact ⟨rfl, HM.out.1, HM.out.2⟩
end Go.Proofs.YtkafkipjedpohaaGreatDoor

/-
  A run of upshiftref as it lies in memory: rows of the call's own, told apart by tags.
-/
namespace Go.Proofs.YtkafkipjedpohaaGreatDoor
open Go.RowKit

/-- A slice of the call's own (from block B on): n elements of sz cells, cell i holding f i; its block bears the tag c. -/
def Row (w : World) (B : Nat) (tag : Nat → Nat) (c : Nat) (e : TypeId) (sz : Nat) (v : Value) (n : Nat) (f : Nat → Value) : Prop :=
  (v = .slice none 0 0 ∧ n = 0) ∨
  ∃ b cap cur, v = .slice (some ⟨b, 0, none⟩) n cap ∧ B ≤ b ∧ tag b = c ∧ w.heap[b]? = some (.cells cur e (0, 0)) ∧ n ≤ cap ∧ cap ≤ maxLen ∧ cur.size = cap * sz ∧ ∀ i, i < n * sz → cur[i]? = some (f i)

theorem Row.nil (w : World) (B : Nat) (tag : Nat → Nat) (c : Nat) (e : TypeId) (sz : Nat) (f : Nat → Value) : Row w B tag c e sz (.slice none 0 0) 0 f := Or.inl ⟨rfl, rfl⟩

theorem Row.form {w : World} {B : Nat} {tag : Nat → Nat} {c : Nat} {e : TypeId} {sz : Nat} {v : Value} {n : Nat} {f : Nat → Value} (h : Row w B tag c e sz v n f) (hn : 1 ≤ n) :
    ∃ b cap, v = .slice (some ⟨b, 0, none⟩) n cap ∧ B ≤ b ∧ b < w.heap.size ∧ tag b = c ∧ n ≤ cap := by
  rcases h with ⟨_, h⟩ | ⟨b, cap, cur, hv, hb, ht, hh, hc, _⟩
  · omega
  · exact ⟨b, cap, hv, hb, (Array.getElem?_eq_some_iff.1 hh).1, ht, hc⟩

theorem Row.cell {w : World} {B : Nat} {tag : Nat → Nat} {c : Nat} {e : TypeId} {sz b n cap : Nat} {f : Nat → Value} (h : Row w B tag c e sz (.slice (some ⟨b, 0, none⟩) n cap) n f) {i : Nat} (hi : i < n * sz) : w.cell? ⟨b, i, none⟩ = some (f i) := by
  rcases h with ⟨h, _⟩ | ⟨b', cap', cur, hv, _, _, hh, _, _, _, hf⟩
  · cases h
  · injection hv with e1 e2 e3
    injection e1 with e1
    injection e1 with e1 e4
    subst e1
    unfold World.cell?
    rw [hh]
    exact hf i hi

theorem Row.frozen {w : World} {B : Nat} {tag : Nat → Nat} {c : Nat} {e : TypeId} {sz b n cap : Nat} {f : Nat → Value} (h : Row w B tag c e sz (.slice (some ⟨b, 0, none⟩) n cap) n f) (i : Nat) : w.frozen? ⟨b, i, none⟩ = false := by
  rcases h with ⟨h, _⟩ | ⟨b', cap', cur, hv, _, _, hh, _⟩
  · cases h
  · injection hv with e1 e2 e3
    injection e1 with e1
    injection e1 with e1 e4
    subst e1
    unfold World.frozen?
    rw [hh]
    simp

/-- The same row, its content said otherwise. -/
theorem Row.congr {w : World} {B : Nat} {tag : Nat → Nat} {c : Nat} {e : TypeId} {sz : Nat} {v : Value} {n : Nat} {f g : Nat → Value} (h : Row w B tag c e sz v n f) (hg : ∀ i, i < n * sz → f i = g i) : Row w B tag c e sz v n g := by
  rcases h with h | ⟨b, cap, cur, hv, hb, ht, hh, hc, hm, hs, hf⟩
  · exact Or.inl h
  · exact Or.inr ⟨b, cap, cur, hv, hb, ht, hh, hc, hm, hs, fun i hi => by rw [hf i hi, hg i hi]⟩

/-- What turns between two worlds: of what was there from block B on, at most the blocks whose tag is let; tags of what was there stand. -/
structure Ch (B : Nat) (let_ : Nat → Prop) (tag tag' : Nat → Nat) (w w' : World) : Prop where
  os : w'.os = w.os
  tape : w'.tape = w.tape
  output : w'.output = w.output
  size : w.heap.size ≤ w'.heap.size
  block : ∀ b, b < w.heap.size → (b < B ∨ ¬ let_ (tag b)) → w'.heap[b]? = w.heap[b]?
  tags : ∀ b, b < w.heap.size → tag' b = tag b

theorem Ch.refl (B : Nat) (p : Nat → Prop) (tag : Nat → Nat) (w : World) : Ch B p tag tag w w := ⟨rfl, rfl, rfl, Nat.le_refl _, fun _ _ _ => rfl, fun _ _ => rfl⟩
theorem Ch.trans {B : Nat} {p : Nat → Prop} {t1 t2 t3 : Nat → Nat} {u v w : World} (h : Ch B p t1 t2 u v) (k : Ch B p t2 t3 v w) : Ch B p t1 t3 u w :=
  ⟨k.os.trans h.os, k.tape.trans h.tape, k.output.trans h.output, Nat.le_trans h.size k.size,
    fun b hb hl => (k.block b (Nat.lt_of_lt_of_le hb h.size) (by rw [h.tags b hb]; exact hl)).trans (h.block b hb hl), fun b hb => (k.tags b (Nat.lt_of_lt_of_le hb h.size)).trans (h.tags b hb)⟩
theorem Ch.mono {B : Nat} {p q : Nat → Prop} {t1 t2 : Nat → Nat} {u v : World} (h : Ch B p t1 t2 u v) (hpq : ∀ c, p c → q c) : Ch B q t1 t2 u v :=
  ⟨h.os, h.tape, h.output, h.size, fun b hb hl => h.block b hb (by rcases hl with hl | hl; exact Or.inl hl; exact Or.inr fun hp => hl (hpq _ hp)), h.tags⟩
theorem Ch.below {B : Nat} {p : Nat → Prop} {t1 t2 : Nat → Nat} {u v : World} (h : Ch B p t1 t2 u v) (hB : B ≤ u.heap.size) : Below B u v :=
  ⟨h.os, h.tape, h.output, h.size, fun b hb => h.block b (by omega) (Or.inl hb)⟩
theorem Ch.of_below {B : Nat} {p : Nat → Prop} {tag : Nat → Nat} {u v : World} (h : Below u.heap.size u v) : Ch B p tag tag u v :=
  ⟨h.os, h.tape, h.output, h.size, fun b hb _ => h.block b hb, fun _ _ => rfl⟩
theorem Ch.set {B : Nat} {p : Nat → Prop} {tag : Nat → Nat} (w : World) (b o : Nat) (v : Value) (hb : B ≤ b) (hp : p (tag b)) : Ch B p tag tag w (w.setCell ⟨b, o, none⟩ v) :=
  ⟨rfl, rfl, rfl, by simp [World.setCell], fun k _ hl => Below.heap_setCell _ _ _ _ (by
    intro e
    simp only at e
    subst e
    rcases hl with hl | hl
    · omega
    · exact hl hp), fun _ _ => rfl⟩

theorem Row.keep {w w' : World} {B : Nat} {tag tag' : Nat → Nat} {p : Nat → Prop} {c : Nat} {e : TypeId} {sz : Nat} {v : Value} {n : Nat} {f : Nat → Value} (h : Row w B tag c e sz v n f) (k : Ch B p tag tag' w w') (hp : ¬ p c) : Row w' B tag' c e sz v n f := by
  rcases h with h | ⟨b, cap, cur, hv, hb, ht, hh, hc⟩
  · exact Or.inl h
  · have hlt := (Array.getElem?_eq_some_iff.1 hh).1
    exact Or.inr ⟨b, cap, cur, hv, hb, (k.tags b hlt).trans ht, (k.block b hlt (Or.inr (by rw [ht]; exact hp))).trans hh, hc⟩

/-- A store into a row. -/
theorem Row.set {w : World} {B : Nat} {tag : Nat → Nat} {c : Nat} {e : TypeId} {sz b n cap : Nat} {f : Nat → Value} (h : Row w B tag c e sz (.slice (some ⟨b, 0, none⟩) n cap) n f) (i : Nat) (v : Value) :
    Row (w.setCell ⟨b, i, none⟩ v) B tag c e sz (.slice (some ⟨b, 0, none⟩) n cap) n (upd f i v) := by
  rcases h with ⟨h, _⟩ | ⟨b', cap', cur, hv, hb, ht, hh, hc, hm, hs, hf⟩
  · cases h
  · injection hv with e1 e2 e3
    injection e1 with e1
    injection e1 with e1 e4
    subst e1
    subst e3
    refine Or.inr ⟨b, cap, cur.setIfInBounds i v, rfl, hb, ht, ?_, hc, hm, by simpa using hs, fun j hj => ?_⟩
    · simp [World.setCell, Array.getElem?_modify, hh]
    · rw [Array.getElem?_setIfInBounds]
      by_cases e5 : j = i
      · subst e5
        have : j < cur.size := (Array.getElem?_eq_some_iff.1 (hf j hj)).1
        simp [this, upd]
      · rw [if_neg (fun h => e5 h.symm), upd_other _ _ _ _ e5]
        exact hf j hj

/-- Cut shorter. -/
theorem Row.take {w : World} {B : Nat} {tag : Nat → Nat} {c : Nat} {e : TypeId} {sz b n cap : Nat} {f : Nat → Value} (h : Row w B tag c e sz (.slice (some ⟨b, 0, none⟩) n cap) n f) (k : Nat) (hk : k ≤ n) :
    Row w B tag c e sz (.slice (some ⟨b, 0, none⟩) k cap) k f := by
  rcases h with ⟨h, _⟩ | ⟨b', cap', cur, hv, hb, ht, hh, hc, hm, hs, hf⟩
  · cases h
  · injection hv with e1 e2 e3
    injection e1 with e1
    injection e1 with e1 e4
    subst e1
    subst e3
    exact Or.inr ⟨b, cap, cur, rfl, hb, ht, hh, by omega, hm, hs, fun i hi => hf i (Nat.lt_of_lt_of_le hi (Nat.mul_le_mul_right sz hk))⟩

/-- The kit's word for the same. -/
theorem Row.owns {w : World} {B : Nat} {tag : Nat → Nat} {c : Nat} {e : TypeId} {sz : Nat} {v : Value} {n : Nat} {f : Nat → Value} (h : Row w B tag c e sz v n f) : w.ownsRow B e sz v n ((List.range (n * sz)).map f) := by
  refine ⟨by simp, ?_⟩
  rcases h with h | ⟨b, cap, cur, hv, hb, ht, hh, hc, hm, hs, hf⟩
  · exact Or.inl h
  · refine Or.inr ⟨b, cap, cur, hv, hb, hh, hc, hm, hs, ?_⟩
    apply List.ext_getElem?
    intro i
    by_cases hi : i < n * sz
    · rw [List.getElem?_take_of_lt hi, Array.getElem?_toList, hf i hi]
      simp [hi]
    · rw [List.getElem?_eq_none (by simp; omega), List.getElem?_eq_none (by simp; omega)]

theorem Row.of_owns {w : World} {B : Nat} {tag : Nat → Nat} {c : Nat} {e : TypeId} {sz g n cap : Nat} {xs : List Value} {f : Nat → Value} (h : w.ownsRow B e sz (.slice (some ⟨g, 0, none⟩) n cap) n xs) (ht : tag g = c) (hf : ∀ i, i < n * sz → xs[i]? = some (f i)) :
    Row w B tag c e sz (.slice (some ⟨g, 0, none⟩) n cap) n f := by
  obtain ⟨hl, h⟩ := h
  rcases h with ⟨h, _⟩ | ⟨b, cap', cur, hv, hb, hh, hc, hm, hs, hx⟩
  · cases h
  · injection hv with e1 e2 e3
    injection e1 with e1
    injection e1 with e1 e4
    subst e1
    subst e3
    refine Or.inr ⟨g, cap, cur, rfl, hb, ht, hh, hc, hm, hs, fun i hi => ?_⟩
    rw [← Array.getElem?_toList, ← List.getElem?_take_of_lt hi, hx]
    exact hf i hi

/-- What an append to a row of the call's own leaves: the new row, its tag; all other tags' blocks stand. -/
theorem Row.grew {w w' : World} {B : Nat} {tag : Nat → Nat} {c : Nat} {e : TypeId} {sz : Nat} {v : Value} {n : Nat} {f : Nat → Value} (h : Row w B tag c e sz v n f) {g cap : Nat} {news : List Value}
    (hown : w'.ownsRow B e sz (.slice (some ⟨g, 0, none⟩) (n + 1) cap) (n + 1) ((List.range (n * sz)).map f ++ news)) (hgrow : w.grownBy w' v.ownBlock) (hat : v.ownBlock = some g ∨ g = w.heap.size) (hnl : news.length = sz) :
    ∃ tag', Row w' B tag' c e sz (.slice (some ⟨g, 0, none⟩) (n + 1) cap) (n + 1) (fun i => if i < n * sz then f i else news.getD (i - n * sz) (.bool false)) ∧ Ch B (· = c) tag tag' w w' := by
  refine ⟨fun b => if b < w.heap.size then tag b else c, Row.of_owns hown ?_ (fun i hi => ?_), hgrow.os, hgrow.tape, hgrow.output, hgrow.size, fun b hb hl => hgrow.block b hb ?_, fun b hb => by show (if b < w.heap.size then tag b else c) = tag b; rw [if_pos hb]⟩
  · show (if g < w.heap.size then tag g else c) = c
    by_cases hg : g < w.heap.size
    · rw [if_pos hg]
      rcases hat with hat | hat
      · rcases h with ⟨h, _⟩ | ⟨b, cap', cur, hv, hb, ht, _⟩
        · rw [h] at hat; simp [Value.ownBlock] at hat
        · rw [hv] at hat
          have : b = g := by simpa [Value.ownBlock] using hat
          rw [← this]; exact ht
      · omega
    · rw [if_neg hg]
  · by_cases hlt : i < n * sz
    · rw [if_pos hlt, List.getElem?_append_left (by simpa using hlt)]
      simp [hlt]
    · have hi2 : i - n * sz < news.length := by rw [hnl]; rw [Nat.add_mul, Nat.one_mul] at hi; omega
      rw [if_neg hlt, List.getElem?_append_right (by simp; omega)]
      simp [List.getD_eq_getElem?_getD, hi2]
  · intro e2
    rcases h with ⟨h, _⟩ | ⟨b', cap', cur, hv, hb', ht, _⟩
    · rw [h] at e2; simp [Value.ownBlock] at e2
    · rw [hv] at e2
      have : b = b' := by simpa [Value.ownBlock] using e2
      subst this
      rcases hl with hl | hl
      · omega
      · exact hl ht
end Go.Proofs.YtkafkipjedpohaaGreatDoor

/-
  The walks of upshiftref's small functions.
-/
namespace Go.Proofs.YtkafkipjedpohaaGreatDoor
open Go.RowKit

end Go.Proofs.YtkafkipjedpohaaGreatDoor
