import Derived.Test.YtckmmdmimlhmoaaDoorNatO
import Derived.Test.YtckmmdmimlhmoaaDoorBwd
namespace Go.Proofs.YtckmmdmimlhmoaaDoor
open Go.ChangeShapes Go.WideShapes Go.ChangeAt Go.RowKit
set_option linter.unusedVariables false
set_option maxRecDepth 100000
set_option linter.unusedSimpArgs false

/-! ### a block of limbs of the call's own -/
def Blk (w : World) (b : Nat) (L : List Nat) : Prop := ∃ tl : List Value, w.heap[b]? = some (.cells (L.map encU ++ tl).toArray 42 (0, 0))
theorem Blk.lt {w : World} {b : Nat} {L : List Nat} (h : Blk w b L) : b < w.heap.size := by
  obtain ⟨tl, h⟩ := h
  exact (Array.getElem?_eq_some_iff.1 h).1
theorem Blk.cell {w : World} {b : Nat} {L : List Nat} (h : Blk w b L) (j : Nat) (hj : j < L.length) : w.cell? ⟨b, j, none⟩ = some (.int .u64 (L.getD j 0 : Nat)) := by
  obtain ⟨tl, h⟩ := h
  simp only [World.cell?, h]
  simp only [Option.isSome_none, Bool.false_eq_true, if_false, List.getElem?_toArray]
  rw [List.getElem?_append_left (by simpa using hj), List.getElem?_map, List.getElem?_eq_getElem hj, List.getD_eq_getElem?_getD, List.getElem?_eq_getElem hj]
  rfl
theorem Blk.frozen {w : World} {b : Nat} {L : List Nat} (h : Blk w b L) (j : Nat) : w.frozen? ⟨b, j, none⟩ = false := by
  obtain ⟨tl, h⟩ := h
  simp [World.frozen?, h]
theorem Blk.set {w : World} {b : Nat} {L : List Nat} (h : Blk w b L) (j d : Nat) (hj : j < L.length) : Blk (w.setCell ⟨b, j, none⟩ (.int .u64 (d : Nat))) b (L.set j d) := by
  obtain ⟨tl, h⟩ := h
  refine ⟨tl, ?_⟩
  rw [heap_setCell_same w b j _ _ _ h]
  congr 2
  apply Array.ext'
  simp only [Array.toList_setIfInBounds]
  rw [List.set_append_left _ _ (by simpa using hj), List.map_set]
  rfl
theorem grown_set (w : World) (b j : Nat) (v : Value) : w.grownBy (w.setCell ⟨b, j, none⟩ v) (some b) :=
  ⟨rfl, rfl, rfl, (KeepsWalks.setCell w _ v).size, fun k _ hk => Below.heap_setCell _ _ _ k (fun e => hk (by rw [e]))⟩
theorem grown_trans {a b c : World} {row : Option Nat} (h : a.grownBy b row) (k : b.grownBy c row) : a.grownBy c row :=
  ⟨k.os.trans h.os, k.tape.trans h.tape, k.output.trans h.output, Nat.le_trans h.size k.size, fun i hi hne => (k.block i (Nat.lt_of_lt_of_le hi h.size) hne).trans (h.block i hi hne)⟩
theorem grown_refl (w : World) (row : Option Nat) : w.grownBy w row := ⟨rfl, rfl, rfl, Nat.le_refl _, fun _ _ _ => rfl⟩
theorem Blk.kept {w w' : World} {b : Nat} {L : List Nat} {row : Option Nat} (h : Blk w b L) (hg : w.grownBy w' row) (hne : row ≠ some b) : Blk w' b L := by
  have hlt := h.lt
  obtain ⟨tl, h⟩ := h
  exact ⟨tl, (hg.block b hlt (fun e => hne e.symm)).trans h⟩
theorem Blk.below {w w' : World} {b B : Nat} {L : List Nat} (h : Blk w b L) (hb : Below B w w') (hlt : b < B) : Blk w' b L := by
  obtain ⟨tl, h⟩ := h
  exact ⟨tl, (hb.block b hlt).trans h⟩
theorem Blk.row {w : World} {b : Nat} {P A R : List Nat} (h : Blk w b (P ++ A ++ R)) (c : Nat) (hc : A.length ≤ c) (hc2 : c ≤ 9223372036854775807) : RowU w (.slice (some ⟨b, P.length, none⟩) A.length c) A := by
  refine ⟨_, c, rfl, hc2, hc, .inr ⟨b, P.length, rfl, h.lt, fun j hj => ?_⟩⟩
  rw [h.cell (P.length + j) (by simp; omega)]
  rw [List.getD_eq_getElem?_getD, List.append_assoc, List.getElem?_append_right (by omega), List.getElem?_append_left (by omega), Nat.add_sub_cancel_left, List.getD_eq_getElem?_getD]
theorem grown_below {w w' : World} {b B : Nat} (h : w.grownBy w' (some b)) (hb : B ≤ b) (hB : B ≤ w.heap.size) : Below B w w' :=
  ⟨h.os, h.tape, h.output, h.size, fun k hk => h.block k (by omega) (fun e => by cases e; omega)⟩
theorem mid_get (P A R : List Nat) (i : Nat) (h : i < A.length) : (P ++ A ++ R).getD (P.length + i) 0 = A.getD i 0 := by
  rw [List.getD_eq_getElem?_getD, List.append_assoc, List.getElem?_append_right (by omega), List.getElem?_append_left (by omega), Nat.add_sub_cancel_left, List.getD_eq_getElem?_getD]
theorem mid_set (P A R : List Nat) (i d : Nat) (h : i < A.length) : (P ++ A ++ R).set (P.length + i) d = P ++ A.set i d ++ R := by
  rw [List.append_assoc, List.set_append_right _ _ (by omega), List.set_append_left _ _ (by omega), Nat.add_sub_cancel_left, List.append_assoc]

/-- the sums of words, with what is carried -/
theorem words_add {x y s c : Nat} (hx : x < 18446744073709551616) (hy : y < 18446744073709551616) (hs : s = (x + y + 0) % 18446744073709551616) (hc : c = (x + y + 0) / 18446744073709551616) :
    s < 18446744073709551616 ∧ c ≤ 1 ∧ s + 18446744073709551616 * c = x + y := by omega
theorem words_sub {x y s c : Nat} (hx : x < 18446744073709551616) (hy : y < 18446744073709551616) (hs : s = (x + 18446744073709551616 - y - 0) % 18446744073709551616) (hc : c = if x < y + 0 then 1 else 0) :
    s < 18446744073709551616 ∧ c ≤ 1 ∧ s + y = x + 18446744073709551616 * c := by
  split at hc <;> omega
/-- one step of 'a += m * q': what its four words come to -/
theorem step_words {x q c a hi lo s1 c1 s2 c2 : Nat} (hx : x < 18446744073709551616) (hq : q < 18446744073709551616) (hc : c < 18446744073709551616) (ha : a < 18446744073709551616)
    (h1 : hi = x * q / 18446744073709551616) (h2 : lo = x * q % 18446744073709551616) (h3 : s1 + 18446744073709551616 * c1 = lo + c) (h4 : s1 < 18446744073709551616) (h5 : s2 + 18446744073709551616 * c2 = a + s1) (h6 : s2 < 18446744073709551616) :
    hi + c1 + c2 < 18446744073709551616 ∧ s2 + 18446744073709551616 * (hi + c1 + c2) = a + x * q + c := by
  have hp : x * q ≤ 18446744073709551615 * 18446744073709551615 := Nat.mul_le_mul (by omega) (by omega)
  have e := Nat.div_add_mod (x * q) 18446744073709551616
  rw [← h1, ← h2] at e
  omega
theorem step_words_sub {x q c a hi lo s1 c1 s2 c2 : Nat} (hx : x < 18446744073709551616) (hq : q < 18446744073709551616) (hc : c < 18446744073709551616) (ha : a < 18446744073709551616)
    (h1 : hi = x * q / 18446744073709551616) (h2 : lo = x * q % 18446744073709551616) (h3 : s1 + 18446744073709551616 * c1 = lo + c) (h4 : s1 < 18446744073709551616) (h5 : s2 + s1 = a + 18446744073709551616 * c2) (h6 : s2 < 18446744073709551616) (h7 : c2 ≤ 1) :
    hi + c1 + c2 < 18446744073709551616 ∧ s2 + x * q + c = a + 18446744073709551616 * (hi + c1 + c2) := by
  have hp : x * q ≤ 18446744073709551615 * 18446744073709551615 := Nat.mul_le_mul (by omega) (by omega)
  have e := Nat.div_add_mod (x * q) 18446744073709551616
  rw [← h1, ← h2] at e
  omega

set_option maxHeartbeats 4000000 in
theorem addt_any (b cap q : Nat) (P A R m : List Nat) (vb : Value) (hA : Limbs A) (hm : Limbs m) (hq : q < 18446744073709551616) (hle : m.length ≤ A.length) (hcap : A.length ≤ cap) (hcap2 : cap ≤ 9223372036854775807) (hsz : P.length + A.length ≤ 1099511627776)
    (w : World) (hw : Blk w b (P ++ A ++ R)) (hb : RowU w vb m) (hne : m ≠ [] → vb.ownBlock ≠ some b) :
    Calls Tryd.prog 19 #[.slice (some ⟨b, P.length, none⟩) A.length cap, vb, .int .u64 q] w fun e w' =>
      e = .returned (.bool (decide (18446744073709551616 ^ A.length ≤ uval A + uval m * q))) ∧ Blk w' b (P ++ fix A.length (uval A + uval m * q) ++ R) ∧ w.grownBy w' (some b) := by
  have HB : Hid (RowU w vb m) := hb
  obtain ⟨ab, cb, rfl, hcb, hlb, _⟩ := hb.out
  clear hb
  refine cps fun Q hQ => ?_
  have HNE : Hid (m ≠ [] → Value.ownBlock (.slice ab m.length cb) ≠ some b) := hne
  have HA : Hid (Limbs A) := hA
  have HM : Hid (Limbs m) := hm
  have HW : Hid (Blk w b (P ++ A ++ R)) := hw
  clear hne hA hm hw
  go_enter Tryd.func19, Tryd.ntmps19
  go_wp2
  go_loopw [7, 16] (fun cv iv wr => ∃ (i c : Nat) (L : List Nat), i ≤ m.length ∧ c ≤ 18446744073709551615 ∧ cv = .int .u64 c ∧ iv = .int .i64 i ∧ Hid (AddAt A m q i c L) ∧ Hid (Blk wr b (P ++ L ++ R)) ∧ Hid (w.grownBy wr (some b))) (fun _ iv _ => m.length - (intOf iv).toNat)
  case atStart => exact ⟨0, 0, A, Nat.zero_le _, by decide, rfl, rfl, AddAt.start m q HA.out, HW.out, grown_refl _ _⟩
  case round =>
    obtain ⟨i, c, L, hi, hc, rfl, rfl, hst, hbk, hgr⟩ := hrel
    by_cases hlt : i < m.length
    · have hrow := HB.out.grown hgr.out (fun g hg => by cases hg; exact HNE.out (fun h => by rw [h] at hlt; simp at hlt))
      obtain ⟨bb, ob, cb', he, _, _, _, hcells⟩ := hrow.some' rfl (by omega)
      injection he with e1 e2 e3
      subst e1 e3
      have hx := hcells i hlt
      have hL := hst.out.len
      have hxl := limbs_getD HM.out i
      have hal := limbs_getD hst.out.lims i
      have hcell := hbk.out.cell (P.length + i) (by simp; omega)
      rw [mid_get P L R i (by omega)] at hcell
      have hfz := hbk.out.frozen (P.length + i)
      have hset := hbk.out.set (P.length + i)
      obtain ⟨x, HX⟩ : ∃ x, Hid (m.getD i 0 = x) := ⟨_, rfl⟩
      obtain ⟨a, HY⟩ : ∃ x, Hid (L.getD i 0 = x) := ⟨_, rfl⟩
      rw [HX.out] at hx hxl
      rw [HY.out] at hcell hal
      obtain ⟨hi', h1⟩ : ∃ y, y = x * q / 18446744073709551616 := ⟨_, rfl⟩
      obtain ⟨lo, h2⟩ : ∃ y, y = x * q % 18446744073709551616 := ⟨_, rfl⟩
      have r0 := mul64_any x q hxl hq
      rw [← h1, ← h2] at r0
      have hlo : lo < 18446744073709551616 := by rw [h2]; exact Nat.mod_lt _ (by decide)
      obtain ⟨s1, h3⟩ : ∃ y, y = (lo + c + 0) % 18446744073709551616 := ⟨_, rfl⟩
      obtain ⟨c1, h4⟩ : ∃ y, y = (lo + c + 0) / 18446744073709551616 := ⟨_, rfl⟩
      have r1 := run_add64_at lo c 0 (by omega)
      rw [← h3, ← h4] at r1
      obtain ⟨k1, k2, k3⟩ := words_add hlo (by omega) h3 h4
      obtain ⟨s2, h5⟩ : ∃ y, y = (a + s1 + 0) % 18446744073709551616 := ⟨_, rfl⟩
      obtain ⟨c2, h6⟩ : ∃ y, y = (a + s1 + 0) / 18446744073709551616 := ⟨_, rfl⟩
      have r2 := run_add64_at a s1 0 (by omega)
      rw [← h5, ← h6] at r2
      obtain ⟨k4, k5, k6⟩ := words_add hal k1 h5 h6
      obtain ⟨k7, k8⟩ := step_words hxl hq (by omega) hal h1 h2 k3 k1 k6 k4
      have r1 : ∀ w, (callFunc 38 #[.int .u64 lo, .int .u64 c, .int .u64 0]).run Tryd.prog w = .ok (.value (.tuple #[.int .u64 s1, .int .u64 c1])) w := r1
      have r2 : ∀ w, (callFunc 38 #[.int .u64 a, .int .u64 s1, .int .u64 0]).run Tryd.prog w = .ok (.value (.tuple #[.int .u64 s2, .int .u64 c2])) w := r2
      have K8 : Hid (s2 + 18446744073709551616 * (hi' + c1 + c2) = a + x * q + c) := k8
      have K4 : Hid (s2 < 18446744073709551616) := k4
      have q1 : hi' + c1 ≤ 18446744073709551615 := by omega
      have q2 : hi' + c1 + c2 ≤ 18446744073709551615 := by omega
      have HSET : Hid (∀ d, P.length + i < (P ++ L ++ R).length → Blk (wr.setCell ⟨b, P.length + i, none⟩ (.int .u64 (d : Nat))) b ((P ++ L ++ R).set (P.length + i) d)) := hset
      have HLN : Hid (L.length = A.length) := hL
      clear h1 h2 h3 h4 h5 h6 k1 k2 k3 k4 k5 k6 k7 k8 hcells hrow hset hxl hal hlo hL
      go_wp2_with (first
        | (go_at_call 37; refine (r0 _).mono ?_; rintro e w' ⟨rfl, hw⟩; rw [hw]; clear hw w')
        | simp only [r1]
        | simp only [r2])
      go_roundw
      case rel =>
        have hl : i < L.length := by have := HLN.out; omega
        refine ⟨i + 1, hi' + c1 + c2, L.set i s2, by omega, q2, by go_num, by go_num, ?_, ?_, grown_trans hgr.out (grown_set _ _ _ _)⟩
        · exact hst.out.step hlt hl K4.out (by rw [HX.out, HY.out]; exact K8.out)
        · have := HSET.out s2 (by simp; omega)
          rw [mid_set P L R i s2 hl] at this
          exact this
      case measure => simp [intOf]; omega
    · have him : i = m.length := by omega
      go_wp2
      go_loopw [7, 13] (fun cv iv wr => ∃ (i c : Nat) (L : List Nat), m.length ≤ i ∧ i ≤ A.length ∧ c ≤ 18446744073709551615 ∧ cv = .int .u64 c ∧ iv = .int .i64 i ∧ Hid (AddAt A m q i c L) ∧ Hid (Blk wr b (P ++ L ++ R)) ∧ Hid (w.grownBy wr (some b))) (fun _ iv _ => A.length - (intOf iv).toNat)
      case atStart => exact ⟨m.length, c, L, Nat.le_refl _, hle, hc, rfl, rfl, him ▸ hst, hbk, hgr⟩
      case round =>
        clear hst hbk hgr him hlt hc hi
        obtain ⟨i, c, L, hi1, hi2, hc, rfl, rfl, hst, hbk, hgr⟩ := hrel
        by_cases hgo : i < A.length ∧ 0 < c
        · obtain ⟨hlt, hc0⟩ := hgo
          have hL := hst.out.len
          have hal := limbs_getD hst.out.lims i
          have hcell := hbk.out.cell (P.length + i) (by simp; omega)
          rw [mid_get P L R i (by omega)] at hcell
          have hfz := hbk.out.frozen (P.length + i)
          have hset := hbk.out.set (P.length + i)
          obtain ⟨a, HY⟩ : ∃ x, Hid (L.getD i 0 = x) := ⟨_, rfl⟩
          rw [HY.out] at hcell hal
          obtain ⟨s2, h5⟩ : ∃ y, y = (a + c + 0) % 18446744073709551616 := ⟨_, rfl⟩
          obtain ⟨c2, h6⟩ : ∃ y, y = (a + c + 0) / 18446744073709551616 := ⟨_, rfl⟩
          have r2 := run_add64_at a c 0 (by omega)
          rw [← h5, ← h6] at r2
          obtain ⟨k4, k5, k6⟩ := words_add hal (by omega) h5 h6
          have r2 : ∀ w, (callFunc 38 #[.int .u64 a, .int .u64 c, .int .u64 0]).run Tryd.prog w = .ok (.value (.tuple #[.int .u64 s2, .int .u64 c2])) w := r2
          have K6 : Hid (s2 + 18446744073709551616 * c2 = a + c) := k6
          have K4 : Hid (s2 < 18446744073709551616) := k4
          have HSET : Hid (∀ d, P.length + i < (P ++ L ++ R).length → Blk (wr.setCell ⟨b, P.length + i, none⟩ (.int .u64 (d : Nat))) b ((P ++ L ++ R).set (P.length + i) d)) := hset
          have HLN : Hid (L.length = A.length) := hL
          clear h5 h6 k4 k6 hset hal hL
          go_wp2_with (simp only [r2])
          go_roundw
          case rel =>
            have hl : i < L.length := by have := HLN.out; omega
            refine ⟨i + 1, c2, L.set i s2, by omega, by omega, by omega, rfl, by go_num, ?_, ?_, grown_trans hgr.out (grown_set _ _ _ _)⟩
            · exact hst.out.more hi1 hl K4.out (by rw [HY.out]; exact K6.out)
            · have := HSET.out s2 (by simp; omega)
              rw [mid_set P L R i s2 hl] at this
              exact this
          case measure => simp [intOf]; omega
        · obtain ⟨e1, e2⟩ := hst.out.done hi1 hi2 (by omega)
          have hd : decide (18446744073709551616 ^ A.length ≤ uval A + uval m * q) = decide (0 < c) := decide_eq_decide.2 e2.symm
          have HQ := hQ.out
          rw [hd] at HQ
          have HQ2 : Hid (∀ e w', e = .returned (.bool (decide (0 < c))) ∧ Blk w' b (P ++ fix A.length (uval A + uval m * q) ++ R) ∧ w.grownBy w' (some b) → Q e w') := HQ
          have HBK : Hid (Blk wr b (P ++ fix A.length (uval A + uval m * q) ++ R)) := by rw [← e1]; exact hbk
          clear HQ hd e1 e2 hQ hbk hst
          rcases (show (¬ i < A.length) ∨ (i < A.length ∧ c = 0) by omega) with h | ⟨h, rfl⟩
          · rcases (show c = 0 ∨ 0 < c by omega) with rfl | hc0
            · go_wp2
              exact HQ2.out _ _ ⟨rfl, HBK.out, hgr.out⟩
            · go_wp2
              exact HQ2.out _ _ ⟨ret_b (by simp [hc0]), HBK.out, hgr.out⟩
          · go_wp2
            exact HQ2.out _ _ ⟨rfl, HBK.out, hgr.out⟩
set_option maxHeartbeats 4000000 in
theorem takt_any (b cap q : Nat) (P A R m : List Nat) (vb : Value) (hA : Limbs A) (hm : Limbs m) (hq : q < 18446744073709551616) (hle : m.length ≤ A.length) (hcap : A.length ≤ cap) (hcap2 : cap ≤ 9223372036854775807) (hsz : P.length + A.length ≤ 1099511627776)
    (w : World) (hw : Blk w b (P ++ A ++ R)) (hb : RowU w vb m) (hne : m ≠ [] → vb.ownBlock ≠ some b) :
    Calls Tryd.prog 26 #[.slice (some ⟨b, P.length, none⟩) A.length cap, vb, .int .u64 q] w fun e w' =>
      e = .returned (.bool (decide (uval A < uval m * q))) ∧ (∃ (L : List Nat) (k : Nat), L.length = A.length ∧ Limbs L ∧ uval L + uval m * q = uval A + 18446744073709551616 ^ A.length * k ∧ (0 < k ↔ uval A < uval m * q) ∧ Blk w' b (P ++ L ++ R)) ∧ w.grownBy w' (some b) := by
  have HB : Hid (RowU w vb m) := hb
  obtain ⟨ab, cb, rfl, hcb, hlb, _⟩ := hb.out
  clear hb
  refine cps fun Q hQ => ?_
  have HNE : Hid (m ≠ [] → Value.ownBlock (.slice ab m.length cb) ≠ some b) := hne
  have HA : Hid (Limbs A) := hA
  have HM : Hid (Limbs m) := hm
  have HW : Hid (Blk w b (P ++ A ++ R)) := hw
  clear hne hA hm hw
  go_enter Tryd.func26, Tryd.ntmps26
  go_wp2
  go_loopw [7, 16] (fun cv iv wr => ∃ (i c : Nat) (L : List Nat), i ≤ m.length ∧ c ≤ 18446744073709551615 ∧ cv = .int .u64 c ∧ iv = .int .i64 i ∧ Hid (SubAt A m q i c L) ∧ Hid (Blk wr b (P ++ L ++ R)) ∧ Hid (w.grownBy wr (some b))) (fun _ iv _ => m.length - (intOf iv).toNat)
  case atStart => exact ⟨0, 0, A, Nat.zero_le _, by decide, rfl, rfl, SubAt.start m q HA.out, HW.out, grown_refl _ _⟩
  case round =>
    obtain ⟨i, c, L, hi, hc, rfl, rfl, hst, hbk, hgr⟩ := hrel
    by_cases hlt : i < m.length
    · have hrow := HB.out.grown hgr.out (fun g hg => by cases hg; exact HNE.out (fun h => by rw [h] at hlt; simp at hlt))
      obtain ⟨bb, ob, cb', he, _, _, _, hcells⟩ := hrow.some' rfl (by omega)
      injection he with e1 e2 e3
      subst e1 e3
      have hx := hcells i hlt
      have hL := hst.out.len
      have hxl := limbs_getD HM.out i
      have hal := limbs_getD hst.out.lims i
      have hcell := hbk.out.cell (P.length + i) (by simp; omega)
      rw [mid_get P L R i (by omega)] at hcell
      have hfz := hbk.out.frozen (P.length + i)
      have hset := hbk.out.set (P.length + i)
      obtain ⟨x, HX⟩ : ∃ x, Hid (m.getD i 0 = x) := ⟨_, rfl⟩
      obtain ⟨a, HY⟩ : ∃ x, Hid (L.getD i 0 = x) := ⟨_, rfl⟩
      rw [HX.out] at hx hxl
      rw [HY.out] at hcell hal
      obtain ⟨hi', h1⟩ : ∃ y, y = x * q / 18446744073709551616 := ⟨_, rfl⟩
      obtain ⟨lo, h2⟩ : ∃ y, y = x * q % 18446744073709551616 := ⟨_, rfl⟩
      have r0 := mul64_any x q hxl hq
      rw [← h1, ← h2] at r0
      have hlo : lo < 18446744073709551616 := by rw [h2]; exact Nat.mod_lt _ (by decide)
      obtain ⟨s1, h3⟩ : ∃ y, y = (lo + c + 0) % 18446744073709551616 := ⟨_, rfl⟩
      obtain ⟨c1, h4⟩ : ∃ y, y = (lo + c + 0) / 18446744073709551616 := ⟨_, rfl⟩
      have r1 := run_add64_at lo c 0 (by omega)
      rw [← h3, ← h4] at r1
      obtain ⟨k1, k2, k3⟩ := words_add hlo (by omega) h3 h4
      obtain ⟨s2, h5⟩ : ∃ y, y = (a + 18446744073709551616 - s1 - 0) % 18446744073709551616 := ⟨_, rfl⟩
      obtain ⟨c2, h6⟩ : ∃ y, y = (if a < s1 + 0 then 1 else 0 : Nat) := ⟨_, rfl⟩
      have r2 := run_sub64_at a s1 0 (by omega)
      rw [← h5, ← h6] at r2
      obtain ⟨k4, k5, k6⟩ := words_sub hal k1 h5 h6
      obtain ⟨k7, k8⟩ := step_words_sub hxl hq (by omega) hal h1 h2 k3 k1 k6 k4 k5
      have r1 : ∀ w, (callFunc 38 #[.int .u64 lo, .int .u64 c, .int .u64 0]).run Tryd.prog w = .ok (.value (.tuple #[.int .u64 s1, .int .u64 c1])) w := r1
      have r2 : ∀ w, (callFunc 42 #[.int .u64 a, .int .u64 s1, .int .u64 0]).run Tryd.prog w = .ok (.value (.tuple #[.int .u64 s2, .int .u64 c2])) w := r2
      have K8 : Hid (s2 + x * q + c = a + 18446744073709551616 * (hi' + c1 + c2)) := k8
      have K4 : Hid (s2 < 18446744073709551616) := k4
      have q1 : hi' + c1 ≤ 18446744073709551615 := by omega
      have q2 : hi' + c1 + c2 ≤ 18446744073709551615 := by omega
      have HSET : Hid (∀ d, P.length + i < (P ++ L ++ R).length → Blk (wr.setCell ⟨b, P.length + i, none⟩ (.int .u64 (d : Nat))) b ((P ++ L ++ R).set (P.length + i) d)) := hset
      have HLN : Hid (L.length = A.length) := hL
      clear h1 h2 h3 h4 h5 h6 k1 k2 k3 k4 k5 k6 k7 k8 hcells hrow hset hxl hal hlo hL
      go_wp2_with (first
        | (go_at_call 37; refine (r0 _).mono ?_; rintro e w' ⟨rfl, hw⟩; rw [hw]; clear hw w')
        | simp only [r1]
        | simp only [r2])
      go_roundw
      case rel =>
        have hl : i < L.length := by have := HLN.out; omega
        refine ⟨i + 1, hi' + c1 + c2, L.set i s2, by omega, q2, by go_num, by go_num, ?_, ?_, grown_trans hgr.out (grown_set _ _ _ _)⟩
        · exact hst.out.step hlt hl K4.out (by rw [HX.out, HY.out]; exact K8.out)
        · have := HSET.out s2 (by simp; omega)
          rw [mid_set P L R i s2 hl] at this
          exact this
      case measure => simp [intOf]; omega
    · have him : i = m.length := by omega
      go_wp2
      go_loopw [7, 13] (fun cv iv wr => ∃ (i c : Nat) (L : List Nat), m.length ≤ i ∧ i ≤ A.length ∧ c ≤ 18446744073709551615 ∧ cv = .int .u64 c ∧ iv = .int .i64 i ∧ Hid (SubAt A m q i c L) ∧ Hid (Blk wr b (P ++ L ++ R)) ∧ Hid (w.grownBy wr (some b))) (fun _ iv _ => A.length - (intOf iv).toNat)
      case atStart => exact ⟨m.length, c, L, Nat.le_refl _, hle, hc, rfl, rfl, him ▸ hst, hbk, hgr⟩
      case round =>
        clear hst hbk hgr him hlt hc hi
        obtain ⟨i, c, L, hi1, hi2, hc, rfl, rfl, hst, hbk, hgr⟩ := hrel
        by_cases hgo : i < A.length ∧ 0 < c
        · obtain ⟨hlt, hc0⟩ := hgo
          have hL := hst.out.len
          have hal := limbs_getD hst.out.lims i
          have hcell := hbk.out.cell (P.length + i) (by simp; omega)
          rw [mid_get P L R i (by omega)] at hcell
          have hfz := hbk.out.frozen (P.length + i)
          have hset := hbk.out.set (P.length + i)
          obtain ⟨a, HY⟩ : ∃ x, Hid (L.getD i 0 = x) := ⟨_, rfl⟩
          rw [HY.out] at hcell hal
          obtain ⟨s2, h5⟩ : ∃ y, y = (a + 18446744073709551616 - c - 0) % 18446744073709551616 := ⟨_, rfl⟩
          obtain ⟨c2, h6⟩ : ∃ y, y = (if a < c + 0 then 1 else 0 : Nat) := ⟨_, rfl⟩
          have r2 := run_sub64_at a c 0 (by omega)
          rw [← h5, ← h6] at r2
          obtain ⟨k4, k5, k6⟩ := words_sub hal (by omega) h5 h6
          have r2 : ∀ w, (callFunc 42 #[.int .u64 a, .int .u64 c, .int .u64 0]).run Tryd.prog w = .ok (.value (.tuple #[.int .u64 s2, .int .u64 c2])) w := r2
          have K6 : Hid (s2 + c = a + 18446744073709551616 * c2) := k6
          have K4 : Hid (s2 < 18446744073709551616) := k4
          have HSET : Hid (∀ d, P.length + i < (P ++ L ++ R).length → Blk (wr.setCell ⟨b, P.length + i, none⟩ (.int .u64 (d : Nat))) b ((P ++ L ++ R).set (P.length + i) d)) := hset
          have HLN : Hid (L.length = A.length) := hL
          clear h5 h6 k4 k6 hset hal hL
          go_wp2_with (simp only [r2])
          go_roundw
          case rel =>
            have hl : i < L.length := by have := HLN.out; omega
            refine ⟨i + 1, c2, L.set i s2, by omega, by omega, by omega, rfl, by go_num, ?_, ?_, grown_trans hgr.out (grown_set _ _ _ _)⟩
            · exact hst.out.more hi1 hl K4.out (by rw [HY.out]; exact K6.out)
            · have := HSET.out s2 (by simp; omega)
              rw [mid_set P L R i s2 hl] at this
              exact this
          case measure => simp [intOf]; omega
        · obtain ⟨k, e1, e2, e3⟩ := hst.out.done hi1 hi2 (by omega)
          have hd : decide (uval A < uval m * q) = decide (0 < c) := decide_eq_decide.2 e2.symm
          have HQ := hQ.out
          rw [hd] at HQ
          have HQ2 : Hid (∀ e w', e = .returned (.bool (decide (0 < c))) ∧ (∃ (L : List Nat) (k : Nat), L.length = A.length ∧ Limbs L ∧ uval L + uval m * q = uval A + 18446744073709551616 ^ A.length * k ∧ (0 < k ↔ uval A < uval m * q) ∧ Blk w' b (P ++ L ++ R)) ∧ w.grownBy w' (some b) → Q e w') := HQ
          have HBK : Hid (∃ (L : List Nat) (k : Nat), L.length = A.length ∧ Limbs L ∧ uval L + uval m * q = uval A + 18446744073709551616 ^ A.length * k ∧ (0 < k ↔ uval A < uval m * q) ∧ Blk wr b (P ++ L ++ R)) :=
            ⟨L, k, hst.out.len, hst.out.lims, e1, by rw [← e2]; omega, hbk.out⟩
          clear HQ hd e1 e2 e3 hQ hbk hst
          rcases (show (¬ i < A.length) ∨ (i < A.length ∧ c = 0) by omega) with h | ⟨h, rfl⟩
          · rcases (show c = 0 ∨ 0 < c by omega) with rfl | hc0
            · go_wp2
              exact HQ2.out _ _ ⟨rfl, HBK.out, hgr.out⟩
            · go_wp2
              exact HQ2.out _ _ ⟨ret_b (by simp [hc0]), HBK.out, hgr.out⟩
          · go_wp2
            exact HQ2.out _ _ ⟨rfl, HBK.out, hgr.out⟩
end Go.Proofs.YtckmmdmimlhmoaaDoor
