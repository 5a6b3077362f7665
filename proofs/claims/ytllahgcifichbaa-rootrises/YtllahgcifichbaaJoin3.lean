import Derived.Test.YtllahgcifichbaaJoin1
import Derived.Test.YtllahgcifichbaaJoin2
import Derived.Test.YtllahgcifichbaaProg
import Derived.OwnWalk
import Derived.Lib.SmallJoins
import Derived.Shelf.Spec.BitsCarry
import Derived.Lib.Mul64
import Derived.Lib.BitFns
namespace Go.Proofs.Ytllahgcifichbaa
open Go.ChangeShapes Go.WideShapes Go.ChangeAt Go.RowKit
set_option linter.unusedVariables false
set_option maxRecDepth 100000

/-! ### rows of ints that are read -/
def enc (d : Nat) : Value := .int .i64 (d : Int)
/-- b is a block of ints -/
def IntB (w : World) (b : Nat) : Prop := ∃ cs, w.heap[b]? = some (.cells cs 3 (0, 0))
theorem IntB.lt {w : World} {b : Nat} (h : IntB w b) : b < w.heap.size := by
  obtain ⟨cs, h⟩ := h; exact (Array.getElem?_eq_some_iff.1 h).1
theorem IntB.same {w w' : World} {b : Nat} (h : IntB w b) (e : w'.heap[b]? = w.heap[b]?) : IntB w' b := by
  obtain ⟨cs, h⟩ := h; exact ⟨cs, e.trans h⟩
theorem IntB.set {w : World} {b g j : Nat} {u : Value} (h : IntB w b) : IntB (w.setCell ⟨g, j, none⟩ u) b := by
  obtain ⟨cs, h⟩ := h
  by_cases e : b = g
  · subst e; exact ⟨_, heap_setCell_same w b j cs _ u h⟩
  · exact ⟨cs, (heap_setCell_other w ⟨g, j, none⟩ b u e).trans h⟩
/-- v is a slice of ints that reads as l in w -/
def Row (w : World) (v : Value) (l : List Nat) : Prop :=
  ∃ ao c, v = .slice ao l.length c ∧ c ≤ 9223372036854775807 ∧ l.length ≤ c ∧
    ((ao = none ∧ l = [] ∧ c = 0) ∨ ∃ b off, ao = some ⟨b, off, none⟩ ∧ IntB w b ∧ ∀ j, j < l.length → w.cell? ⟨b, off + j, none⟩ = some (.int .i64 (l.getD j 0 : Nat)))
theorem Row.below {w w' : World} {v : Value} {l : List Nat} (h : Row w v l) (hb : Below w.heap.size w w') : Row w' v l := by
  obtain ⟨ao, c, rfl, hc, hl, h⟩ := h
  refine ⟨ao, c, rfl, hc, hl, ?_⟩
  rcases h with h | ⟨b, off, rfl, hlt, h⟩
  · exact .inl h
  · exact .inr ⟨b, off, rfl, hlt.same (hb.block b hlt.lt), fun j hj => (hb.cell (p := ⟨b, off + j, none⟩) hlt.lt).trans (h j hj)⟩
theorem row_nil (w : World) : Row w (.slice none 0 0) [] := ⟨none, 0, rfl, by decide, by decide, .inl ⟨rfl, rfl, rfl⟩⟩
theorem row_own {w : World} {base n : Nat} {v : Value} {l : List Nat} (h : w.ownsRow base 3 1 v n (l.map enc)) : Row w v l := by
  obtain ⟨h1, h2⟩ := h
  rcases h2 with ⟨rfl, rfl⟩ | ⟨g, cap, cur, rfl, _, hg, hn, hcap, hsz, ht⟩
  · have : l = [] := by simpa using h1
    subst this; exact row_nil w
  · have hl : l.length = n := by simpa using h1
    subst hl
    unfold maxLen at hcap
    refine ⟨_, cap, rfl, by omega, hn, .inr ⟨g, 0, rfl, ?_, ?_⟩⟩
    · exact ⟨_, hg⟩
    · intro j hj
      have hc : cur[j]? = some (.int .i64 (l.getD j 0 : Nat)) := by
        have e1 : (cur.toList.take (l.length * 1))[j]? = (l.map enc)[j]? := by rw [ht]
        rw [List.getElem?_take_of_lt (by omega)] at e1
        simpa [hj, enc] using e1
      simp [World.cell?, hg, hc]
/-- how a row goes into a walk -/
theorem Row.out {w : World} {v : Value} {l : List Nat} (h : Row w v l) : ∃ ao c, v = .slice ao l.length c ∧ c ≤ 9223372036854775807 ∧ l.length ≤ c ∧
    (l.length = 0 ∨ ∃ b off, ao = some ⟨b, off, none⟩ ∧ ∀ j, j < l.length → w.cell? ⟨b, off + j, none⟩ = some (.int .i64 (l.getD j 0 : Nat))) := by
  obtain ⟨ao, c, rfl, hc, hl, h⟩ := h
  refine ⟨ao, c, rfl, hc, hl, ?_⟩
  rcases h with ⟨_, rfl, _⟩ | ⟨b, off, rfl, _, h⟩
  · exact .inl rfl
  · exact .inr ⟨b, off, rfl, h⟩

theorem infoInt : (Try.prog.info? 3).map (fun i => (i.zero, i.size, i.bytes)) = some (some (.int .i64 0), 1, 8) := by kernel_rfl

theorem digit_any (v : Value) (l : List Nat) (i : Nat) (hi : i < 4611686018427387904) (w : World) (hr : Row w v l) :
    Calls Try.prog 84 #[v, .int .i64 i] w fun e w' => e = .returned (.int .i64 (l.getD i 0 : Nat)) ∧ w' = w := by
  obtain ⟨ao, c, rfl, hc, hl, h⟩ := hr.out
  clear hr
  refine cps fun Q hQ => ?_
  by_cases hlt : i < l.length
  · rcases h with h | ⟨b, off, rfl, h⟩
    · omega
    have hcell := h i hlt
    generalize l.getD i 0 = d at *
    generalize l.length = n at *
    go_enter Try.func84, Try.ntmps84
    go_wp2
    exact hQ.out _ _ ⟨rfl, rfl⟩
  · have hz : l.getD i 0 = 0 := by rw [List.getD_eq_getElem?_getD, List.getElem?_eq_none (by omega)]; rfl
    rw [hz] at hQ
    generalize l.length = n at *
    go_enter Try.func84, Try.ntmps84
    go_wp2
    exact hQ.out _ _ ⟨rfl, rfl⟩

theorem digit_dig (v : Value) (n i d : Nat) (hi : i < 4611686018427387904) (w : World) (hr : Row w v (dig n)) (hd : d = top n i % 16777216) :
    Calls Try.prog 84 #[v, .int .i64 i] w fun e w' => e = .returned (.int .i64 d) ∧ w' = w := by
  rw [hd, ← dig_get]; exact digit_any v _ i hi w hr
/-- a number's slice, as the walk wants it -/
theorem Row.num {w : World} {v : Value} {n : Nat} (h : Row w v (dig n)) : ∃ ao c, v = .slice ao (dlen n) c ∧ c ≤ 9223372036854775807 ∧ dlen n ≤ c := by
  obtain ⟨ao, c, rfl, hc, hl, _⟩ := h
  exact ⟨ao, c, rfl, hc, hl⟩

set_option maxHeartbeats 1000000 in
theorem of_any (x : Nat) (hx : x < 2 ^ 64) (w : World) :
    Calls Try.prog 54 #[.int .u64 x] w fun e w' => ∃ v, e = .returned v ∧ Row w' v (dig x) ∧ Below w.heap.size w w' := by
  refine cps fun Q hQ => ?_
  have hx : x ≤ 18446744073709551615 := by omega
  obtain ⟨i0, hi, hz0, hz1, hz2⟩ := info_parts infoInt
  have hd3 : dlen x ≤ 3 := dlen_le_of_lt (by omega)
  go_enter Try.func54, Try.ntmps54
  go_wp2
  go_loopw [0, 3] (fun a v wr => ∃ k V : Nat, k ≤ dlen x ∧ V = top x k ∧ V ≤ 18446744073709551615 ∧ a = .int .u64 V ∧ wr.ownsRow w.heap.size 3 1 v k ((low x k).map enc) ∧ Below w.heap.size w wr) (fun a _ _ => (intOf a).toNat)
  case atStart => exact ⟨0, x, Nat.zero_le _, rfl, hx, rfl, World.ownsRow_nil _ _ _ _, Below.refl _ _⟩
  case round =>
    obtain ⟨k, V, hk, hV, hb, rfl, hown, hbel⟩ := hrel
    have hp := top_pos_iff x k
    have HV : Hid (V = top x k) := hV
    rw [← hV] at hp
    clear hV
    by_cases h0 : 0 < V
    · have hk1 := hp.1 h0
      have HK : Hid (dlen x ≤ 3) := hd3
      have hsz := hbel.size
      clear hp hd3
      go_wp2_with (at_builtin; go_must (refine append1 rfl _ _ _ rfl w.heap.size 3 i0 (.int .i64 0) 8 Try.underlying59 hi hz0 hz1 hz2 rfl _ _ _ hown rfl rfl rfl (by have := HK.out; omega) (by decide) hsz ?_); intro v' w1 hown' hbel' _ _)
      go_roundw
      case rel => 
        refine ⟨k + 1, V / 16777216, by omega, ?_, by omega, by go_num, ?_, hbel.trans hbel'⟩
        · rw [HV.out]; rfl
        · rw [low_snoc, ← HV.out, List.map_append]; exact hown'
      case measure => simp [intOf]; omega
    · have hk1 : k = dlen x := by have := hp.2; omega
      subst hk1
      rw [low_dlen] at hown
      go_wp2
      exact hQ.out _ _ ⟨_, rfl, row_own hown, hbel⟩

/-- 'l[:n]' of a row -/
theorem Row.take {w : World} {ao : Option Addr} {c k : Nat} {l : List Nat} (h : Row w (.slice ao k c) l) (n : Nat) (hn : n ≤ l.length) : Row w (.slice ao n c) (l.take n) := by
  obtain ⟨ao', c', he, hc, hl, h⟩ := h
  injection he with e1 e2 e3
  subst e1 e2 e3
  have e : (l.take n).length = n := by rw [List.length_take]; omega
  refine ⟨ao, c, by rw [e], hc, by omega, ?_⟩
  rcases h with ⟨h1, h2, h3⟩ | ⟨b, off, h1, h2, h3⟩
  · exact .inl ⟨h1, by rw [h2]; simp, h3⟩
  · refine .inr ⟨b, off, h1, h2, fun j hj => ?_⟩
    rw [e] at hj
    rw [h3 j (by omega), List.getD_eq_getElem?_getD, List.getD_eq_getElem?_getD, List.getElem?_take_of_lt hj]

set_option maxHeartbeats 2000000 in
theorem nadd_any (va vb : Value) (a b : Nat) (hS : dlen (a + b) ≤ 1099511627776) (w : World) (ha : Row w va (dig a)) (hb : Row w vb (dig b)) :
    Calls Try.prog 55 #[va, vb] w fun e w' => ∃ v, e = .returned v ∧ Row w' v (dig (a + b)) ∧ Below w.heap.size w w' := by
  refine cps fun Q hQ => ?_
  have hla : dlen a ≤ dlen (a + b) := dlen_mono (by omega)
  have hlb : dlen b ≤ dlen (a + b) := dlen_mono (by omega)
  have HA : Hid (Row w va (dig a)) := ha
  have HB : Hid (Row w vb (dig b)) := hb
  obtain ⟨aa, ca, rfl, h1, h2⟩ := ha.num
  obtain ⟨ab, cb, rfl, h3, h4⟩ := hb.num
  clear ha hb
  obtain ⟨i0, hi, hz0, hz1, hz2⟩ := info_parts infoInt
  have HP : Hid (∀ n k, 0 < top n k ↔ k < dlen n) := top_pos_iff
  generalize hs : a + b = s at *
  have HS : Hid (a + b = s) := hs
  clear hs
  go_enter Try.func55, Try.ntmps55
  go_wp2
  go_loopw [5, 6, 7] (fun o cv iv wr => ∃ k A B C : Nat, k ≤ dlen s ∧ C ≤ 1 ∧ Hid (A = top a k) ∧ Hid (B = top b k) ∧ Hid (A + B + C = top s k) ∧ iv = .int .i64 k ∧ cv = .int .i64 C ∧ wr.ownsRow w.heap.size 3 1 o k ((low s k).map enc) ∧ Below w.heap.size w wr) (fun _ _ i _ => dlen s - (intOf i).toNat)
  case atStart => exact ⟨0, a, b, 0, Nat.zero_le _, by decide, rfl, rfl, HS.out, rfl, rfl, World.ownsRow_nil _ _ _ _, Below.refl _ _⟩
  case round =>
    obtain ⟨k, A, B, C, hk, hC, hA, hB, hT, rfl, rfl, hown, hbel⟩ := hrel
    have pa := HP.out a k
    have pb := HP.out b k
    have ps := HP.out s k
    rw [← hA.out] at pa
    rw [← hB.out] at pb
    rw [← hT.out] at ps
    have hsz := hbel.size
    by_cases hc : k < dlen a ∨ k < dlen b ∨ 0 < C
    · have hks : k < dlen s := ps.1 (by omega)
      have hra := HA.out.below hbel
      have hrb := HB.out.below hbel
      obtain ⟨da, hda⟩ : ∃ d, d = A % 16777216 := ⟨_, rfl⟩
      obtain ⟨db, hdb⟩ : ∃ d, d = B % 16777216 := ⟨_, rfl⟩
      have bda : da ≤ 16777215 := by omega
      have bdb : db ≤ 16777215 := by omega
      have Hda : Hid (da = A % 16777216) := hda
      have Hdb : Hid (db = B % 16777216) := hdb
      have h3 : k < dlen a ∨ (¬ k < dlen a ∧ k < dlen b) ∨ (¬ k < dlen a ∧ ¬ k < dlen b ∧ 0 < C) := by omega
      have HRA : Hid (Row wr _ _) := hra
      have HRB : Hid (Row wr _ _) := hrb
      clear hc pa pb ps hda hdb hra hrb
      rcases h3 with h3 | ⟨h3, h4⟩ | ⟨h3, h4, h5⟩
      all_goals
        go_wp2_with (first
          | (go_at_call_of 84 aa; refine (digit_dig _ a k da (by omega) _ HRA.out (by rw [Hda.out, hA.out])).mono ?_; rintro e w' ⟨rfl, rfl⟩)
          | (go_at_call_of 84 ab; refine (digit_dig _ b k db (by omega) _ HRB.out (by rw [Hdb.out, hB.out])).mono ?_; rintro e w' ⟨rfl, rfl⟩)
          | (at_builtin; refine append1 rfl _ _ _ rfl w.heap.size 3 i0 (.int .i64 0) 8 Try.underlying59 hi hz0 hz1 hz2 rfl _ _ _ hown rfl rfl rfl (by omega) (by decide) hsz ?_; intro v' w1 hown' hbel' _ _))
        go_roundw
        case rel =>
          refine ⟨k + 1, A / 16777216, B / 16777216, (da + db + C) / 16777216, by omega, by omega, ?_, ?_, ?_, by go_num, by go_num, ?_, hbel.trans hbel'⟩
          · show _ = _; rw [hA.out]; rfl
          · show _ = _; rw [hB.out]; rfl
          · show _ = _; rw [top_succ, ← hT.out]; have := Hda.out; have := Hdb.out; omega
          · rw [low_snoc, ← hT.out, List.map_append]
            have e : (((da : Int) + db + C) % 16777216) = (((A + B + C) % 16777216 : Nat) : Int) := by have := Hda.out; have := Hdb.out; omega
            rw [e] at hown'
            exact hown'
        case measure => simp [intOf]; omega
    · have hks : ¬ k < dlen s := fun h => by have := ps.2 h; omega
      have hk1 : k = dlen s := by omega
      have e : low s k = dig s := by rw [hk1, low_dlen]
      rw [e] at hown
      have h3 : ¬ k < dlen a := by omega
      have h4 : ¬ k < dlen b := by omega
      have h5 : ¬ 0 < C := by omega
      clear hk1 e pa pb ps hc
      go_wp2
      exact hQ.out _ _ ⟨_, rfl, row_own hown, hbel⟩
end Go.Proofs.Ytllahgcifichbaa

namespace Go.Proofs.Ytllahgcifichbaa
open Go.ChangeShapes Go.WideShapes Go.ChangeAt Go.RowKit
set_option linter.unusedVariables false
set_option maxRecDepth 100000

/-- how a number's slice goes into a walk that reads its elements -/
theorem Row.reads {w : World} {v : Value} {n : Nat} (h : Row w v (dig n)) : ∃ ao c, v = .slice ao (dlen n) c ∧ c ≤ 9223372036854775807 ∧ dlen n ≤ c ∧
    (dlen n = 0 ∨ ∃ b off, ao = some ⟨b, off, none⟩ ∧ b < w.heap.size ∧ ∀ j, j < dlen n → w.cell? ⟨b, off + j, none⟩ = some (.int .i64 (top n j % 16777216 : Nat))) := by
  obtain ⟨ao, c, rfl, hc, hl, h⟩ := h
  refine ⟨ao, c, rfl, hc, hl, ?_⟩
  rcases h with ⟨_, h, _⟩ | ⟨b, off, rfl, hb, h⟩
  · exact .inl (by unfold dlen; rw [h]; rfl)
  · exact .inr ⟨b, off, rfl, hb.lt, fun j hj => by rw [h j hj, dig_get]⟩
theorem owns_drewN {w : World} {base n sz : Nat} {e : TypeId} {v : Value} {xs : List Value} (h : w.ownsRow base e sz v n xs) (q : Nat) : (w.drewN q).ownsRow base e sz v n xs := h

set_option maxHeartbeats 1000000 in
theorem two_any (k : Nat) (hk : k ≤ 24) (w : World) :
    Calls Try.prog 83 #[.int .i64 k] w fun e w' => e = .returned (.int .i64 (2 ^ k : Nat)) ∧ w' = w := by
  refine cps fun Q hQ => ?_
  go_enter Try.func83, Try.ntmps83
  go_wp2
  go_loop [3, 4] (fun n i => ∃ j V : Nat, j ≤ k ∧ Hid (V = 2 ^ j) ∧ V ≤ 16777216 ∧ i = .int .i64 j ∧ n = .int .i64 V) (fun _ i => k - (intOf i).toNat)
  case atStart => exact ⟨0, 1, Nat.zero_le _, rfl, by decide, rfl, rfl⟩
  case round =>
    obtain ⟨j, V, hj, hV, hb, rfl, rfl⟩ := hrel
    by_cases hlt : j < k
    · go_wp2
      go_round
      case rel =>
        have h1 : 2 ^ (j + 1) = 2 * V := by rw [hV.out, Nat.pow_succ, Nat.mul_comm]
        have h2 : 2 ^ (j + 1) ≤ 2 ^ 24 := Nat.pow_le_pow_right (by decide) (by omega)
        exact ⟨j + 1, 2 * V, by omega, h1.symm, by omega, by go_num, by go_num⟩
      case measure => simp [intOf]; omega
    · have e : j = k := by omega
      subst e
      go_wp2
      refine hQ.out _ _ ⟨?_, rfl⟩
      rw [hV.out]

theorem mul_part (A q : Nat) : A * q = 16777216 * (A / 16777216 * q) + A % 16777216 * q := by
  conv => lhs; rw [← Nat.div_add_mod A 16777216]
  rw [Nat.add_mul, Nat.mul_assoc]

set_option maxHeartbeats 2000000 in
theorem times_any (va : Value) (a q : Nat) (hq : q ≤ 16777216) (hS : dlen a ≤ 1099511627776) (w : World) (ha : Row w va (dig a)) :
    Calls Try.prog 82 #[va, .int .i64 q] w fun e w' => ∃ v, e = .returned v ∧ Row w' v (dig (a * q)) ∧ Below w.heap.size w w' := by
  refine cps fun Q hQ => ?_
  have hls : dlen (a * q) ≤ dlen a + 2 := by
    refine dlen_le_of_lt ?_
    have h1 := lt_of_dlen_le (n := a) (Nat.le_refl _)
    rw [Nat.pow_add]
    refine Nat.lt_of_le_of_lt (Nat.mul_le_mul (Nat.le_of_lt h1) hq) ?_
    exact Nat.mul_lt_mul_of_pos_left (by decide) (Nat.pow_pos (by decide))
  have HA : Hid (Row w va (dig a)) := ha
  obtain ⟨aa, ca, rfl, h1, h2⟩ := ha.num
  clear ha
  obtain ⟨i0, hi, hz0, hz1, hz2⟩ := info_parts infoInt
  have HP : Hid (∀ n k, 0 < top n k ↔ k < dlen n) := top_pos_iff
  generalize hs : a * q = s at *
  have HS : Hid (a * q + 0 = s) := hs
  clear hs
  go_enter Try.func82, Try.ntmps82
  go_wp2
  go_loopw [5, 6, 7] (fun o cv iv wr => ∃ k A C : Nat, k ≤ dlen s ∧ C ≤ q ∧ Hid (A = top a k) ∧ Hid (A * q + C = top s k) ∧ iv = .int .i64 k ∧ cv = .int .i64 C ∧ wr.ownsRow w.heap.size 3 1 o k ((low s k).map enc) ∧ Below w.heap.size w wr) (fun _ _ i _ => dlen s - (intOf i).toNat)
  case atStart => exact ⟨0, a, 0, Nat.zero_le _, Nat.zero_le _, rfl, HS.out, rfl, rfl, World.ownsRow_nil _ _ _ _, Below.refl _ _⟩
  case round =>
    obtain ⟨k, A, C, hk, hC, hA, hT, rfl, rfl, hown, hbel⟩ := hrel
    have pa := HP.out a k
    have ps := HP.out s k
    rw [← hA.out] at pa
    have hpos : 0 < A * q ↔ 0 < A ∧ 0 < q := ⟨fun h => ⟨Nat.pos_of_mul_pos_right h, Nat.pos_of_mul_pos_left h⟩, fun h => Nat.mul_pos h.1 h.2⟩
    rw [← hT.out] at ps
    have hsz := hbel.size
    by_cases hc : (k < dlen a ∧ 0 < q) ∨ 0 < C
    · have hks : k < dlen s := ps.1 (by have := hpos.2; omega)
      have hra := HA.out.below hbel
      obtain ⟨da, hda⟩ : ∃ d, d = A % 16777216 := ⟨_, rfl⟩
      have bda : da ≤ 16777215 := by omega
      have Hda : Hid (da = A % 16777216) := hda
      have HRA : Hid (Row wr _ _) := hra
      obtain ⟨m, hm⟩ : ∃ m : Nat, m = da * q := ⟨_, rfl⟩
      have bm : m ≤ 16777215 * q := by rw [hm]; exact Nat.mul_le_mul bda (Nat.le_refl _)
      have HM : Hid (m = da * q) := hm
      have hmi : (da : Int) * (q : Int) = (m : Int) := by rw [hm]; simp
      have h3 : (k < dlen a ∧ 0 < q) ∨ (¬ k < dlen a ∧ 0 < C) := by omega
      clear hc pa ps hda hra hpos hm
      rcases h3 with ⟨h3, h4⟩ | ⟨h3, h4⟩
      all_goals
        go_wp2_with (first
          | (go_at_call_of 84 aa; refine (digit_dig _ a k da (by omega) _ HRA.out (by rw [Hda.out, hA.out])).mono ?_; rintro e w' ⟨rfl, rfl⟩)
          | (at_builtin; refine append1 rfl _ _ _ rfl w.heap.size 3 i0 (.int .i64 0) 8 Try.underlying59 hi hz0 hz1 hz2 rfl _ _ _ hown rfl rfl rfl (by omega) (by decide) hsz ?_; intro v' w1 hown' hbel' _ _))
        go_roundw
        case rel =>
          have hp := mul_part A q
          rw [← Hda.out, ← HM.out] at hp
          refine ⟨k + 1, A / 16777216, (m + C) / 16777216, by omega, by omega, ?_, ?_, by go_num, by go_num, ?_, hbel.trans hbel'⟩
          · show _ = _; rw [hA.out]; rfl
          · show _ = _; rw [top_succ, ← hT.out]; omega
          · rw [low_snoc, ← hT.out, List.map_append]
            have e : (((m : Int) + C) % 16777216) = (((A * q + C) % 16777216 : Nat) : Int) := by omega
            rw [e] at hown'
            exact hown'
        case measure => simp [intOf]; omega
    · have hks : ¬ k < dlen s := fun h => by have := ps.2 h; have := hpos.1; omega
      have hk1 : k = dlen s := by omega
      have e : low s k = dig s := by rw [hk1, low_dlen]
      rw [e] at hown
      have h5 : ¬ 0 < C := by omega
      have h3 : ¬ (k < dlen a ∧ 0 < q) := by omega
      by_cases h4 : k < dlen a
      · have h6 : ¬ 0 < q := by omega
        clear hk1 e pa ps hc hpos h3
        go_wp2
        exact hQ.out _ _ ⟨_, rfl, row_own hown, hbel⟩
      · clear hk1 e pa ps hc hpos h3
        go_wp2
        exact hQ.out _ _ ⟨_, rfl, row_own hown, hbel⟩
end Go.Proofs.Ytllahgcifichbaa

namespace Go.Proofs.Ytllahgcifichbaa
open Go.ChangeShapes Go.WideShapes Go.ChangeAt Go.RowKit
set_option linter.unusedVariables false
set_option maxRecDepth 100000

theorem owns_below {w w' : World} {base n sz : Nat} {e : TypeId} {v : Value} {xs : List Value} (h : w.ownsRow base e sz v n xs) (hb : Below w.heap.size w w') : w'.ownsRow base e sz v n xs := by
  refine ⟨h.1, ?_⟩
  rcases h.2 with hn | ⟨g, cap, cur, rfl, hg, hgg, rest⟩
  · exact .inl hn
  · refine .inr ⟨g, cap, cur, rfl, hg, ?_, rest⟩
    rw [hb.block g (Array.getElem?_eq_some_iff.1 hgg).1]; exact hgg
theorem made_ints (n : Nat) : (madeCells (Value.int .i64 0).cells (n * 1)).toList = (List.replicate n 0).map enc := by
  have e : ∀ x : Nat, [Value.int .i64 0][x % 1]?.getD default = .int .i64 0 := fun x => by rw [Nat.mod_one]; rfl
  simp [madeCells, enc, Value.cells, e, List.map_const']
/-- 'l[q:]' of a row -/
theorem Row.drop {w : World} {b off c : Nat} {n k : Nat} (h : Row w (.slice (some ⟨b, off, none⟩) k c) (dig n)) (q : Nat) (hq : q ≤ dlen n) : Row w (.slice (some ⟨b, off + q, none⟩) (dlen n - q) (c - q)) (dig (top n q)) := by
  obtain ⟨ao', c', he, hc, hl, h⟩ := h
  injection he with e1 e2 e3
  subst e1 e2 e3
  have hl' : dlen n ≤ c := hl
  refine ⟨_, c - q, by rw [dig_length, dlen_top], by omega, by rw [dig_length, dlen_top]; omega, ?_⟩
  rcases h with ⟨h1, h2⟩ | ⟨b', off', h1, h2, h3⟩
  · simp at h1
  · simp at h1
    obtain ⟨rfl, rfl⟩ := h1
    refine .inr ⟨_, _, rfl, h2, fun j hj => ?_⟩
    rw [dig_length, dlen_top] at hj
    rw [Nat.add_assoc, h3 (q + j) (by rw [dig_length]; omega), dig_get, dig_get, top_add]

set_option maxHeartbeats 1000000 in
theorem nshl_any (va : Value) (a k : Nat) (hk : k ≤ 1099511627776) (hS : dlen a ≤ 1099511627776) (w : World) (ha : Row w va (dig a)) :
    Calls Try.prog 53 #[va, .int .i64 k] w fun e w' => ∃ v, e = .returned v ∧ Row w' v (dig (a * 2 ^ k)) ∧ Below w.heap.size w w' := by
  refine cps fun Q hQ => ?_
  have HA : Hid (Row w va (dig a)) := ha
  obtain ⟨aa, ca, rfl, h1, h2⟩ := ha.num
  clear ha
  obtain ⟨i0, hi, hz0, hz1, hz2⟩ := info_parts infoInt
  have hz := @dlen_eq_zero a
  have e0 : 2 ^ k = 2 ^ (k % 24) * 16777216 ^ (k / 24) := by
    have : (16777216 : Nat) = 2 ^ 24 := by decide
    rw [this, ← Nat.pow_mul, ← Nat.pow_add]; congr 1; omega
  by_cases h0 : dlen a = 0
  · have hn := hz.1 h0
    subst hn
    have HQ : Hid _ := hQ.out _ w ⟨.slice none 0 0, rfl, by rw [Nat.zero_mul, dig_zero]; exact row_nil w, Below.refl _ _⟩
    clear hz HA e0
    go_enter Try.func53, Try.ntmps53
    go_wp2
    exact HQ.out
  · have hn : a ≠ 0 := fun h => h0 (hz.2 h)
    have hq : 0 < 2 ^ (k % 24) := Nat.pow_pos (by decide)
    have hq2 : 2 ^ (k % 24) ≤ 2 ^ 24 := Nat.pow_le_pow_right (by decide) (by omega)
    have hne : a * 2 ^ (k % 24) ≠ 0 := Nat.mul_ne_zero hn (by omega)
    have hD : Hid (dig (a * 2 ^ k) = List.replicate (k / 24) 0 ++ dig (a * 2 ^ (k % 24))) := by
      show _ = _
      rw [e0, ← Nat.mul_assoc, dig_shift hne]
    have hT := two_any (k % 24) (by omega)
    have hlen : dlen (a * 2 ^ (k % 24)) ≤ 2199023255552 := by
      have h3 := lt_of_dlen_le (n := a) (Nat.le_refl _)
      refine Nat.le_trans (dlen_le_of_lt (k := dlen a + 2) ?_) (by omega)
      rw [Nat.pow_add]
      refine Nat.lt_of_le_of_lt (Nat.mul_le_mul (Nat.le_of_lt h3) hq2) ?_
      exact Nat.mul_lt_mul_of_pos_left (by decide) (Nat.pow_pos (by decide))
    have hdl : dlen (a * 2 ^ (k % 24)) ≠ 0 := fun h => hne (dlen_eq_zero.1 h)
    generalize hp : 2 ^ (k % 24) = p at *
    have HP : Hid (p ≤ 16777216) := by show _ ≤ _; omega
    clear hp e0 hq hq2 hz hn hne
    have hq : k / 24 ≤ 1099511627776 := by omega
    have hr24 : k % 24 ≤ 23 := by omega
    have hki : ((k : Int) / 24) = ((k / 24 : Nat) : Int) := by omega
    have hki2 : ((k : Int) % 24) = ((k % 24 : Nat) : Int) := by omega
    generalize k / 24 = q at *
    generalize k % 24 = r at *
    go_enter Try.func53, Try.ntmps53
    go_wp2_with (at_make; go_must (refine wpList_make_full _ rfl _ _ 59 rfl w.heap.size 3 i0 (.int .i64 0) 1 Try.underlying59 hi hz0 hz1 .i64 .i64 _ _ q rfl rfl (by omega) (by omega) (by rw [hz2]; omega) (by unfold maxLen; omega) (Nat.le_refl _) ?_); intro w1 hown hg)
    have hb0 := (Below.refl w.heap.size w).grown hg (Nat.le_refl _) (fun k hk => by cases hk)
    rw [made_ints] at hown
    have hs1 := hb0.size
    clear hg
    go_wp2_with (first
      | (go_at_call 83; refine (hT _).mono ?_; rintro e w' ⟨rfl, rfl⟩)
      | (go_at_call 82; refine (times_any _ a p HP.out hS _ (HA.out.below hb0)).mono ?_; rintro e w2 ⟨v2, rfl, hr2, hb2⟩
         obtain ⟨ao2, c2, rfl, hc2, hl2, hr2⟩ := hr2.reads
         obtain ⟨b2, o2, rfl, hlt2, hr2⟩ := hr2.resolve_left hdl
         have hown2 := owns_below hown hb2
         have hb3 := hb0.trans (hb2.mono hs1)
         have hs3 := hb3.size)
      | (at_builtin; go_must (refine wpList_append_own _ rfl _ _ 59 rfl w.heap.size 3 i0 (.int .i64 0) 1 8 Try.underlying59 hi hz0 hz1 hz2 rfl (by decide) _ _ _ rfl hown2 ⟨b2, o2, none⟩ (dlen (a * p)) c2 ((dig (a * p)).map enc) rfl (by simp [dlen]) ?_ (by simp [enc]; intros; rfl) (by unfold maxLen; omega) (by omega) hs3 ?_)))
    · intro j u hj
      rw [List.getElem?_map, Option.map_eq_some_iff] at hj
      obtain ⟨d, hd, rfl⟩ := hj
      have hlt : j < dlen (a * p) := (List.getElem?_eq_some_iff.1 hd).1
      have := hr2 j hlt
      rw [← dig_get, List.getD_eq_getElem?_getD, hd] at this
      have this : w2.cell? ⟨b2, o2 + j, none⟩ = some (.int .i64 (d : Nat)) := by simpa using this
      unfold Addr.add
      split
      · rename_i h; have hj0 : j = 0 := by simpa using h
        subst hj0; exact this
      · exact this
    · intro v' w3 hown3 hg3 _
      have hb4 := hb3.grown hg3 hs3 (fun k hk => by cases hk; exact Nat.le_refl _)
      have hr3 : Row w3 v' (List.replicate q 0 ++ dig (a * p)) := row_own (by rw [List.map_append, List.map_replicate]; exact hown3)
      rw [← hD.out] at hr3
      go_wp2
      exact hQ.out _ _ ⟨_, rfl, hr3, hb4⟩
theorem row_lit (w : World) (e : TypeId) (d : Nat) (hd : d ≠ 0) (hd2 : d < 16777216) (he : e = 3 := by rfl) : Row (w.alloc (.cells #[.int .i64 (d : Int)] e)) (.slice (some ⟨w.heap.size, 0, none⟩) 1 1) (dig d) := by
  have hl : dig d = [d] := by rw [dig_pos hd, show d / 16777216 = 0 by omega, dig_zero, Nat.mod_eq_of_lt hd2]
  rw [hl]
  subst he
  refine ⟨_, 1, rfl, by decide, Nat.le_refl _, .inr ⟨_, 0, rfl, ⟨_, Array.getElem?_push_size⟩, fun j hj => ?_⟩⟩
  have : j = 0 := by simpa using hj
  subst this
  exact World.cell?_alloc_at _ _ _ _ rfl

end Go.Proofs.Ytllahgcifichbaa

namespace Go.Proofs.Ytllahgcifichbaa
open Go.ChangeShapes Go.WideShapes Go.ChangeAt Go.RowKit
set_option linter.unusedVariables false
set_option maxRecDepth 100000

theorem shr_digit (Y r : Nat) (hr : r < 24) : Y % 16777216 / 2 ^ r + Y / 16777216 % 16777216 % 2 ^ r * (16777216 / 2 ^ r) = Y / 2 ^ r % 16777216 := by
  have h : r = 0 ∨ r = 1 ∨ r = 2 ∨ r = 3 ∨ r = 4 ∨ r = 5 ∨ r = 6 ∨ r = 7 ∨ r = 8 ∨ r = 9 ∨ r = 10 ∨ r = 11 ∨ r = 12 ∨ r = 13 ∨ r = 14 ∨ r = 15 ∨ r = 16 ∨ r = 17 ∨ r = 18 ∨ r = 19 ∨ r = 20 ∨ r = 21 ∨ r = 22 ∨ r = 23 := by omega
  rcases h with h | h | h | h | h | h | h | h | h | h | h | h | h | h | h | h | h | h | h | h | h | h | h | h <;> subst h <;> simp only [Nat.reducePow, Nat.reduceDiv] <;> omega

/-- the lowest k digits, and noughts behind -/
def lowz (n k m : Nat) : List Nat := low n k ++ List.replicate (m - k) 0
theorem lowz_zero (n m : Nat) : lowz n 0 m = List.replicate m 0 := by simp [lowz, low_zero]
theorem lowz_all (n m : Nat) : lowz n m m = low n m := by simp [lowz]
theorem lowz_set (n k m : Nat) (h : k < m) : (lowz n k m).set k (top n k % 16777216) = lowz n (k + 1) m := by
  unfold lowz
  obtain ⟨j, rfl⟩ : ∃ j, m = k + 1 + j := ⟨m - k - 1, by omega⟩
  rw [show k + 1 + j - k = j + 1 by omega, show k + 1 + j - (k + 1) = j by omega, List.replicate_succ, low_snoc, List.set_append]
  simp [low_length]

theorem digit_int (v : Value) (n : Nat) (ii : Int) (i d : Nat) (hii : ii = (i : Int)) (hi : i < 4611686018427387904) (w : World) (hr : Row w v (dig n)) (hd : d = top n i % 16777216) :
    Calls Try.prog 84 #[v, .int .i64 ii] w fun e w' => e = .returned (.int .i64 d) ∧ w' = w := by
  rw [hii]; exact digit_dig v n i d hi w hr hd
theorem Row.drew {w : World} {v : Value} {l : List Nat} (h : Row w v l) : Row w.drew v l := h.below (Below.refl _ _).drew
theorem Row.cells {w : World} {b off k c n : Nat} (h : Row w (.slice (some ⟨b, off, none⟩) k c) (dig n)) : ∀ j, j < dlen n → w.cell? ⟨b, off + j, none⟩ = some (.int .i64 (top n j % 16777216 : Nat)) := by
  obtain ⟨ao, c', he, _, _, hr⟩ := h.reads
  injection he with e1 _ _
  subst e1
  intro j hj
  rcases hr with hr | ⟨b', off', e, _, hr⟩
  · omega
  · simp at e
    obtain ⟨rfl, rfl⟩ := e
    exact hr j hj

end Go.Proofs.Ytllahgcifichbaa

namespace Go.Proofs.Ytllahgcifichbaa
open Go.ChangeShapes Go.WideShapes Go.ChangeAt Go.RowKit
set_option linter.unusedVariables false
set_option maxRecDepth 100000

theorem digit_anyq (v : Value) (l : List Nat) (i : Nat) (hi : i < 4611686018427387904) (w : World) (hr : Row w v l) :
    Calls Try.prog 56 #[v, .int .i64 i] w fun e w' => e = .returned (.int .i64 (l.getD i 0 : Nat)) ∧ w' = w := by
  obtain ⟨ao, c, rfl, hc, hl, h⟩ := hr.out
  clear hr
  refine cps fun Q hQ => ?_
  by_cases hlt : i < l.length
  · rcases h with h | ⟨b, off, rfl, h⟩
    · omega
    have hcell := h i hlt
    generalize l.getD i 0 = d at *
    generalize l.length = n at *
    go_enter Try.func56, Try.ntmps56
    go_wp2
    exact hQ.out _ _ ⟨rfl, rfl⟩
  · have hz : l.getD i 0 = 0 := by rw [List.getD_eq_getElem?_getD, List.getElem?_eq_none (by omega)]; rfl
    rw [hz] at hQ
    generalize l.length = n at *
    go_enter Try.func56, Try.ntmps56
    go_wp2
    exact hQ.out _ _ ⟨rfl, rfl⟩

theorem digit_digq (v : Value) (n i d : Nat) (hi : i < 4611686018427387904) (w : World) (hr : Row w v (dig n)) (hd : d = top n i % 16777216) :
    Calls Try.prog 56 #[v, .int .i64 i] w fun e w' => e = .returned (.int .i64 d) ∧ w' = w := by
  rw [hd, ← dig_get]; exact digit_anyq v _ i hi w hr
set_option maxHeartbeats 1000000 in
theorem of_anyq (x : Nat) (hx : x < 2 ^ 64) (w : World) :
    Calls Try.prog 41 #[.int .u64 x] w fun e w' => ∃ v, e = .returned v ∧ Row w' v (dig x) ∧ Below w.heap.size w w' := by
  refine cps fun Q hQ => ?_
  have hx : x ≤ 18446744073709551615 := by omega
  obtain ⟨i0, hi, hz0, hz1, hz2⟩ := info_parts infoInt
  have hd3 : dlen x ≤ 3 := dlen_le_of_lt (by omega)
  go_enter Try.func41, Try.ntmps41
  go_wp2
  go_loopw [0, 3] (fun a v wr => ∃ k V : Nat, k ≤ dlen x ∧ V = top x k ∧ V ≤ 18446744073709551615 ∧ a = .int .u64 V ∧ wr.ownsRow w.heap.size 3 1 v k ((low x k).map enc) ∧ Below w.heap.size w wr) (fun a _ _ => (intOf a).toNat)
  case atStart => exact ⟨0, x, Nat.zero_le _, rfl, hx, rfl, World.ownsRow_nil _ _ _ _, Below.refl _ _⟩
  case round =>
    obtain ⟨k, V, hk, hV, hb, rfl, hown, hbel⟩ := hrel
    have hp := top_pos_iff x k
    have HV : Hid (V = top x k) := hV
    rw [← hV] at hp
    clear hV
    by_cases h0 : 0 < V
    · have hk1 := hp.1 h0
      have HK : Hid (dlen x ≤ 3) := hd3
      have hsz := hbel.size
      clear hp hd3
      go_wp2_with (at_builtin; go_must (refine append1 rfl _ _ _ rfl w.heap.size 3 i0 (.int .i64 0) 8 Try.underlying59 hi hz0 hz1 hz2 rfl _ _ _ hown rfl rfl rfl (by have := HK.out; omega) (by decide) hsz ?_); intro v' w1 hown' hbel' _ _)
      go_roundw
      case rel => 
        refine ⟨k + 1, V / 16777216, by omega, ?_, by omega, by go_num, ?_, hbel.trans hbel'⟩
        · rw [HV.out]; rfl
        · rw [low_snoc, ← HV.out, List.map_append]; exact hown'
      case measure => simp [intOf]; omega
    · have hk1 : k = dlen x := by have := hp.2; omega
      subst hk1
      rw [low_dlen] at hown
      go_wp2
      exact hQ.out _ _ ⟨_, rfl, row_own hown, hbel⟩

set_option maxHeartbeats 1000000 in
theorem cut_ownq (v : Value) (l : List Nat) (D z : Nat) (hD : l = dig D ++ List.replicate z 0) (w : World) (hr : Row w v l) :
    Calls Try.prog 57 #[v] w fun e w' => ∃ v', e = .returned v' ∧ Row w v' (dig D) ∧ w' = w ∧ v'.ownBlock = v.ownBlock := by
  have HT : Hid (l.take (dlen D) = dig D) := by rw [hD]; exact List.take_left' rfl
  have hlen : l.length = dlen D + z := by rw [hD]; simp [dlen]
  have hget : ∀ j, j < l.length → l.getD j 0 = (dig D).getD j 0 := by
    intro j hj
    rw [hD, List.getD_eq_getElem?_getD, List.getElem?_append]
    split
    · rw [List.getD_eq_getElem?_getD]
    · rename_i h
      rw [List.getElem?_replicate, List.getD_eq_getElem?_getD, List.getElem?_eq_none (by omega)]
      split <;> rfl
  have HR : Hid (Row w v l) := hr
  obtain ⟨ao, c, rfl, hc, hl, h⟩ := hr.out
  clear hr
  refine cps fun Q hQ => ?_
  have HG : Hid (∀ j, j < l.length → l.getD j 0 = (dig D).getD j 0) := hget
  clear hget hD
  have hle : dlen D ≤ l.length := by omega
  have HL : Hid (l.length = dlen D + z) := hlen
  clear hlen
  generalize hdD : dlen D = m at *
  have HM : Hid (dlen D = m) := hdD
  clear hdD
  go_enter Try.func57, Try.ntmps57
  go_wp2
  go_loop [3] (fun a => ∃ n : Nat, m ≤ n ∧ n ≤ l.length ∧ a = .int .i64 n) (fun a => (intOf a).toNat)
  case atStart => exact ⟨l.length, by omega, by omega, rfl⟩
  case round =>
    obtain ⟨n, hn1, hn2, rfl⟩ := hrel
    by_cases h0 : 0 < n
    · rcases h with h | ⟨b, off, rfl, h⟩
      · omega
      have hcell := h (n - 1) (by omega)
      have hg := HG.out (n - 1) (by omega)
      rw [hg] at hcell
      clear hg
      by_cases hlt : m < n
      · have hz : (dig D).getD (n - 1) 0 = 0 := by
          rw [dig_get, top_eq_zero (by have := HM.out; omega)]
        rw [hz] at hcell
        clear hz h
        go_wp2
        go_round
        case rel => exact ⟨n - 1, by omega, by omega, by go_num⟩
        case measure => simp [intOf]; omega
      · have hnm : n = m := by omega
        subst hnm
        have hne : (dig D).getD (n - 1) 0 ≠ 0 := by
          rw [dig_get]
          have := HM.out
          have hD0 : D ≠ 0 := by intro h; rw [h, dlen_zero] at this; omega
          have := (dig_last hD0).1
          rw [HM.out] at this
          exact this
        generalize (dig D).getD (n - 1) 0 = d at *
        clear h
        have hne' : 0 < d := by omega
        go_wp2
        have HT' := HR.out.take n (by omega)
        rw [HT.out] at HT'
        exact hQ.out _ _ ⟨_, rfl, HT', rfl, rfl⟩
    · have hn0 : n = 0 := by omega
      subst hn0
      go_wp2
      have HT' := HR.out.take 0 (by omega)
      have e0 : 0 = m := by omega
      rw [e0, HT.out] at HT'
      rw [e0]
      exact hQ.out _ _ ⟨_, rfl, HT', rfl, by cases ao <;> rfl⟩

theorem cut_anyq (v : Value) (l : List Nat) (D z : Nat) (hD : l = dig D ++ List.replicate z 0) (w : World) (hr : Row w v l) :
    Calls Try.prog 57 #[v] w fun e w' => ∃ v', e = .returned v' ∧ Row w v' (dig D) ∧ w' = w :=
  (cut_ownq v l D z hD w hr).mono fun _ _ ⟨v', h1, h2, h3, _⟩ => ⟨v', h1, h2, h3⟩

set_option maxHeartbeats 2000000 in
theorem nadd_anyq (va vb : Value) (a b : Nat) (hS : dlen (a + b) ≤ 1099511627776) (w : World) (ha : Row w va (dig a)) (hb : Row w vb (dig b)) :
    Calls Try.prog 29 #[va, vb] w fun e w' => ∃ v, e = .returned v ∧ Row w' v (dig (a + b)) ∧ Below w.heap.size w w' := by
  refine cps fun Q hQ => ?_
  have hla : dlen a ≤ dlen (a + b) := dlen_mono (by omega)
  have hlb : dlen b ≤ dlen (a + b) := dlen_mono (by omega)
  have HA : Hid (Row w va (dig a)) := ha
  have HB : Hid (Row w vb (dig b)) := hb
  obtain ⟨aa, ca, rfl, h1, h2⟩ := ha.num
  obtain ⟨ab, cb, rfl, h3, h4⟩ := hb.num
  clear ha hb
  obtain ⟨i0, hi, hz0, hz1, hz2⟩ := info_parts infoInt
  have HP : Hid (∀ n k, 0 < top n k ↔ k < dlen n) := top_pos_iff
  generalize hs : a + b = s at *
  have HS : Hid (a + b = s) := hs
  clear hs
  go_enter Try.func29, Try.ntmps29
  go_wp2
  go_loopw [5, 6, 7] (fun o cv iv wr => ∃ k A B C : Nat, k ≤ dlen s ∧ C ≤ 1 ∧ Hid (A = top a k) ∧ Hid (B = top b k) ∧ Hid (A + B + C = top s k) ∧ iv = .int .i64 k ∧ cv = .int .i64 C ∧ wr.ownsRow w.heap.size 3 1 o k ((low s k).map enc) ∧ Below w.heap.size w wr) (fun _ _ i _ => dlen s - (intOf i).toNat)
  case atStart => exact ⟨0, a, b, 0, Nat.zero_le _, by decide, rfl, rfl, HS.out, rfl, rfl, World.ownsRow_nil _ _ _ _, Below.refl _ _⟩
  case round =>
    obtain ⟨k, A, B, C, hk, hC, hA, hB, hT, rfl, rfl, hown, hbel⟩ := hrel
    have pa := HP.out a k
    have pb := HP.out b k
    have ps := HP.out s k
    rw [← hA.out] at pa
    rw [← hB.out] at pb
    rw [← hT.out] at ps
    have hsz := hbel.size
    by_cases hc : k < dlen a ∨ k < dlen b ∨ 0 < C
    · have hks : k < dlen s := ps.1 (by omega)
      have hra := HA.out.below hbel
      have hrb := HB.out.below hbel
      obtain ⟨da, hda⟩ : ∃ d, d = A % 16777216 := ⟨_, rfl⟩
      obtain ⟨db, hdb⟩ : ∃ d, d = B % 16777216 := ⟨_, rfl⟩
      have bda : da ≤ 16777215 := by omega
      have bdb : db ≤ 16777215 := by omega
      have Hda : Hid (da = A % 16777216) := hda
      have Hdb : Hid (db = B % 16777216) := hdb
      have h3 : k < dlen a ∨ (¬ k < dlen a ∧ k < dlen b) ∨ (¬ k < dlen a ∧ ¬ k < dlen b ∧ 0 < C) := by omega
      have HRA : Hid (Row wr _ _) := hra
      have HRB : Hid (Row wr _ _) := hrb
      clear hc pa pb ps hda hdb hra hrb
      rcases h3 with h3 | ⟨h3, h4⟩ | ⟨h3, h4, h5⟩
      all_goals
        go_wp2_with (first
          | (go_at_call_of 56 aa; refine (digit_digq _ a k da (by omega) _ HRA.out (by rw [Hda.out, hA.out])).mono ?_; rintro e w' ⟨rfl, rfl⟩)
          | (go_at_call_of 56 ab; refine (digit_digq _ b k db (by omega) _ HRB.out (by rw [Hdb.out, hB.out])).mono ?_; rintro e w' ⟨rfl, rfl⟩)
          | (at_builtin; refine append1 rfl _ _ _ rfl w.heap.size 3 i0 (.int .i64 0) 8 Try.underlying59 hi hz0 hz1 hz2 rfl _ _ _ hown rfl rfl rfl (by omega) (by decide) hsz ?_; intro v' w1 hown' hbel' _ _))
        go_roundw
        case rel =>
          refine ⟨k + 1, A / 16777216, B / 16777216, (da + db + C) / 16777216, by omega, by omega, ?_, ?_, ?_, by go_num, by go_num, ?_, hbel.trans hbel'⟩
          · show _ = _; rw [hA.out]; rfl
          · show _ = _; rw [hB.out]; rfl
          · show _ = _; rw [top_succ, ← hT.out]; have := Hda.out; have := Hdb.out; omega
          · rw [low_snoc, ← hT.out, List.map_append]
            have e : (((da : Int) + db + C) % 16777216) = (((A + B + C) % 16777216 : Nat) : Int) := by have := Hda.out; have := Hdb.out; omega
            rw [e] at hown'
            exact hown'
        case measure => simp [intOf]; omega
    · have hks : ¬ k < dlen s := fun h => by have := ps.2 h; omega
      have hk1 : k = dlen s := by omega
      have e : low s k = dig s := by rw [hk1, low_dlen]
      rw [e] at hown
      have h3 : ¬ k < dlen a := by omega
      have h4 : ¬ k < dlen b := by omega
      have h5 : ¬ 0 < C := by omega
      clear hk1 e pa pb ps hc
      go_wp2
      exact hQ.out _ _ ⟨_, rfl, row_own hown, hbel⟩
end Go.Proofs.Ytllahgcifichbaa

namespace Go.Proofs.Ytllahgcifichbaa
open Go.ChangeShapes Go.WideShapes Go.ChangeAt Go.RowKit
set_option linter.unusedVariables false
set_option maxRecDepth 100000

set_option maxHeartbeats 1000000 in
theorem two_anyq (k : Nat) (hk : k ≤ 24) (w : World) :
    Calls Try.prog 52 #[.int .i64 k] w fun e w' => e = .returned (.int .i64 (2 ^ k : Nat)) ∧ w' = w := by
  refine cps fun Q hQ => ?_
  go_enter Try.func52, Try.ntmps52
  go_wp2
  go_loop [3, 4] (fun n i => ∃ j V : Nat, j ≤ k ∧ Hid (V = 2 ^ j) ∧ V ≤ 16777216 ∧ i = .int .i64 j ∧ n = .int .i64 V) (fun _ i => k - (intOf i).toNat)
  case atStart => exact ⟨0, 1, Nat.zero_le _, rfl, by decide, rfl, rfl⟩
  case round =>
    obtain ⟨j, V, hj, hV, hb, rfl, rfl⟩ := hrel
    by_cases hlt : j < k
    · go_wp2
      go_round
      case rel =>
        have h1 : 2 ^ (j + 1) = 2 * V := by rw [hV.out, Nat.pow_succ, Nat.mul_comm]
        have h2 : 2 ^ (j + 1) ≤ 2 ^ 24 := Nat.pow_le_pow_right (by decide) (by omega)
        exact ⟨j + 1, 2 * V, by omega, h1.symm, by omega, by go_num, by go_num⟩
      case measure => simp [intOf]; omega
    · have e : j = k := by omega
      subst e
      go_wp2
      refine hQ.out _ _ ⟨?_, rfl⟩
      rw [hV.out]

set_option maxHeartbeats 2000000 in
theorem times_anyq (va : Value) (a q : Nat) (hq : q ≤ 16777216) (hS : dlen a ≤ 1099511627776) (w : World) (ha : Row w va (dig a)) :
    Calls Try.prog 51 #[va, .int .i64 q] w fun e w' => ∃ v, e = .returned v ∧ Row w' v (dig (a * q)) ∧ Below w.heap.size w w' := by
  refine cps fun Q hQ => ?_
  have hls : dlen (a * q) ≤ dlen a + 2 := by
    refine dlen_le_of_lt ?_
    have h1 := lt_of_dlen_le (n := a) (Nat.le_refl _)
    rw [Nat.pow_add]
    refine Nat.lt_of_le_of_lt (Nat.mul_le_mul (Nat.le_of_lt h1) hq) ?_
    exact Nat.mul_lt_mul_of_pos_left (by decide) (Nat.pow_pos (by decide))
  have HA : Hid (Row w va (dig a)) := ha
  obtain ⟨aa, ca, rfl, h1, h2⟩ := ha.num
  clear ha
  obtain ⟨i0, hi, hz0, hz1, hz2⟩ := info_parts infoInt
  have HP : Hid (∀ n k, 0 < top n k ↔ k < dlen n) := top_pos_iff
  generalize hs : a * q = s at *
  have HS : Hid (a * q + 0 = s) := hs
  clear hs
  go_enter Try.func51, Try.ntmps51
  go_wp2
  go_loopw [5, 6, 7] (fun o cv iv wr => ∃ k A C : Nat, k ≤ dlen s ∧ C ≤ q ∧ Hid (A = top a k) ∧ Hid (A * q + C = top s k) ∧ iv = .int .i64 k ∧ cv = .int .i64 C ∧ wr.ownsRow w.heap.size 3 1 o k ((low s k).map enc) ∧ Below w.heap.size w wr) (fun _ _ i _ => dlen s - (intOf i).toNat)
  case atStart => exact ⟨0, a, 0, Nat.zero_le _, Nat.zero_le _, rfl, HS.out, rfl, rfl, World.ownsRow_nil _ _ _ _, Below.refl _ _⟩
  case round =>
    obtain ⟨k, A, C, hk, hC, hA, hT, rfl, rfl, hown, hbel⟩ := hrel
    have pa := HP.out a k
    have ps := HP.out s k
    rw [← hA.out] at pa
    have hpos : 0 < A * q ↔ 0 < A ∧ 0 < q := ⟨fun h => ⟨Nat.pos_of_mul_pos_right h, Nat.pos_of_mul_pos_left h⟩, fun h => Nat.mul_pos h.1 h.2⟩
    rw [← hT.out] at ps
    have hsz := hbel.size
    by_cases hc : (k < dlen a ∧ 0 < q) ∨ 0 < C
    · have hks : k < dlen s := ps.1 (by have := hpos.2; omega)
      have hra := HA.out.below hbel
      obtain ⟨da, hda⟩ : ∃ d, d = A % 16777216 := ⟨_, rfl⟩
      have bda : da ≤ 16777215 := by omega
      have Hda : Hid (da = A % 16777216) := hda
      have HRA : Hid (Row wr _ _) := hra
      obtain ⟨m, hm⟩ : ∃ m : Nat, m = da * q := ⟨_, rfl⟩
      have bm : m ≤ 16777215 * q := by rw [hm]; exact Nat.mul_le_mul bda (Nat.le_refl _)
      have HM : Hid (m = da * q) := hm
      have hmi : (da : Int) * (q : Int) = (m : Int) := by rw [hm]; simp
      have h3 : (k < dlen a ∧ 0 < q) ∨ (¬ k < dlen a ∧ 0 < C) := by omega
      clear hc pa ps hda hra hpos hm
      rcases h3 with ⟨h3, h4⟩ | ⟨h3, h4⟩
      all_goals
        go_wp2_with (first
          | (go_at_call_of 56 aa; refine (digit_digq _ a k da (by omega) _ HRA.out (by rw [Hda.out, hA.out])).mono ?_; rintro e w' ⟨rfl, rfl⟩)
          | (at_builtin; refine append1 rfl _ _ _ rfl w.heap.size 3 i0 (.int .i64 0) 8 Try.underlying59 hi hz0 hz1 hz2 rfl _ _ _ hown rfl rfl rfl (by omega) (by decide) hsz ?_; intro v' w1 hown' hbel' _ _))
        go_roundw
        case rel =>
          have hp := mul_part A q
          rw [← Hda.out, ← HM.out] at hp
          refine ⟨k + 1, A / 16777216, (m + C) / 16777216, by omega, by omega, ?_, ?_, by go_num, by go_num, ?_, hbel.trans hbel'⟩
          · show _ = _; rw [hA.out]; rfl
          · show _ = _; rw [top_succ, ← hT.out]; omega
          · rw [low_snoc, ← hT.out, List.map_append]
            have e : (((m : Int) + C) % 16777216) = (((A * q + C) % 16777216 : Nat) : Int) := by omega
            rw [e] at hown'
            exact hown'
        case measure => simp [intOf]; omega
    · have hks : ¬ k < dlen s := fun h => by have := ps.2 h; have := hpos.1; omega
      have hk1 : k = dlen s := by omega
      have e : low s k = dig s := by rw [hk1, low_dlen]
      rw [e] at hown
      have h5 : ¬ 0 < C := by omega
      have h3 : ¬ (k < dlen a ∧ 0 < q) := by omega
      by_cases h4 : k < dlen a
      · have h6 : ¬ 0 < q := by omega
        clear hk1 e pa ps hc hpos h3
        go_wp2
        exact hQ.out _ _ ⟨_, rfl, row_own hown, hbel⟩
      · clear hk1 e pa ps hc hpos h3
        go_wp2
        exact hQ.out _ _ ⟨_, rfl, row_own hown, hbel⟩
end Go.Proofs.Ytllahgcifichbaa

namespace Go.Proofs.Ytllahgcifichbaa
open Go.ChangeShapes Go.WideShapes Go.ChangeAt Go.RowKit
set_option linter.unusedVariables false
set_option maxRecDepth 100000

set_option maxHeartbeats 1000000 in
theorem nshl_anyq (va : Value) (a k : Nat) (hk : k ≤ 1099511627776) (hS : dlen a ≤ 1099511627776) (w : World) (ha : Row w va (dig a)) :
    Calls Try.prog 27 #[va, .int .i64 k] w fun e w' => ∃ v, e = .returned v ∧ Row w' v (dig (a * 2 ^ k)) ∧ Below w.heap.size w w' := by
  refine cps fun Q hQ => ?_
  have HA : Hid (Row w va (dig a)) := ha
  obtain ⟨aa, ca, rfl, h1, h2⟩ := ha.num
  clear ha
  obtain ⟨i0, hi, hz0, hz1, hz2⟩ := info_parts infoInt
  have hz := @dlen_eq_zero a
  have e0 : 2 ^ k = 2 ^ (k % 24) * 16777216 ^ (k / 24) := by
    have : (16777216 : Nat) = 2 ^ 24 := by decide
    rw [this, ← Nat.pow_mul, ← Nat.pow_add]; congr 1; omega
  by_cases h0 : dlen a = 0
  · have hn := hz.1 h0
    subst hn
    have HQ : Hid _ := hQ.out _ w ⟨.slice none 0 0, rfl, by rw [Nat.zero_mul, dig_zero]; exact row_nil w, Below.refl _ _⟩
    clear hz HA e0
    go_enter Try.func27, Try.ntmps27
    go_wp2
    exact HQ.out
  · have hn : a ≠ 0 := fun h => h0 (hz.2 h)
    have hq : 0 < 2 ^ (k % 24) := Nat.pow_pos (by decide)
    have hq2 : 2 ^ (k % 24) ≤ 2 ^ 24 := Nat.pow_le_pow_right (by decide) (by omega)
    have hne : a * 2 ^ (k % 24) ≠ 0 := Nat.mul_ne_zero hn (by omega)
    have hD : Hid (dig (a * 2 ^ k) = List.replicate (k / 24) 0 ++ dig (a * 2 ^ (k % 24))) := by
      show _ = _
      rw [e0, ← Nat.mul_assoc, dig_shift hne]
    have hT := two_anyq (k % 24) (by omega)
    have hlen : dlen (a * 2 ^ (k % 24)) ≤ 2199023255552 := by
      have h3 := lt_of_dlen_le (n := a) (Nat.le_refl _)
      refine Nat.le_trans (dlen_le_of_lt (k := dlen a + 2) ?_) (by omega)
      rw [Nat.pow_add]
      refine Nat.lt_of_le_of_lt (Nat.mul_le_mul (Nat.le_of_lt h3) hq2) ?_
      exact Nat.mul_lt_mul_of_pos_left (by decide) (Nat.pow_pos (by decide))
    have hdl : dlen (a * 2 ^ (k % 24)) ≠ 0 := fun h => hne (dlen_eq_zero.1 h)
    generalize hp : 2 ^ (k % 24) = p at *
    have HP : Hid (p ≤ 16777216) := by show _ ≤ _; omega
    clear hp e0 hq hq2 hz hn hne
    have hq : k / 24 ≤ 1099511627776 := by omega
    have hr24 : k % 24 ≤ 23 := by omega
    have hki : ((k : Int) / 24) = ((k / 24 : Nat) : Int) := by omega
    have hki2 : ((k : Int) % 24) = ((k % 24 : Nat) : Int) := by omega
    generalize k / 24 = q at *
    generalize k % 24 = r at *
    go_enter Try.func27, Try.ntmps27
    go_wp2_with (at_make; go_must (refine wpList_make_full _ rfl _ _ 59 rfl w.heap.size 3 i0 (.int .i64 0) 1 Try.underlying59 hi hz0 hz1 .i64 .i64 _ _ q rfl rfl (by omega) (by omega) (by rw [hz2]; omega) (by unfold maxLen; omega) (Nat.le_refl _) ?_); intro w1 hown hg)
    have hb0 := (Below.refl w.heap.size w).grown hg (Nat.le_refl _) (fun k hk => by cases hk)
    rw [made_ints] at hown
    have hs1 := hb0.size
    clear hg
    go_wp2_with (first
      | (go_at_call 52; refine (hT _).mono ?_; rintro e w' ⟨rfl, rfl⟩)
      | (go_at_call 51; refine (times_anyq _ a p HP.out hS _ (HA.out.below hb0)).mono ?_; rintro e w2 ⟨v2, rfl, hr2, hb2⟩
         obtain ⟨ao2, c2, rfl, hc2, hl2, hr2⟩ := hr2.reads
         obtain ⟨b2, o2, rfl, hlt2, hr2⟩ := hr2.resolve_left hdl
         have hown2 := owns_below hown hb2
         have hb3 := hb0.trans (hb2.mono hs1)
         have hs3 := hb3.size)
      | (at_builtin; go_must (refine wpList_append_own _ rfl _ _ 59 rfl w.heap.size 3 i0 (.int .i64 0) 1 8 Try.underlying59 hi hz0 hz1 hz2 rfl (by decide) _ _ _ rfl hown2 ⟨b2, o2, none⟩ (dlen (a * p)) c2 ((dig (a * p)).map enc) rfl (by simp [dlen]) ?_ (by simp [enc]; intros; rfl) (by unfold maxLen; omega) (by omega) hs3 ?_)))
    · intro j u hj
      rw [List.getElem?_map, Option.map_eq_some_iff] at hj
      obtain ⟨d, hd, rfl⟩ := hj
      have hlt : j < dlen (a * p) := (List.getElem?_eq_some_iff.1 hd).1
      have := hr2 j hlt
      rw [← dig_get, List.getD_eq_getElem?_getD, hd] at this
      have this : w2.cell? ⟨b2, o2 + j, none⟩ = some (.int .i64 (d : Nat)) := by simpa using this
      unfold Addr.add
      split
      · rename_i h; have hj0 : j = 0 := by simpa using h
        subst hj0; exact this
      · exact this
    · intro v' w3 hown3 hg3 _
      have hb4 := hb3.grown hg3 hs3 (fun k hk => by cases hk; exact Nat.le_refl _)
      have hr3 : Row w3 v' (List.replicate q 0 ++ dig (a * p)) := row_own (by rw [List.map_append, List.map_replicate]; exact hown3)
      rw [← hD.out] at hr3
      go_wp2
      exact hQ.out _ _ ⟨_, rfl, hr3, hb4⟩
end Go.Proofs.Ytllahgcifichbaa

namespace Go.Proofs.Ytllahgcifichbaa
open Go.ChangeShapes Go.WideShapes Go.ChangeAt Go.RowKit
set_option linter.unusedVariables false
set_option maxRecDepth 100000

theorem digit_intq (v : Value) (n : Nat) (ii : Int) (i d : Nat) (hii : ii = (i : Int)) (hi : i < 4611686018427387904) (w : World) (hr : Row w v (dig n)) (hd : d = top n i % 16777216) :
    Calls Try.prog 56 #[v, .int .i64 ii] w fun e w' => e = .returned (.int .i64 d) ∧ w' = w := by
  rw [hii]; exact digit_digq v n i d hi w hr hd
set_option maxHeartbeats 1000000 in
theorem nshr_newq (va : Value) (a k : Nat) (hk : k ≤ 9223372036854775807) (hS : dlen a ≤ 1099511627776) (w : World) (ha : Row w va (dig a)) :
    Calls Try.prog 61 #[va, .int .i64 k] w fun e w' => ∃ v, e = .returned v ∧ Row w' v (dig (a / 2 ^ k)) ∧ Below w.heap.size w w' ∧ ∀ g, v.ownBlock = some g → w.heap.size ≤ g := by
  refine cps fun Q hQ => ?_
  have HA : Hid (Row w va (dig a)) := ha
  obtain ⟨aa, ca, rfl, h1, h2, hr⟩ := ha.reads
  clear ha
  obtain ⟨i0, hi, hz0, hz1, hz2⟩ := info_parts infoInt
  have e0 : a / 2 ^ k = top a (k / 24) / 2 ^ (k % 24) := by
    have h16 : (16777216 : Nat) = 2 ^ 24 := by decide
    rw [top_eq, Nat.div_div_eq_div_mul, h16, ← Nat.pow_mul, ← Nat.pow_add]; congr 2; omega
  by_cases h0 : dlen a ≤ k / 24
  · have HQ : Hid _ := hQ.out _ w ⟨.slice none 0 0, rfl, by rw [e0, top_eq_zero h0, Nat.zero_div, dig_zero]; exact row_nil w, Below.refl _ _, fun g h => by cases h⟩
    have hki : ((k : Int) / 24) = ((k / 24 : Nat) : Int) := by omega
    generalize k / 24 = q at *
    clear HA e0 hr
    go_enter Try.func61, Try.ntmps61
    go_wp2
    exact HQ.out
  · rcases hr with hr | ⟨b, off, rfl, hb, hr⟩
    · omega
    have HX := HA.out.drop (k / 24) (by omega)
    have hT := two_anyq (k % 24) (by omega)
    have hdig := fun Y => shr_digit Y (k % 24) (by omega)
    have hq : 0 < 2 ^ (k % 24) := Nat.pow_pos (by decide)
    have hq2 : 2 ^ (k % 24) ≤ 2 ^ 24 := Nat.pow_le_pow_right (by decide) (by omega)
    rw [e0] at hQ
    have hdl : dlen (top a (k / 24)) = dlen a - k / 24 := dlen_top _ _
    generalize hX : top a (k / 24) = X at *
    generalize hF : 2 ^ (k % 24) = F at *
    have hm0 : 0 < dlen X := by omega
    have hki : ((k : Int) / 24) = ((k / 24 : Nat) : Int) := by omega
    have hki2 : ((k : Int) % 24) = ((k % 24 : Nat) : Int) := by omega
    have hr24 : k % 24 ≤ 23 := by omega
    have hq24 : k / 24 < dlen a := by omega
    generalize k / 24 = q at *
    generalize k % 24 = r at *
    have Hdl : Hid (dlen X = dlen a - q) := hdl
    have Hd : Hid (∀ Y, Y % 16777216 / F + Y / 16777216 % 16777216 % F * (16777216 / F) = Y / F % 16777216) := hdig
    have HX' : Hid (Row w _ _) := HX
    have hmi : ((dlen a : Int) - q) = ((dlen X : Nat) : Int) := by omega
    clear e0 hX hF hdl hdig HX h0 hr
    go_enter Try.func61, Try.ntmps61
    go_wp2_with (first
      | (go_at_call 52; refine (hT _).mono ?_; rintro e w' ⟨rfl, hw⟩; rw [hw]; clear hw w')
      | (at_make; go_must (refine wpList_make_full _ rfl _ _ 59 rfl w.heap.size 3 i0 (.int .i64 0) 1 Try.underlying59 hi hz0 hz1 .i64 .i64 _ _ (dlen X) rfl rfl (by omega) (by omega) (by rw [hz2]; omega) (by unfold maxLen; omega) (Nat.le_refl _) ?_); intro w1 hown hg))
    rw [made_ints, ← lowz_zero (X / F)] at hown
    have hb0 := (Below.refl w.heap.size w).grown hg (Nat.le_refl _) (fun k hk => by cases hk)
    have hs0 : w.heap.size < w1.heap.size := by have := hown.lt w.heap.size rfl; omega
    have HC : Hid _ := HX'.out.cells
    have hF0 : 1 ≤ F := by omega
    have HF2 : Hid (F ≤ 16777216) := by show _ ≤ _; omega
    clear hg hT hq hq2 hi hz0 hz1 hz2
    go_loopw [8] (fun i wr => ∃ k : Nat, k ≤ dlen X ∧ i = .int .i64 k ∧ wr.ownsRow w.heap.size 3 1 (.slice (some ⟨w.heap.size, 0, none⟩) (dlen X) (dlen X)) (dlen X) ((lowz (X / F) k (dlen X)).map enc) ∧ Below w.heap.size w wr)
      (fun i _ => dlen X - (intOf i).toNat)
    case atStart => exact ⟨0, Nat.zero_le _, rfl, hown, hb0⟩
    case round =>
      obtain ⟨k, hk, rfl, hownr, hbel⟩ := hrel
      by_cases hlt : k < dlen X
      · have hcell := (hbel.cell (p := ⟨b, off + q + k, none⟩) hb).trans (HC.out k hlt)
        obtain ⟨D, hD⟩ : ∃ D, D = top X k % 16777216 := ⟨_, rfl⟩
        obtain ⟨N, hN⟩ : ∃ N, N = top X (k + 1) % 16777216 := ⟨_, rfl⟩
        obtain ⟨d1, hd1⟩ : ∃ d, d = D / F := ⟨_, rfl⟩
        obtain ⟨n1, hn1⟩ : ∃ d, d = N % F := ⟨_, rfl⟩
        obtain ⟨G, hG⟩ : ∃ d, d = 16777216 / F := ⟨_, rfl⟩
        obtain ⟨m1, hm1⟩ : ∃ d, d = n1 * G := ⟨_, rfl⟩
        have hz := Hd.out (top X k)
        rw [← top_div X F k, ← hD, show top X k / 16777216 = top X (k + 1) from rfl, ← hN, ← hd1, ← hn1, ← hG, ← hm1] at hz
        have hzl : top (X / F) k % 16777216 ≤ 16777215 := by omega
        have i1 : (D : Int) / (F : Int) = (d1 : Int) := by rw [hd1]; simp
        have i2 : (N : Int) % (F : Int) = (n1 : Int) := by rw [hn1]; simp
        have i3 : (16777216 : Int) / (F : Int) = (G : Int) := by rw [hG]; simp
        have i4 : (n1 : Int) * (G : Int) = (m1 : Int) := by rw [hm1]; simp
        have bd : d1 ≤ 16777215 := by omega
        have bm : m1 ≤ 16777215 := by omega
        have bD : D ≤ 16777215 := by omega
        have bN : N ≤ 16777215 := by omega
        have Hz : Hid (d1 + m1 = top (X / F) k % 16777216) := hz
        have HN : Hid (N = top X (k + 1) % 16777216) := hN
        have HR : Hid (Row wr _ _) := HX'.out.below hbel
        rw [← hD] at hcell
        have hfr := hownr.frozenAt k
        obtain ⟨y, hy⟩ : ∃ y, ((lowz (X / F) k (dlen X)).map enc)[k]? = some y := ⟨_, List.getElem?_eq_getElem (by simp [lowz, low_length]; omega)⟩
        have hce := hownr.cellAt k (by omega)
        rw [hy] at hce
        have j2 : (N : Int).tmod (F : Int) = (n1 : Int) := by rw [Int.tmod_eq_emod_of_nonneg (by omega)]; exact i2
        have j3 : Int.tdiv 16777216 (F : Int) = (G : Int) := by rw [Int.tdiv_eq_ediv_of_nonneg (by omega)]; exact i3
        have j1 : (D : Int).tdiv (F : Int) = (d1 : Int) := by rw [Int.tdiv_eq_ediv_of_nonneg (by omega)]; exact i1
        have jk : IntKind.i64.wrap ((k : Int) + 1) = (k : Int) + 1 := wrapI (by omega)
        have bG : G ≤ 16777216 := by rw [hG]; exact Nat.div_le_self _ _
        have jd : IntKind.i64.wrap (d1 : Int) = (d1 : Int) := wrapI (by omega)
        have jG : IntKind.i64.wrap (G : Int) = (G : Int) := wrapI (by omega)
        have jm : IntKind.i64.wrap (m1 : Int) = (m1 : Int) := wrapI (by omega)
        have js : IntKind.i64.wrap ((d1 : Int) + (m1 : Int)) = (d1 : Int) + (m1 : Int) := wrapI (by omega)
        have hst := hownr.stored k (enc (top (X / F) k % 16777216))
        rw [← List.map_set, lowz_set _ _ _ hlt] at hst
        have Hst : Hid _ := hst
        clear hst hownr hy hz hzl hN hD hd1 hn1 hG hm1 hown hb0
        go_wp2
        go_region_with (go_at_call 56; refine (digit_intq _ X ((k : Int) + 1) (k + 1) N (by omega) (by omega) _ HR.out.drew HN.out).mono ?_; rintro e w' ⟨rfl, hw⟩; rw [hw]; clear hw w')
        all_goals
          go_wp2
          go_roundw
          case measure => simp [intOf]; omega
          case rel =>
            have ev : ((d1 : Int) + (m1 : Int)) = ((top (X / F) k % 16777216 : Nat) : Int) := by have := Hz.out; omega
            refine ⟨k + 1, by omega, by go_num, ?_⟩
            rw [ev]
            exact ⟨owns_drewN Hst.out.1 1, (hbel.setCell (Nat.le_refl _) _).drew⟩
      · have hk1 : k = dlen X := by omega
        subst hk1
        rw [lowz_all] at hownr
        have hrw := row_own hownr
        have hle : dlen (X / F) ≤ dlen X := dlen_mono (Nat.div_le_self _ _)
        rw [low_ge hle] at hrw
        have HRW : Hid (Row wr _ _) := hrw
        clear hrw hown hownr
        go_wp2_with (go_at_call 57; refine (cut_ownq _ _ (X / F) _ rfl _ HRW.out).mono ?_; rintro e w' ⟨v', rfl, hv, hw, hob⟩; rw [hw]; clear hw w')
        exact hQ.out _ _ ⟨v', rfl, hv, hbel, fun g h => by rw [hob] at h; cases h; exact Nat.le_refl _⟩
theorem nshr_anyq (va : Value) (a k : Nat) (hk : k ≤ 9223372036854775807) (hS : dlen a ≤ 1099511627776) (w : World) (ha : Row w va (dig a)) :
    Calls Try.prog 61 #[va, .int .i64 k] w fun e w' => ∃ v, e = .returned v ∧ Row w' v (dig (a / 2 ^ k)) ∧ Below w.heap.size w w' := by
  refine (nshr_newq va a k hk hS w ha).mono ?_
  rintro e w' ⟨v, h1, h2, h3, _⟩
  exact ⟨v, h1, h2, h3⟩
end Go.Proofs.Ytllahgcifichbaa

namespace Go.Proofs.Ytllahgcifichbaa
open Go.ChangeShapes Go.WideShapes Go.ChangeAt Go.RowKit
set_option linter.unusedVariables false
set_option maxRecDepth 100000

theorem two_int (kk : Int) (k : Nat) (hkk : kk = (k : Int)) (hk : k ≤ 24) (w : World) :
    Calls Try.prog 83 #[.int .i64 kk] w fun e w' => e = .returned (.int .i64 (2 ^ k : Nat)) ∧ w' = w := by
  rw [hkk]; exact two_any k hk w

theorem digit_int' (v : Value) (n : Nat) (ii : Int) (i d : Nat) (hii : ii = (i : Int)) (hi : i < 4611686018427387904) (w : World) (hr : Row w v (dig n)) (hd : d = top n i % 16777216) :
    Calls Try.prog 84 #[v, .int .i64 ii] w fun e w' => e = .returned (.int .i64 d) ∧ w' = w := by
  rw [hii]; exact digit_dig v n i d hi w hr hd

/-! ### how many bits -/
def blen (n : Nat) : Nat := if h : n = 0 then 0 else blen (n / 2) + 1
theorem blen_zero : blen 0 = 0 := by unfold blen; simp
theorem blen_pos {n : Nat} (h : n ≠ 0) : blen n = blen (n / 2) + 1 := by
  conv => lhs; unfold blen
  simp [h]
theorem blen_le {n m : Nat} : blen n ≤ m ↔ n < 2 ^ m := by
  induction m generalizing n with
  | zero =>
    by_cases h : n = 0
    · subst h; simp [blen_zero]
    · rw [blen_pos h]; simp; exact h
  | succ m ih =>
    by_cases h : n = 0
    · subst h; simp [blen_zero]; exact Nat.pow_pos (by decide)
    · rw [blen_pos h, Nat.add_le_add_iff_right, ih, Nat.pow_succ]; omega
theorem blen_shift {a k : Nat} (h : a / 2 ^ k ≠ 0) : blen a = blen (a / 2 ^ k) + k := by
  induction k with
  | zero => simp
  | succ k ih =>
    have e : a / 2 ^ (k + 1) = a / 2 ^ k / 2 := by rw [Nat.pow_succ, Nat.div_div_eq_div_mul]
    have h1 : a / 2 ^ k ≠ 0 := by intro h2; rw [e, h2] at h; simp at h
    rw [ih h1, blen_pos h1, e]; omega
theorem blen_top {a : Nat} (h : a ≠ 0) : blen a = blen (top a (dlen a - 1)) + 24 * (dlen a - 1) := by
  have e : top a (dlen a - 1) = a / 2 ^ (24 * (dlen a - 1)) := by
    rw [top_eq, show (16777216 : Nat) = 2 ^ 24 by decide, ← Nat.pow_mul]
  have h2 := (dig_last h).1
  have h3 : top a (dlen a - 1) ≠ 0 := by intro h4; rw [h4] at h2; simp at h2
  rw [e] at h3 ⊢
  exact blen_shift h3

/-! ### comparing -/
def cmpN (a b : Nat) : Int := if a < b then -1 else if a = b then 0 else 1
theorem cmpN_lt {a b : Nat} (h : a < b) : cmpN a b = -1 := by simp [cmpN, h]
theorem cmpN_gt {a b : Nat} (h : b < a) : cmpN a b = 1 := by unfold cmpN; rw [if_neg (by omega), if_neg (by omega)]
theorem cmpN_eq (a : Nat) : cmpN a a = 0 := by simp [cmpN]
/-! ### is one of the lowest bits 1? -/
theorem low_part (a i m : Nat) (hm : m ≤ 24) (h : 2 ^ (24 * i) ∣ a) : top a i % 16777216 % 2 ^ m = 0 ↔ 2 ^ (24 * i + m) ∣ a := by
  obtain ⟨x, rfl⟩ := h
  have e : top (2 ^ (24 * i) * x) i = x := by
    rw [top_eq, show (16777216 : Nat) = 2 ^ 24 by decide, ← Nat.pow_mul, Nat.mul_div_cancel_left _ (Nat.pow_pos (by decide))]
  have hd : 2 ^ m ∣ 16777216 := by rw [show (16777216 : Nat) = 2 ^ 24 by decide]; exact Nat.pow_dvd_pow 2 hm
  rw [e, Nat.mod_mod_of_dvd _ hd, Nat.pow_add, Nat.mul_dvd_mul_iff_left (Nat.pow_pos (by decide))]
  exact (Nat.dvd_iff_mod_eq_zero).symm
theorem low_end (a i : Nat) (h : 2 ^ (24 * i) ∣ a) (hi : dlen a ≤ i) : a = 0 := by
  have h1 := lt_of_dlen_le hi
  rw [show (16777216 : Nat) = 2 ^ 24 by decide, ← Nat.pow_mul] at h1
  exact Nat.eq_zero_of_dvd_of_lt h h1
end Go.Proofs.Ytllahgcifichbaa

namespace Go.Proofs.Ytllahgcifichbaa
open Go.ChangeShapes Go.WideShapes Go.ChangeAt Go.RowKit
set_option linter.unusedVariables false
set_option maxRecDepth 100000

theorem two_intq (kk : Int) (k : Nat) (hkk : kk = (k : Int)) (hk : k ≤ 24) (w : World) :
    Calls Try.prog 52 #[.int .i64 kk] w fun e w' => e = .returned (.int .i64 (2 ^ k : Nat)) ∧ w' = w := by
  rw [hkk]; exact two_anyq k hk w

theorem digit_int'q (v : Value) (n : Nat) (ii : Int) (i d : Nat) (hii : ii = (i : Int)) (hi : i < 4611686018427387904) (w : World) (hr : Row w v (dig n)) (hd : d = top n i % 16777216) :
    Calls Try.prog 56 #[v, .int .i64 ii] w fun e w' => e = .returned (.int .i64 d) ∧ w' = w := by
  rw [hii]; exact digit_digq v n i d hi w hr hd

set_option maxHeartbeats 1000000 in
theorem nbits_anyq (va : Value) (a : Nat) (hS : dlen a ≤ 1099511627776) (w : World) (ha : Row w va (dig a)) :
    Calls Try.prog 58 #[va] w fun e w' => e = .returned (.int .i64 (blen a)) ∧ w' = w := by
  refine cps fun Q hQ => ?_
  obtain ⟨aa, ca, rfl, h1, h2, hr⟩ := ha.reads
  clear ha
  have hz := @dlen_eq_zero a
  by_cases h0 : dlen a = 0
  · have hn := hz.1 h0
    subst hn
    have HQ : Hid _ := hQ.out _ w ⟨rfl, rfl⟩
    rw [blen_zero] at HQ
    clear hz hr
    go_enter Try.func58, Try.ntmps58
    go_wp2
    exact HQ.out
  · have hn : a ≠ 0 := fun h => h0 (hz.2 h)
    have hb := blen_top hn
    have hd := (dig_last hn).2
    obtain ⟨b, off, rfl, hlt, hr⟩ := hr.resolve_left h0
    have hcell := hr (dlen a - 1) (by omega)
    rw [← hd] at hcell
    have hT : top a (dlen a - 1) ≤ 16777215 := by omega
    obtain ⟨L, hL⟩ : ∃ L, L = blen a := ⟨_, rfl⟩
    rw [← hL] at hQ hb
    generalize top a (dlen a - 1) = T at *
    have hT24 : blen T ≤ 24 := blen_le.2 (by omega)
    have HB : Hid (24 * (dlen a - 1) + blen T = L) := show _ = _ by omega
    have HL : Hid (L ≤ 26388279066648) := show _ ≤ _ by omega
    clear hb hr hz hL hd
    go_enter Try.func58, Try.ntmps58
    go_wp2
    go_loop [3, 4] (fun n t => ∃ N V : Nat, Hid (N + blen V = L) ∧ n = .int .i64 N ∧ t = .int .i64 V ∧ N ≤ 26388279066648 ∧ V ≤ 16777215) (fun _ t => (intOf t).toNat)
    case atStart => exact ⟨24 * (dlen a - 1), T, HB.out, by go_num, rfl, by omega, hT⟩
    case round =>
      obtain ⟨N, V, hI, rfl, rfl, hN, hV⟩ := hrel
      by_cases hlt : 0 < V
      · have hs := blen_pos (n := V) (by omega)
        have HI2 : Hid (N + 1 + blen (V / 2) = L) := show _ = _ by have := hI.out; omega
        have HI3 : Hid (N + 1 ≤ 26388279066648) := show _ ≤ _ by have := hI.out; have := HL.out; omega
        clear hs
        go_wp2
        go_round
        case rel => exact ⟨N + 1, V / 2, HI2.out, by go_num, by go_num, HI3.out, by omega⟩
        case measure => simp [intOf]; omega
      · have e : V = 0 := by omega
        subst e
        go_wp2
        have := hI.out
        rw [blen_zero, Nat.add_zero] at this
        rw [this]
        exact hQ.out _ _ ⟨rfl, rfl⟩

set_option maxHeartbeats 1000000 in
theorem nword_anyq (va : Value) (a : Nat) (w : World) (ha : Row w va (dig a)) :
    Calls Try.prog 62 #[va] w fun e w' => e = .returned (.int .u64 (a % 2 ^ 64 : Nat)) ∧ w' = w := by
  refine cps fun Q hQ => ?_
  have HR : Hid (Row w va (dig a)) := ha
  obtain ⟨d0, hd0⟩ : ∃ d, d = top a 0 % 16777216 := ⟨_, rfl⟩
  obtain ⟨d1, hd1⟩ : ∃ d, d = top a 1 % 16777216 := ⟨_, rfl⟩
  obtain ⟨d2, hd2⟩ : ∃ d, d = top a 2 % 16777216 := ⟨_, rfl⟩
  have b0 : d0 ≤ 16777215 := by omega
  have b1 : d1 ≤ 16777215 := by omega
  have b2 : d2 ≤ 16777215 := by omega
  have H0 : Hid (d0 = top a 0 % 16777216) := hd0
  have H1 : Hid (d1 = top a 1 % 16777216) := hd1
  have H2 : Hid (d2 = top a 2 % 16777216) := hd2
  have HV : Hid (((d2 * 16777216 + d1) * 16777216 + d0) % 18446744073709551616 = a % 2 ^ 64) := by
    show _ = _
    have e0 : top a 0 = a := rfl
    have e1 : top a 1 = a / 16777216 := rfl
    have e2 : top a 2 = a / 16777216 / 16777216 := rfl
    omega
  generalize hVV : a % 2 ^ 64 = VV at *
  clear ha hd0 hd1 hd2 hVV
  go_enter Try.func62, Try.ntmps62
  go_wp2
  go_loop [3, 4] (fun v i => (i = .int .i64 2 ∧ v = .int .u64 0) ∨ (i = .int .i64 1 ∧ v = .int .u64 (d2 : Nat)) ∨ (i = .int .i64 0 ∧ v = .int .u64 (d2 * 16777216 + d1 : Nat)) ∨ (i = .int .i64 (-1) ∧ v = .int .u64 (VV : Nat))) (fun _ i => (intOf i + 1).toNat)
  case atStart => exact .inl ⟨rfl, rfl⟩
  case round =>
    rcases hrel with ⟨rfl, rfl⟩ | ⟨rfl, rfl⟩ | ⟨rfl, rfl⟩ | ⟨rfl, rfl⟩
    · go_wp2_with (go_at_call 56; refine (digit_int'q _ a 2 2 d2 rfl (by omega) _ HR.out H2.out).mono ?_; rintro e w' ⟨rfl, hw⟩; rw [hw]; clear hw w')
      go_round
      case rel => exact .inr (.inl ⟨rfl, rfl⟩)
      case measure => simp [intOf]
    · go_wp2_with (go_at_call 56; refine (digit_int'q _ a 1 1 d1 rfl (by omega) _ HR.out H1.out).mono ?_; rintro e w' ⟨rfl, hw⟩; rw [hw]; clear hw w')
      go_round
      case rel => exact .inr (.inr (.inl ⟨rfl, by go_num⟩))
      case measure => simp [intOf]
    · go_wp2_with (go_at_call 56; refine (digit_int'q _ a 0 0 d0 rfl (by omega) _ HR.out H0.out).mono ?_; rintro e w' ⟨rfl, hw⟩; rw [hw]; clear hw w')
      go_round
      case rel =>
        refine .inr (.inr (.inr ⟨rfl, ?_⟩))
        refine congrArg (Value.int IntKind.u64) ?_
        rw [IntKind.wrap_u64, IntKind.wrap_u64, ← HV.out]
        omega
      case measure => simp [intOf]
    · go_wp2
      exact hQ.out _ _ ⟨rfl, rfl⟩

set_option maxHeartbeats 2000000 in
theorem ncmp_anyq (va vb : Value) (a b : Nat) (w : World) (ha : Row w va (dig a)) (hb : Row w vb (dig b)) :
    Calls Try.prog 31 #[va, vb] w fun e w' => e = .returned (.int .i64 (cmpN a b)) ∧ ∃ q, w' = w.drewN q := by
  refine cps fun Q hQ => ?_
  obtain ⟨aa, ca, rfl, h1, h2, hra⟩ := ha.reads
  obtain ⟨ab, cb, rfl, h3, h4, hrb⟩ := hb.reads
  clear ha hb
  rcases Nat.lt_trichotomy (dlen a) (dlen b) with hl | hl | hl
  · have HQ : Hid _ := hQ.out _ w ⟨by rw [cmpN_lt (cmp_len hl)], 0, rfl⟩
    clear hra hrb
    go_enter Try.func31, Try.ntmps31
    go_wp2
    exact HQ.out
  · have H0 : Hid (∀ j, top a j < top b j → a < b) := fun j h => cmp_top h
    have H1 : Hid (∀ j, top b j < top a j → b < a) := fun j h => cmp_top h
    have HL : Hid (top a (dlen a) = top b (dlen a)) := by show _ = _; rw [top_eq_zero (Nat.le_refl _), top_eq_zero (by omega)]
    rw [← hl] at hrb h4
    have HS : Hid (dlen a = dlen b) := hl
    have hb' : dlen b = dlen a := hl.symm
    clear hl
    go_enter Try.func31, Try.ntmps31
    go_wp2
    go_loopw [5] (fun i wr => ∃ j : Nat, j ≤ dlen a ∧ Hid (top a j = top b j) ∧ i = .int .i64 ((j : Int) - 1) ∧ ∃ q, wr = w.drewN q) (fun i _ => (intOf i + 1).toNat)
    case atStart => exact ⟨dlen a, Nat.le_refl _, HL.out, by go_num, 0, rfl⟩
    case round =>
      obtain ⟨j, hj, hT, rfl, q, rfl⟩ := hrel
      by_cases h0 : 0 < j
      · obtain ⟨k, rfl⟩ : ∃ k, j = k + 1 := ⟨j - 1, by omega⟩
        rw [show ((k + 1 : Nat) : Int) - 1 = (k : Int) by omega]
        rcases hra with hra | ⟨ba, oa, rfl, hba, hra⟩
        · omega
        rcases hrb with hrb | ⟨bb, ob, rfl, hbb, hrb⟩
        · omega
        have c1 := hra k (by omega)
        have c2 := hrb k (by omega)
        have hdec : (top a k % 16777216 < top b k % 16777216 → top a k < top b k) ∧ (top b k % 16777216 < top a k % 16777216 → top b k < top a k) ∧ (top a k % 16777216 = top b k % 16777216 → top a k = top b k) := by
          have := hT.out
          rw [top_succ, top_succ] at this
          refine ⟨fun h => by omega, fun h => by omega, fun h => by omega⟩
        have HD : Hid _ := hdec
        have f1 : top a k % 16777216 ≤ 16777215 := by omega
        have f2 : top b k % 16777216 ≤ 16777215 := by omega
        clear hdec hra hrb
        generalize top a k % 16777216 = x at *
        generalize top b k % 16777216 = y at *
        rcases Nat.lt_trichotomy x y with hxy | hxy | hxy
        · go_wp2
          go_quiet (fail)
          go_wp2
          refine hQ.out _ _ ⟨?_, _, by rw [World.drewN_drewN]⟩
          rw [cmpN_lt (H0.out k (HD.out.1 hxy))]; rfl
        · subst hxy
          have HD' := HD.out.2.2 rfl
          have HT' : Hid (top a k = top b k) := HD'
          clear HD' HD
          go_wp2
          go_quiet (fail)
          go_wp2
          go_quiet (fail)
          go_wp2
          go_roundw
          case rel => exact ⟨k, by omega, HT'.out, by go_num, _, rfl⟩
          case measure => simp [intOf]
        · have hnlt : ¬ x < y := by omega
          go_wp2
          go_quiet (fail)
          go_wp2
          go_quiet (fail)
          go_wp2
          refine hQ.out _ _ ⟨?_, _, by rw [World.drewN_drewN, World.drewN_drewN]⟩
          rw [cmpN_gt (H1.out k (HD.out.2.1 hxy))]; rfl
      · have e : j = 0 := by omega
        subst e
        have hab : a = b := hT.out
        have HE : Hid (cmpN a b = 0) := by show _ = _; rw [hab]; exact cmpN_eq b
        clear hab hra hrb
        go_wp2
        refine hQ.out _ _ ⟨?_, _, rfl⟩
        rw [HE.out]; rfl
  · have HQ : Hid _ := hQ.out _ w ⟨by rw [cmpN_gt (cmp_len hl)], 0, rfl⟩
    clear hra hrb
    go_enter Try.func31, Try.ntmps31
    go_wp2
    exact HQ.out

set_option maxHeartbeats 2000000 in
theorem nlow_anyq (va : Value) (a k : Nat) (hk : k ≤ 9223372036854775807) (hS : dlen a ≤ 1099511627776) (w : World) (ha : Row w va (dig a)) :
    Calls Try.prog 60 #[va, .int .i64 k] w fun e w' => e = .returned (.bool (decide (a % 2 ^ k ≠ 0))) ∧ w' = w := by
  refine cps fun Q hQ => ?_
  obtain ⟨aa, ca, rfl, h1, h2, hr⟩ := ha.reads
  clear ha
  go_enter Try.func60, Try.ntmps60
  go_wp2
  go_loop [5] (fun i => ∃ j : Nat, j ≤ dlen a ∧ Hid (2 ^ (min (24 * j) k) ∣ a) ∧ i = .int .i64 j) (fun i => dlen a - (intOf i).toNat)
  case atStart => exact ⟨0, Nat.zero_le _, by show _ ∣ _; simp, rfl⟩
  case round =>
    obtain ⟨j, hj, hI, rfl⟩ := hrel
    by_cases hlt : j < dlen a
    · by_cases hk2 : 24 * j < k
      · rcases hr with hr | ⟨b, off, rfl, hb, hr⟩
        · omega
        have hcell := hr j hlt
        have hdv := hI.out
        rw [show min (24 * j) k = 24 * j by omega] at hdv
        have hp := low_part a j (min 24 (k - 24 * j)) (by omega) hdv
        have hd0 : top a j % 16777216 ≤ 16777215 := by omega
        have hyes : ¬ 2 ^ (24 * j + min 24 (k - 24 * j)) ∣ a → decide (a % 2 ^ k ≠ 0) = true := by
          intro h
          refine decide_eq_true (fun h0 => h ?_)
          exact Nat.dvd_trans (Nat.pow_dvd_pow 2 (by omega)) (Nat.dvd_of_mod_eq_zero h0)
        have hnx : 24 * j + min 24 (k - 24 * j) = min (24 * (j + 1)) k := by omega
        rw [hnx] at hp hyes
        generalize top a j % 16777216 = D at *
        have hf1 : 0 < 2 ^ (min 24 (k - 24 * j)) := Nat.pow_pos (by decide)
        obtain ⟨x, hx⟩ : ∃ x, x = D % 2 ^ (min 24 (k - 24 * j)) := ⟨_, rfl⟩
        rw [← hx] at hp
        have HY : Hid _ := hyes
        have HP : Hid _ := hp
        have HI : Hid _ := hI
        clear hr hdv hp hyes hnx
        by_cases h24 : k - 24 * j < 24
        · obtain ⟨F, hF⟩ : ∃ F, F = 2 ^ (k - 24 * j) := ⟨_, rfl⟩
          rw [show min 24 (k - 24 * j) = k - 24 * j by omega, ← hF] at hx hf1
          have hxi : (D : Int) % (F : Int) = (x : Int) := by rw [hx]; simp
          have hF2 : F ≤ 16777216 := by rw [hF]; exact Nat.pow_le_pow_right (n := 2) (by decide) (show k - 24 * j ≤ 24 by omega)
          have HF : Hid (F = 2 ^ (k - 24 * j)) := hF
          have hh : (k : Int) - 24 * (j : Int) < 24 := by omega
          clear hF hx
          by_cases hx0 : x = 0
          · have HD := HP.out.1 hx0
            have HDD : Hid _ := HD
            clear HD
            subst hx0
            go_wp2_with (go_at_call 52; refine (two_intq _ (k - 24 * j) (by omega) (by omega) _).mono ?_; rintro e w' ⟨rfl, hw⟩; rw [hw, ← HF.out]; clear hw w')
            go_round
            case rel => exact ⟨j + 1, by omega, HDD.out, by go_num⟩
            case measure => simp [intOf]; omega
          · have HT : Hid _ := hQ.out _ w ⟨rfl, rfl⟩
            rw [HY.out (fun h => hx0 (HP.out.2 h))] at HT
            have hx1 : 0 < x := by omega
            go_wp2_with (go_at_call 52; refine (two_intq _ (k - 24 * j) (by omega) (by omega) _).mono ?_; rintro e w' ⟨rfl, hw⟩; rw [hw, ← HF.out]; clear hw w')
            exact HT.out
        · rw [show min 24 (k - 24 * j) = 24 by omega] at hx
          have hxi : (D : Int) % 16777216 = (x : Int) := by rw [hx]; simp
          have hh : ¬ (k : Int) - 24 * (j : Int) < 24 := by omega
          clear hx hf1
          by_cases hx0 : x = 0
          · have HD := HP.out.1 hx0
            have HDD : Hid _ := HD
            clear HD
            subst hx0
            go_wp2
            go_round
            case rel => exact ⟨j + 1, by omega, HDD.out, by go_num⟩
            case measure => simp [intOf]; omega
          · have HT : Hid _ := hQ.out _ w ⟨rfl, rfl⟩
            rw [HY.out (fun h => hx0 (HP.out.2 h))] at HT
            have hx1 : 0 < x := by omega
            go_wp2
            exact HT.out
      · have hdv := hI.out
        rw [show min (24 * j) k = k by omega] at hdv
        have e : decide (a % 2 ^ k ≠ 0) = false := by
          refine decide_eq_false (fun h => h ?_)
          exact Nat.mod_eq_zero_of_dvd hdv
        have HT : Hid _ := hQ.out _ w ⟨rfl, rfl⟩
        rw [e] at HT
        clear hdv e hr
        go_wp2
        exact HT.out
    · have e : decide (a % 2 ^ k ≠ 0) = false := by
        refine decide_eq_false (fun h => h ?_)
        have hdv := hI.out
        by_cases h5 : 24 * j ≤ k
        · rw [show min (24 * j) k = 24 * j by omega] at hdv
          rw [low_end a j hdv (by omega)]; simp
        · rw [show min (24 * j) k = k by omega] at hdv
          exact Nat.mod_eq_zero_of_dvd hdv
      have HT : Hid _ := hQ.out _ w ⟨rfl, rfl⟩
      rw [e] at HT
      clear e hr
      go_wp2
      exact HT.out
end Go.Proofs.Ytllahgcifichbaa

namespace Go.Proofs.Ytllahgcifichbaa
open Go.ChangeShapes Go.WideShapes Go.ChangeAt Go.RowKit
set_option linter.unusedVariables false
set_option linter.unusedSimpArgs false
set_option maxRecDepth 100000

/-! ### a natural number's first 128 bits, and whether something is lost -/
def normN (M : Nat) : Nat := if blen M < 128 then M * 2 ^ (128 - blen M) else M / 2 ^ (blen M - 128)
def lostN (M : Nat) : Bool := decide (128 < blen M) && decide (M % 2 ^ (blen M - 128) ≠ 0)
def exactV (neg : Bool) (M : Nat) (exp : Int) (rest : Bool) : Value :=
  if M = 0 then exV 0 false 0 0 0 false else exV 1 neg (heldX (exp + blen M - 1)) (normN M / 2 ^ 64 % 2 ^ 64) (normN M % 2 ^ 64) (rest || lostN M)
theorem blen_lo {M : Nat} (h : M ≠ 0) : 2 ^ (blen M - 1) ≤ M := by
  have := @blen_le M (blen M - 1)
  have hp : blen M ≠ 0 := by rw [blen_pos h]; omega
  refine Nat.le_of_not_lt fun hlt => ?_
  have := this.2 hlt
  omega
theorem blen_hi (M : Nat) : M < 2 ^ blen M := blen_le.1 (Nat.le_refl _)
/-- the first of the 128 bits is a 1 -/
theorem normN_mant {M : Nat} (h : M ≠ 0) : 2 ^ 127 ≤ normN M ∧ normN M < 2 ^ 128 := by
  have h1 := blen_lo h
  have h2 := blen_hi M
  have hp : 1 ≤ blen M := by rw [blen_pos h]; omega
  unfold normN
  split
  · rename_i hc
    constructor
    · have := Nat.mul_le_mul_right (2 ^ (128 - blen M)) h1
      rwa [← Nat.pow_add, show blen M - 1 + (128 - blen M) = 127 by omega] at this
    · have := Nat.mul_lt_mul_of_pos_right h2 (show 0 < 2 ^ (128 - blen M) from Nat.pow_pos (by decide))
      rwa [← Nat.pow_add, show blen M + (128 - blen M) = 128 by omega] at this
  · rename_i hc
    constructor
    · rw [Nat.le_div_iff_mul_le (Nat.pow_pos (by decide)), ← Nat.pow_add, show 127 + (blen M - 128) = blen M - 1 by omega]
      exact h1
    · rw [Nat.div_lt_iff_lt_mul (Nat.pow_pos (by decide)), ← Nat.pow_add, show 128 + (blen M - 128) = blen M by omega]
      exact h2
theorem normN_words {M : Nat} (h : M ≠ 0) : WordsX (normN M / 2 ^ 64 % 2 ^ 64) (normN M % 2 ^ 64) := by
  obtain ⟨h1, h2⟩ := normN_mant h
  have e1 : normN M / 2 ^ 64 < 2 ^ 64 := by rw [Nat.div_lt_iff_lt_mul (Nat.pow_pos (by decide)), ← Nat.pow_add]; exact h2
  have e2 : 2 ^ 63 ≤ normN M / 2 ^ 64 := by rw [Nat.le_div_iff_mul_le (Nat.pow_pos (by decide)), ← Nat.pow_add]; exact h1
  rw [Nat.mod_eq_of_lt e1]
  exact ⟨e2, e1, Nat.mod_lt _ (by decide)⟩
end Go.Proofs.Ytllahgcifichbaa

namespace Go.Proofs.Ytllahgcifichbaa
open Go.ChangeShapes Go.WideShapes Go.ChangeAt Go.RowKit
set_option linter.unusedVariables false
set_option linter.unusedSimpArgs false
set_option maxRecDepth 100000

theorem Row.setU {w : World} {v : Value} {l : List Nat} (h : Row w v l) (m k : Nat) (u u' : Value) (hc : w.cell? ⟨m, k, none⟩ = some u) (hu : ∀ x, u ≠ .int .i64 x) : Row (w.setCell ⟨m, k, none⟩ u') v l := by
  obtain ⟨ao, c, rfl, hc1, hl, h⟩ := h
  refine ⟨ao, c, rfl, hc1, hl, ?_⟩
  rcases h with h | ⟨b, off, rfl, hlt, h⟩
  · exact .inl h
  · refine .inr ⟨b, off, rfl, hlt.set, fun j hj => ?_⟩
    have hj2 := h j hj
    have hne : (⟨m, k, none⟩ : Addr) ≠ ⟨b, off + j, none⟩ := fun e => by
      rw [← e, hc] at hj2
      exact hu _ (Option.some.inj hj2)
    rw [World.cell?_setCell_other _ _ _ _ hne]
    exact hj2
theorem dlen_of_blen {M : Nat} (h : blen M ≤ 1099511627776) : dlen M ≤ 1099511627776 := by
  refine Nat.le_trans (dlen_le_of_lt ?_) h
  refine Nat.lt_of_lt_of_le (blen_hi M) ?_
  rw [show (16777216 : Nat) = 2 ^ 24 by decide, ← Nat.pow_mul]
  exact Nat.pow_le_pow_right (by decide) (by omega)
theorem dlen_mant {K : Nat} (h : K < 2 ^ 128) : dlen K ≤ 1099511627776 := by
  refine Nat.le_trans (dlen_le_of_lt (k := 6) (Nat.lt_of_lt_of_le h (by decide))) (by decide)
theorem heldX_bounds (s : Int) : -1099511627776 ≤ heldX s ∧ heldX s ≤ 1099511627776 := by unfold heldX; split <;> (try split) <;> omega
theorem cset6 {a W : World} {m : Nat} {v0 v1 v2 v3 v4 v5 : Value} (h : Below a.heap.size a W) (hb : a.heap.size ≤ m) :
    Below a.heap.size a ((((((W.setCell ⟨m, 0, none⟩ v0).setCell ⟨m, 1, none⟩ v1).setCell ⟨m, 2, none⟩ v2).setCell ⟨m, 3, none⟩ v3).setCell ⟨m, 4, none⟩ v4).setCell ⟨m, 5, none⟩ v5) :=
  cset (cset (cset (cset (cset (cset h hb 0 v0) hb 1 v1) hb 2 v2) hb 3 v3) hb 4 v4) hb 5 v5
theorem exactly7_lo (neg : Bool) (v : Value) (M : Nat) (exp : Int) (rest : Bool) (h0 : M ≠ 0) (hb : blen M ≤ 1099511627776) (he : -1152921504606846976 ≤ exp ∧ exp ≤ 1152921504606846976) (hc : blen M < 128) (w : World) (hr : Row w v (dig M)) :
    Calls Try.prog 32 #[.bool neg, v, .int .i64 exp, .bool rest] w fun e w' => e = .returned (exactV neg M exp rest) ∧ Below w.heap.size w w' := by
  have hS := dlen_of_blen hb
  obtain ⟨hK1, hK2⟩ := normN_mant h0
  have hSK := dlen_mant hK2
  have hp : 1 ≤ blen M := by rw [blen_pos h0]; omega
  have hv : exactV neg M exp rest = exV 1 neg (heldX (exp + blen M - 1)) (normN M / 2 ^ 64 % 2 ^ 64) (normN M % 2 ^ 64) (rest || lostN M) := by unfold exactV; rw [if_neg h0]
  rw [hv]
  have k1 := fun w hw => nbits_anyq v M hS w hw
  have k2 := held7_any (exp + blen M - 1)
  have hhb := heldX_bounds (exp + blen M - 1)
  have kw := fun v w hw => nword_anyq v (normN M) w hw
  have ks := fun v w hw => nshr_anyq v (normN M) 64 (by decide) hSK w hw
  have kx := fun v w hw => nword_anyq v (normN M / 2 ^ 64) w hw
  have k3 := fun w hw => nshl_anyq v M (128 - blen M) (by omega) hS w hw
  rw [show M * 2 ^ (128 - blen M) = normN M by unfold normN; rw [if_pos hc]] at k3
  have hl : (rest || lostN M) = rest := by unfold lostN; rw [decide_eq_false (by omega)]; simp
  rw [hl]
  have hd : (128 : Int) - ((blen M : Nat) : Int) = ((128 - blen M : Nat) : Int) := by omega
  obtain ⟨d, hdd⟩ : ∃ d, d = 128 - blen M := ⟨_, rfl⟩
  rw [← hdd] at k3 hd
  have g1 : decide (((blen M : Nat) : Int) < 128) = true := decide_eq_true (by omega)
  have g2 : decide ((128 : Int) < ((blen M : Nat) : Int)) = false := decide_eq_false (by omega)
  have hb1 : 1 ≤ ((blen M : Nat) : Int) ∧ ((blen M : Nat) : Int) ≤ 1099511627776 := by omega
  have g0 : (((blen M : Nat) : Int) == 0) = false := beq_eq_false_iff_ne.2 (by omega)
  clear hv hp hK1 hK2 hSK
  clear hl
  generalize heldX (exp + blen M - 1) = hx at *
  have HR : Hid (Row w v (dig M)) := hr
  generalize normN M % 2 ^ 64 = lo at *
  generalize normN M / 2 ^ 64 % 2 ^ 64 = hi at *
  generalize normN M / 2 ^ 64 = K2 at *
  generalize normN M = K at *
  clear hr hb hc h0
  clear hdd
  generalize ((blen M : Nat) : Int) = n at *
  refine cps fun Q hQ => ?_
  unfold exV at *
  go_enter Try.func32, Try.ntmps32
  go_wp2_with (first
    | (go_at_call 58; go_must (refine (k1 _ (HR.out.below (cmore (Below.refl _ _) _))).mono ?_); rintro e wx ⟨rfl, hwx⟩; rw [hwx]; clear hwx wx)
    | (go_at_call 59; go_must (refine (k2 _).mono ?_); rintro e wx ⟨rfl, hwx⟩; rw [hwx]; clear hwx wx)
    | (go_at_call_of 62 v3; go_must (refine (kx v3 _ HR3.out).mono ?_); rintro e wx ⟨rfl, hwx⟩; rw [hwx]; clear hwx wx)
    | (go_at_call_of 61 v2; go_must (refine (ks v2 _ (HR2.out.setU _ _ _ _ g4 (by intro x h; cases h))).mono ?_); rintro e w3 ⟨v3, rfl, hr3, hb3⟩; have R10 : w3.heap[w.heap.size + 1]? = some (.cells #[.int .i64 1, .bool neg, .int .i64 hx, .int .u64 0, .int .u64 lo, .bool rest] 24 (0, 0)) := (hb3.block (w.heap.size + 1) (by simpa using z2)).trans ((rowset HR10.out 4 _).trans (by simp only [List.setIfInBounds_toArray, List.set_cons_zero, List.set_cons_succ])); have R8 := (hb3.block w.heap.size (by simp; omega)).trans ((heap_setCell_other _ _ _ _ (by simp)).trans HR8.out); have HB3 : Hid (Below w.heap.size w w3) := cthen (cset HB2.out (by omega) _ _) hb3; have HR3 : Hid (Row w3 v3 (dig K2)) := hr3; have z3 : w.heap.size + 1 < w3.heap.size := (by have := hb3.size; simp at this; omega); have p0 := rowcell R10 0; have p1 := rowcell R10 1; have p2 := rowcell R10 2; have p3 := rowcell R10 3; have p4 := rowcell R10 4; have p5 := rowcell R10 5; have pf := rowfree R10; simp only [List.getElem?_toArray, List.getElem?_cons_zero, List.getElem?_cons_succ] at p0 p1 p2 p3 p4 p5; have q0 := rowcell R8 0; have q1 := rowcell R8 1; have q2 := rowcell R8 2; have q3 := rowcell R8 3; have q4 := rowcell R8 4; have q5 := rowcell R8 5; have qf := rowfree R8; simp only [List.getElem?_toArray, List.getElem?_cons_zero, List.getElem?_cons_succ] at q0 q1 q2 q3 q4 q5; clear hr3 hb3)
    | (go_at_call 27; go_must (refine (k3 _ (HR.out.below (cmore (cmore (Below.refl _ _) _) _))).mono ?_); rintro e w2 ⟨v2, rfl, hr2, hb2⟩; have R10 := (hb2.block (w.heap.size + 1) (by simp)).trans (rownew' _ _ _ _ (by simp)); have R8 := (hb2.block w.heap.size (by simp; omega)).trans ((Below.heap_alloc _ _ _ (by simp)).trans (rownew' _ _ _ _ (by simp))); have HB2 : Hid (Below w.heap.size w w2) := cthen (cmore (cmore (Below.refl _ _) _) _) hb2; have HR2 : Hid (Row w2 v2 (dig K)) := hr2; have z2 : w.heap.size + 1 < w2.heap.size := (by have := hb2.size; simp at this; omega); have g0 := rowcell R10 0; have g1 := rowcell R10 1; have g2 := rowcell R10 2; have g3 := rowcell R10 3; have g4 := rowcell R10 4; have g5 := rowcell R10 5; have gf := rowfree R10; simp only [List.getElem?_toArray, List.getElem?_cons_zero, List.getElem?_cons_succ] at g0 g1 g2 g3 g4 g5; have h0 := rowcell R8 0; have h1 := rowcell R8 1; have h2 := rowcell R8 2; have h3 := rowcell R8 3; have h4 := rowcell R8 4; have h5 := rowcell R8 5; have hf := rowfree R8; simp only [List.getElem?_toArray, List.getElem?_cons_zero, List.getElem?_cons_succ] at h0 h1 h2 h3 h4 h5; have HR10 : Hid _ := R10; have HR8 : Hid _ := R8; clear hr2 hb2 R10 R8)
    | (go_at_call 62; go_must (refine (kw v2 _ HR2.out).mono ?_); rintro e wx ⟨rfl, hwx⟩; rw [hwx]; clear hwx wx))
  refine bodyPost_ret (v := .agg #[.int .i64 1, .bool neg, .int .i64 hx, .int .u64 hi, .int .u64 lo, .bool rest]) (by simp [results, Try.results32, go_sem, q0, q1, q2, q3, q4, q5, qf]) rfl (hQ.out _ _ ⟨by simp, ?_⟩)
  exact cset6 (cset HB3.out (by omega) _ _) (Nat.le_refl _)
theorem exactly7_mid (neg : Bool) (v : Value) (M : Nat) (exp : Int) (rest : Bool) (h0 : M ≠ 0) (hb : blen M ≤ 1099511627776) (he : -1152921504606846976 ≤ exp ∧ exp ≤ 1152921504606846976) (hc : blen M = 128) (w : World) (hr : Row w v (dig M)) :
    Calls Try.prog 32 #[.bool neg, v, .int .i64 exp, .bool rest] w fun e w' => e = .returned (exactV neg M exp rest) ∧ Below w.heap.size w w' := by
  have hS := dlen_of_blen hb
  obtain ⟨hK1, hK2⟩ := normN_mant h0
  have hSK := dlen_mant hK2
  have hp : 1 ≤ blen M := by rw [blen_pos h0]; omega
  have hv : exactV neg M exp rest = exV 1 neg (heldX (exp + blen M - 1)) (normN M / 2 ^ 64 % 2 ^ 64) (normN M % 2 ^ 64) (rest || lostN M) := by unfold exactV; rw [if_neg h0]
  rw [hv]
  have k1 := fun w hw => nbits_anyq v M hS w hw
  have k2 := held7_any (exp + blen M - 1)
  have hhb := heldX_bounds (exp + blen M - 1)
  have kw := fun v w hw => nword_anyq v (normN M) w hw
  have ks := fun v w hw => nshr_anyq v (normN M) 64 (by decide) hSK w hw
  have kx := fun v w hw => nword_anyq v (normN M / 2 ^ 64) w hw
  have hn : normN M = M := by unfold normN; rw [if_neg (by omega), hc]; simp
  have hl : (rest || lostN M) = rest := by unfold lostN; rw [decide_eq_false (by omega)]; simp
  rw [hl]
  have g1 : decide (((blen M : Nat) : Int) < 128) = false := decide_eq_false (by omega)
  have g2 : decide ((128 : Int) < ((blen M : Nat) : Int)) = false := decide_eq_false (by omega)
  have hb1 : 1 ≤ ((blen M : Nat) : Int) ∧ ((blen M : Nat) : Int) ≤ 1099511627776 := by omega
  have g0 : (((blen M : Nat) : Int) == 0) = false := beq_eq_false_iff_ne.2 (by omega)
  clear hv hp hK1 hK2 hSK
  clear hl
  generalize heldX (exp + blen M - 1) = hx at *
  have HR : Hid (Row w v (dig M)) := hr
  have HR' : Hid (Row w v (dig (normN M))) := by rw [hn]; exact hr
  clear hn
  generalize normN M % 2 ^ 64 = lo at *
  generalize normN M / 2 ^ 64 % 2 ^ 64 = hi at *
  generalize normN M / 2 ^ 64 = K2 at *
  generalize normN M = K at *
  clear hr hb hc h0
  generalize ((blen M : Nat) : Int) = n at *
  refine cps fun Q hQ => ?_
  unfold exV at *
  go_enter Try.func32, Try.ntmps32
  go_wp2_with (first
    | (go_at_call 58; go_must (refine (k1 _ (HR.out.below (cmore (Below.refl _ _) _))).mono ?_); rintro e wx ⟨rfl, hwx⟩; rw [hwx]; clear hwx wx)
    | (go_at_call 59; go_must (refine (k2 _).mono ?_); rintro e wx ⟨rfl, hwx⟩; rw [hwx]; clear hwx wx)
    | (go_at_call_of 62 v3; go_must (refine (kx v3 _ HR3.out).mono ?_); rintro e wx ⟨rfl, hwx⟩; rw [hwx]; clear hwx wx)
    | (go_at_call 62; go_must (refine (kw v _ (HR'.out.below (cmore (cmore (Below.refl _ _) _) _))).mono ?_); rintro e wx ⟨rfl, hwx⟩; rw [hwx]; clear hwx wx)
    | (go_at_call 61; go_must (refine (ks v _ (HR'.out.below (cmore (cmore (Below.refl _ _) _) _))).mono ?_); rintro e w3 ⟨v3, rfl, hr3, hb3⟩; have R10 := (hb3.block (w.heap.size + 1) (by simp)).trans (rownew' _ _ _ _ (by simp)); have R8 := (hb3.block w.heap.size (by simp; omega)).trans ((Below.heap_alloc _ _ _ (by simp)).trans (rownew' _ _ _ _ (by simp))); have HB3 : Hid (Below w.heap.size w w3) := cthen (cmore (cmore (Below.refl _ _) _) _) hb3; have HR3 : Hid (Row w3 v3 (dig K2)) := hr3; have z3 : w.heap.size + 1 < w3.heap.size := (by have := hb3.size; simp at this; omega); have g0 := rowcell R10 0; have g1 := rowcell R10 1; have g2 := rowcell R10 2; have g3 := rowcell R10 3; have g4 := rowcell R10 4; have g5 := rowcell R10 5; have gf := rowfree R10; simp only [List.getElem?_toArray, List.getElem?_cons_zero, List.getElem?_cons_succ] at g0 g1 g2 g3 g4 g5; have h0 := rowcell R8 0; have h1 := rowcell R8 1; have h2 := rowcell R8 2; have h3 := rowcell R8 3; have h4 := rowcell R8 4; have h5 := rowcell R8 5; have hf := rowfree R8; simp only [List.getElem?_toArray, List.getElem?_cons_zero, List.getElem?_cons_succ] at h0 h1 h2 h3 h4 h5; clear hr3 hb3))
  refine bodyPost_ret (v := .agg #[.int .i64 1, .bool neg, .int .i64 hx, .int .u64 hi, .int .u64 lo, .bool rest]) (by simp [results, Try.results32, go_sem, h0, h1, h2, h3, h4, h5, hf]) rfl (hQ.out _ _ ⟨by simp, ?_⟩)
  exact cset6 (cset HB3.out (by omega) _ _) (Nat.le_refl _)
theorem exactly7_hi (neg : Bool) (v : Value) (M : Nat) (exp : Int) (rest : Bool) (h0 : M ≠ 0) (hb : blen M ≤ 1099511627776) (he : -1152921504606846976 ≤ exp ∧ exp ≤ 1152921504606846976) (hc : 128 < blen M) (w : World) (hr : Row w v (dig M)) :
    Calls Try.prog 32 #[.bool neg, v, .int .i64 exp, .bool rest] w fun e w' => e = .returned (exactV neg M exp rest) ∧ Below w.heap.size w w' := by
  have hS := dlen_of_blen hb
  obtain ⟨hK1, hK2⟩ := normN_mant h0
  have hSK := dlen_mant hK2
  have hp : 1 ≤ blen M := by rw [blen_pos h0]; omega
  have hv : exactV neg M exp rest = exV 1 neg (heldX (exp + blen M - 1)) (normN M / 2 ^ 64 % 2 ^ 64) (normN M % 2 ^ 64) (rest || lostN M) := by unfold exactV; rw [if_neg h0]
  rw [hv]
  have k1 := fun w hw => nbits_anyq v M hS w hw
  have k2 := held7_any (exp + blen M - 1)
  have hhb := heldX_bounds (exp + blen M - 1)
  have kw := fun v w hw => nword_anyq v (normN M) w hw
  have ks := fun v w hw => nshr_anyq v (normN M) 64 (by decide) hSK w hw
  have kx := fun v w hw => nword_anyq v (normN M / 2 ^ 64) w hw
  have k3 := fun w hw => nshr_anyq v M (blen M - 128) (by omega) hS w hw
  rw [show M / 2 ^ (blen M - 128) = normN M by unfold normN; rw [if_neg (by omega)]] at k3
  have k4 := fun w hw => nlow_anyq v M (blen M - 128) (by omega) hS w hw
  rw [show decide (M % 2 ^ (blen M - 128) ≠ 0) = lostN M by unfold lostN; rw [decide_eq_true hc]; simp] at k4
  have hd : ((blen M : Nat) : Int) - 128 = ((blen M - 128 : Nat) : Int) := by omega
  obtain ⟨d, hdd⟩ : ∃ d, d = blen M - 128 := ⟨_, rfl⟩
  rw [← hdd] at k3 k4 hd
  have g1 : decide (((blen M : Nat) : Int) < 128) = false := decide_eq_false (by omega)
  have g2 : decide ((128 : Int) < ((blen M : Nat) : Int)) = true := decide_eq_true (by omega)
  have hb1 : 1 ≤ ((blen M : Nat) : Int) ∧ ((blen M : Nat) : Int) ≤ 1099511627776 := by omega
  have g0 : (((blen M : Nat) : Int) == 0) = false := beq_eq_false_iff_ne.2 (by omega)
  clear hv hp hK1 hK2 hSK
  generalize lostN M = lost at *
  generalize heldX (exp + blen M - 1) = hx at *
  have HR : Hid (Row w v (dig M)) := hr
  generalize normN M % 2 ^ 64 = lo at *
  generalize normN M / 2 ^ 64 % 2 ^ 64 = hi at *
  generalize normN M / 2 ^ 64 = K2 at *
  generalize normN M = K at *
  clear hr hb hc h0
  clear hdd
  generalize ((blen M : Nat) : Int) = n at *
  refine cps fun Q hQ => ?_
  unfold exV at *
  cases rest
  · skip
    go_enter Try.func32, Try.ntmps32
    go_wp2_with (first
      | (go_at_call 58; go_must (refine (k1 _ (HR.out.below (cmore (Below.refl _ _) _))).mono ?_); rintro e wx ⟨rfl, hwx⟩; rw [hwx]; clear hwx wx)
      | (go_at_call 59; go_must (refine (k2 _).mono ?_); rintro e wx ⟨rfl, hwx⟩; rw [hwx]; clear hwx wx)
      | (go_at_call_of 62 v3; go_must (refine (kx v3 _ HR3.out).mono ?_); rintro e wx ⟨rfl, hwx⟩; rw [hwx]; clear hwx wx)
      | (go_at_call 60; go_must (refine (k4 _ (HR.out.below (cmore (cmore (Below.refl _ _) _) _))).mono ?_); rintro e wx ⟨rfl, hwx⟩; rw [hwx]; clear hwx wx)
      | (go_at_call_of 61 v2; go_must (refine (ks v2 _ (HR2.out.setU _ _ _ _ g4 (by intro x h; cases h))).mono ?_); rintro e w3 ⟨v3, rfl, hr3, hb3⟩; have R10 : w3.heap[w.heap.size + 1]? = some (.cells #[.int .i64 1, .bool neg, .int .i64 hx, .int .u64 0, .int .u64 lo, .bool lost] 24 (0, 0)) := (hb3.block (w.heap.size + 1) (by simpa using z2)).trans ((rowset HR10.out 4 _).trans (by simp only [List.setIfInBounds_toArray, List.set_cons_zero, List.set_cons_succ])); have R8 := (hb3.block w.heap.size (by simp; omega)).trans ((heap_setCell_other _ _ _ _ (by simp)).trans HR8.out); have HB3 : Hid (Below w.heap.size w w3) := cthen (cset HB2.out (by omega) _ _) hb3; have HR3 : Hid (Row w3 v3 (dig K2)) := hr3; have z3 : w.heap.size + 1 < w3.heap.size := (by have := hb3.size; simp at this; omega); have p0 := rowcell R10 0; have p1 := rowcell R10 1; have p2 := rowcell R10 2; have p3 := rowcell R10 3; have p4 := rowcell R10 4; have p5 := rowcell R10 5; have pf := rowfree R10; simp only [List.getElem?_toArray, List.getElem?_cons_zero, List.getElem?_cons_succ] at p0 p1 p2 p3 p4 p5; have q0 := rowcell R8 0; have q1 := rowcell R8 1; have q2 := rowcell R8 2; have q3 := rowcell R8 3; have q4 := rowcell R8 4; have q5 := rowcell R8 5; have qf := rowfree R8; simp only [List.getElem?_toArray, List.getElem?_cons_zero, List.getElem?_cons_succ] at q0 q1 q2 q3 q4 q5; clear hr3 hb3)
      | (go_at_call 61; go_must (refine (k3 _ (HR.out.below (cmore (cmore (Below.refl _ _) _) _))).mono ?_); rintro e w2 ⟨v2, rfl, hr2, hb2⟩; have R10 := (hb2.block (w.heap.size + 1) (by simp)).trans (rownew' _ _ _ _ (by simp)); have R8 := (hb2.block w.heap.size (by simp; omega)).trans ((Below.heap_alloc _ _ _ (by simp)).trans (rownew' _ _ _ _ (by simp))); have HB2 : Hid (Below w.heap.size w w2) := cthen (cmore (cmore (Below.refl _ _) _) _) hb2; have HR2 : Hid (Row w2 v2 (dig K)) := hr2; have z2 : w.heap.size + 1 < w2.heap.size := (by have := hb2.size; simp at this; omega); have g0 := rowcell R10 0; have g1 := rowcell R10 1; have g2 := rowcell R10 2; have g3 := rowcell R10 3; have g4 := rowcell R10 4; have g5 := rowcell R10 5; have gf := rowfree R10; simp only [List.getElem?_toArray, List.getElem?_cons_zero, List.getElem?_cons_succ] at g0 g1 g2 g3 g4 g5; have h0 := rowcell R8 0; have h1 := rowcell R8 1; have h2 := rowcell R8 2; have h3 := rowcell R8 3; have h4 := rowcell R8 4; have h5 := rowcell R8 5; have hf := rowfree R8; simp only [List.getElem?_toArray, List.getElem?_cons_zero, List.getElem?_cons_succ] at h0 h1 h2 h3 h4 h5; have HR10 : Hid _ := R10; have HR8 : Hid _ := R8; clear hr2 hb2 R10 R8)
      | (go_at_call 62; go_must (refine (kw v2 _ HR2.out).mono ?_); rintro e wx ⟨rfl, hwx⟩; rw [hwx]; clear hwx wx))
    refine bodyPost_ret (v := .agg #[.int .i64 1, .bool neg, .int .i64 hx, .int .u64 hi, .int .u64 lo, .bool lost]) (by simp [results, Try.results32, go_sem, q0, q1, q2, q3, q4, q5, qf]) rfl (hQ.out _ _ ⟨by simp, ?_⟩)
    exact cset6 (cset HB3.out (by omega) _ _) (Nat.le_refl _)
  · skip
    go_enter Try.func32, Try.ntmps32
    go_wp2_with (first
      | (go_at_call 58; go_must (refine (k1 _ (HR.out.below (cmore (Below.refl _ _) _))).mono ?_); rintro e wx ⟨rfl, hwx⟩; rw [hwx]; clear hwx wx)
      | (go_at_call 59; go_must (refine (k2 _).mono ?_); rintro e wx ⟨rfl, hwx⟩; rw [hwx]; clear hwx wx)
      | (go_at_call_of 62 v3; go_must (refine (kx v3 _ HR3.out).mono ?_); rintro e wx ⟨rfl, hwx⟩; rw [hwx]; clear hwx wx)
      | (go_at_call 60; go_must (refine (k4 _ (HR.out.below (cmore (cmore (Below.refl _ _) _) _))).mono ?_); rintro e wx ⟨rfl, hwx⟩; rw [hwx]; clear hwx wx)
      | (go_at_call_of 61 v2; go_must (refine (ks v2 _ (HR2.out.setU _ _ _ _ g4 (by intro x h; cases h))).mono ?_); rintro e w3 ⟨v3, rfl, hr3, hb3⟩; have R10 : w3.heap[w.heap.size + 1]? = some (.cells #[.int .i64 1, .bool neg, .int .i64 hx, .int .u64 0, .int .u64 lo, .bool true] 24 (0, 0)) := (hb3.block (w.heap.size + 1) (by simpa using z2)).trans ((rowset HR10.out 4 _).trans (by simp only [List.setIfInBounds_toArray, List.set_cons_zero, List.set_cons_succ])); have R8 := (hb3.block w.heap.size (by simp; omega)).trans ((heap_setCell_other _ _ _ _ (by simp)).trans HR8.out); have HB3 : Hid (Below w.heap.size w w3) := cthen (cset HB2.out (by omega) _ _) hb3; have HR3 : Hid (Row w3 v3 (dig K2)) := hr3; have z3 : w.heap.size + 1 < w3.heap.size := (by have := hb3.size; simp at this; omega); have p0 := rowcell R10 0; have p1 := rowcell R10 1; have p2 := rowcell R10 2; have p3 := rowcell R10 3; have p4 := rowcell R10 4; have p5 := rowcell R10 5; have pf := rowfree R10; simp only [List.getElem?_toArray, List.getElem?_cons_zero, List.getElem?_cons_succ] at p0 p1 p2 p3 p4 p5; have q0 := rowcell R8 0; have q1 := rowcell R8 1; have q2 := rowcell R8 2; have q3 := rowcell R8 3; have q4 := rowcell R8 4; have q5 := rowcell R8 5; have qf := rowfree R8; simp only [List.getElem?_toArray, List.getElem?_cons_zero, List.getElem?_cons_succ] at q0 q1 q2 q3 q4 q5; clear hr3 hb3)
      | (go_at_call 61; go_must (refine (k3 _ (HR.out.below (cmore (cmore (Below.refl _ _) _) _))).mono ?_); rintro e w2 ⟨v2, rfl, hr2, hb2⟩; have R10 := (hb2.block (w.heap.size + 1) (by simp)).trans (rownew' _ _ _ _ (by simp)); have R8 := (hb2.block w.heap.size (by simp; omega)).trans ((Below.heap_alloc _ _ _ (by simp)).trans (rownew' _ _ _ _ (by simp))); have HB2 : Hid (Below w.heap.size w w2) := cthen (cmore (cmore (Below.refl _ _) _) _) hb2; have HR2 : Hid (Row w2 v2 (dig K)) := hr2; have z2 : w.heap.size + 1 < w2.heap.size := (by have := hb2.size; simp at this; omega); have g0 := rowcell R10 0; have g1 := rowcell R10 1; have g2 := rowcell R10 2; have g3 := rowcell R10 3; have g4 := rowcell R10 4; have g5 := rowcell R10 5; have gf := rowfree R10; simp only [List.getElem?_toArray, List.getElem?_cons_zero, List.getElem?_cons_succ] at g0 g1 g2 g3 g4 g5; have h0 := rowcell R8 0; have h1 := rowcell R8 1; have h2 := rowcell R8 2; have h3 := rowcell R8 3; have h4 := rowcell R8 4; have h5 := rowcell R8 5; have hf := rowfree R8; simp only [List.getElem?_toArray, List.getElem?_cons_zero, List.getElem?_cons_succ] at h0 h1 h2 h3 h4 h5; have HR10 : Hid _ := R10; have HR8 : Hid _ := R8; clear hr2 hb2 R10 R8)
      | (go_at_call 62; go_must (refine (kw v2 _ HR2.out).mono ?_); rintro e wx ⟨rfl, hwx⟩; rw [hwx]; clear hwx wx))
    refine bodyPost_ret (v := .agg #[.int .i64 1, .bool neg, .int .i64 hx, .int .u64 hi, .int .u64 lo, .bool true]) (by simp [results, Try.results32, go_sem, q0, q1, q2, q3, q4, q5, qf]) rfl (hQ.out _ _ ⟨by simp, ?_⟩)
    exact cset6 (cset HB3.out (by omega) _ _) (Nat.le_refl _)
end Go.Proofs.Ytllahgcifichbaa

namespace Go.Proofs.Ytllahgcifichbaa
open Go.ChangeShapes Go.WideShapes Go.ChangeAt Go.RowKit
set_option linter.unusedVariables false
set_option linter.unusedSimpArgs false
set_option maxRecDepth 100000

theorem exactly7_zero (neg : Bool) (v : Value) (exp : Int) (rest : Bool) (w : World) (hr : Row w v (dig 0)) :
    Calls Try.prog 32 #[.bool neg, v, .int .i64 exp, .bool rest] w fun e w' => e = .returned (exV 0 false 0 0 0 false) ∧ Below w.heap.size w w' := by
  have k1 := fun w hw => nbits_anyq v 0 (by rw [dlen_zero]; decide) w hw
  rw [blen_zero, show ((0 : Nat) : Int) = 0 from rfl] at k1
  have HR : Hid (Row w v (dig 0)) := hr
  clear hr
  refine cps fun Q hQ => ?_
  unfold exV at *
  go_enter Try.func32, Try.ntmps32
  go_wp2_with (first
    | (go_at_call 58; go_must (refine (k1 _ (HR.out.below (cmore (Below.refl _ _) _))).mono ?_); rintro e wx ⟨rfl, hwx⟩; rw [hwx]; clear hwx wx))
  refine bodyPost_ret (v := .agg #[.int .i64 0, .bool false, .int .i64 0, .int .u64 0, .int .u64 0, .bool false]) (by simp [results, Try.results32, go_sem]) rfl (hQ.out _ _ ⟨rfl, ?_⟩)
  exact cmore (Below.refl _ _) _
theorem exactly7_any (neg : Bool) (v : Value) (M : Nat) (exp : Int) (rest : Bool) (hb : blen M ≤ 1099511627776) (he : -1152921504606846976 ≤ exp ∧ exp ≤ 1152921504606846976) (w : World) (hr : Row w v (dig M)) :
    Calls Try.prog 32 #[.bool neg, v, .int .i64 exp, .bool rest] w fun e w' => e = .returned (exactV neg M exp rest) ∧ Below w.heap.size w w' := by
  by_cases h0 : M = 0
  · subst h0
    have := exactly7_zero neg v exp rest w hr
    unfold exactV
    rwa [if_pos rfl]
  · rcases Nat.lt_trichotomy (blen M) 128 with h | h | h
    · exact exactly7_lo neg v M exp rest h0 hb he h w hr
    · exact exactly7_mid neg v M exp rest h0 hb he h w hr
    · exact exactly7_hi neg v M exp rest h0 hb he h w hr
theorem exactV_form (neg : Bool) (M : Nat) (exp : Int) (rest : Bool) : ∃ k b s h l r, exactV neg M exp rest = exV k b s h l r := by
  unfold exactV
  split
  · exact ⟨_, _, _, _, _, _, rfl⟩
  · exact ⟨_, _, _, _, _, _, rfl⟩
/-! ### Makes -/
def farE (exp : Int) : Int := if exp < -1125899906842624 then -1125899906842624 else if exp > 1125899906842624 then 1125899906842624 else exp
theorem exactV_far (neg : Bool) (M : Nat) (exp : Int) (rest : Bool) (hM : M < 2 ^ 128) : exactV neg M (farE exp) rest = exactV neg M exp rest := by
  by_cases h0 : M = 0
  · unfold exactV; rw [if_pos h0, if_pos h0]
  · have h1 : blen M ≤ 128 := blen_le.2 hM
    unfold exactV
    rw [if_neg h0, if_neg h0]
    congr 1
    unfold heldX farE
    have hb2 : 0 ≤ ((blen M : Nat) : Int) ∧ ((blen M : Nat) : Int) ≤ 128 := by omega
    generalize ((blen M : Nat) : Int) = b at *
    repeat' split
    all_goals omega
theorem manX_lt {hi lo : Nat} (hh : hi < 2 ^ 64) (hl : lo < 2 ^ 64) : manX hi lo < 2 ^ 128 := by unfold manX; omega
end Go.Proofs.Ytllahgcifichbaa

namespace Go.Proofs.Ytllahgcifichbaa
set_option maxRecDepth 100000
open Go.ChangeShapes Go.WideShapes Go.ChangeAt Go.RowKit
set_option linter.unusedVariables false

/-! ### numbers of 128 bits -/
structure Tw (n h l : Nat) : Prop where
  eq : n = h * 18446744073709551616 + l
  hi : h ≤ 18446744073709551615
  lo : l ≤ 18446744073709551615
theorem Tw.mk' {h l : Nat} (a : h ≤ 18446744073709551615) (b : l ≤ 18446744073709551615) : Tw (h * 18446744073709551616 + l) h l := ⟨rfl, a, b⟩

theorem bmore {a w : World} (h : Below a.heap.size a w) (o : Obj) : Below a.heap.size a (w.alloc o) := h.alloc h.size o

theorem run_sub64_at (x y b : Nat) (hb : b ≤ 1) (w : World) :
    (callFunc 104 #[.int .u64 x, .int .u64 y, .int .u64 b]).run Try.prog w =
      .ok (.value (.tuple #[.int .u64 (((x + 18446744073709551616 - y - b) % 18446744073709551616 : Nat) : Int), .int .u64 ((if x < y + b then 1 else 0 : Nat) : Int)])) w := by
  rw [run_callFunc_extern Try.func104 (by kernel_rfl) (by kernel_rfl) (by kernel_rfl) (e := sub64Entry) (by kernel_rfl), run_sub64 x y b hb]
  rfl

theorem tsub_any {a b h1 l1 h2 l2 h l : Nat} {c : Bool} (ha : Tw a h1 l1) (hb : Tw b h2 l2) (hs : Tw ((a + 340282366920938463463374607431768211456 - b) % 340282366920938463463374607431768211456) h l) (hc : c = decide (a < b)) (w : World) :
    Calls Try.prog 80 #[.agg #[.int .u64 h1, .int .u64 l1], .agg #[.int .u64 h2, .int .u64 l2]] w fun e w' => e = .returned (.tuple #[.agg #[.int .u64 h, .int .u64 l], .bool c]) ∧ Below w.heap.size w w' := by
  refine cps fun Q hQ => ?_
  obtain ⟨ea, ha1, ha2⟩ := ha
  obtain ⟨eb, hb1, hb2⟩ := hb
  obtain ⟨es, hs1, hs2⟩ := hs
  obtain ⟨s1, e1⟩ : ∃ s, s = (l1 + 18446744073709551616 - l2 - 0) % 18446744073709551616 := ⟨_, rfl⟩
  obtain ⟨c1, e2⟩ : ∃ s, s = (if l1 < l2 + 0 then 1 else 0) := ⟨_, rfl⟩
  obtain ⟨s2, e3⟩ : ∃ s, s = (h1 + 18446744073709551616 - h2 - c1) % 18446744073709551616 := ⟨_, rfl⟩
  obtain ⟨c2, e4⟩ : ∃ s, s = (if h1 < h2 + c1 then 1 else 0) := ⟨_, rfl⟩
  have r1 := run_sub64_at l1 l2 0 (by omega)
  have r2 := run_sub64_at h1 h2 c1 (by rw [e2]; split <;> omega)
  rw [← e1, ← e2] at r1
  have r1 : ∀ w, (callFunc 104 #[.int .u64 l1, .int .u64 l2, .int .u64 0]).run Try.prog w = .ok (.value (.tuple #[.int .u64 s1, .int .u64 c1])) w := r1
  rw [← e3, ← e4] at r2
  have hc1 : (c1 = 1 ∧ l1 < l2) ∨ (c1 = 0 ∧ l2 ≤ l1) := by rw [e2]; split <;> omega
  have hc3 : (c2 = 1 ∧ h1 < h2 + c1) ∨ (c2 = 0 ∧ h2 + c1 ≤ h1) := by rw [e4]; split <;> omega
  have q1 : s1 = l := by omega
  have q2 : s2 = h := by omega
  have hc2 : c2 ≤ 1 := by omega
  have q3 : c = decide (c2 = 1) := by rw [hc]; refine decide_eq_decide.2 ?_; omega
  clear e1 e2 e3 e4 hc ea eb es hc1 hc3
  subst q1 q2
  have HC : Hid (c = decide (c2 = 1)) := q3
  clear q3
  go_enter Try.func80, Try.ntmps80
  go_wp2_with (simp only [r1, r2])
  refine bodyPost_ret (v := .tuple #[.agg #[.int .u64 s2, .int .u64 s1], .bool c]) (by simp [results, Try.results80, go_sem]; rw [HC.out]; rcases (show c2 = 0 ∨ c2 = 1 by omega) with h | h <;> rw [h] <;> rfl) rfl (hQ.out _ _ ⟨rfl, ?_⟩)
  exact bmore (bmore (bmore (Below.refl _ _) _) _) _

theorem maskN (a : Nat) (ha : a < 18446744073709551616) : bits .and .u64 (a : Int) 4294967295 = ((a % 4294967296 : Nat) : Int) := by
  have e := u64_and_nat a 4294967295 ha (by decide)
  rw [show ((4294967295 : Nat) : Int) = 4294967295 from rfl] at e
  rw [e, show (4294967295 : Nat) = 2 ^ 32 - 1 from rfl, Nat.and_two_pow_sub_one_eq_mod]
theorem divN (a : Nat) : (a : Int) / 4294967296 = ((a / 4294967296 : Nat) : Int) := by omega
theorem mulN (a b : Nat) : (a : Int) * (b : Int) = ((a * b : Nat) : Int) := (Int.natCast_mul a b).symm
theorem addN (a b : Nat) : (a : Int) + (b : Int) = ((a + b : Nat) : Int) := (Int.natCast_add a b).symm
theorem wrapU (a : Nat) (ha : a < 18446744073709551616) : IntKind.u64.wrap (a : Int) = (a : Int) := by rw [IntKind.wrap_u64]; omega
theorem wrapM (a : Nat) : IntKind.u64.wrap (a : Int) = ((a % 18446744073709551616 : Nat) : Int) := by rw [IntKind.wrap_u64]; omega
set_option maxHeartbeats 1000000 in
theorem mul64_any (x y : Nat) (hx : x < 18446744073709551616) (hy : y < 18446744073709551616) (w : World) :
    Calls Try.prog 91 #[.int .u64 x, .int .u64 y] w fun e w' => e = .returned (.tuple #[.int .u64 ((x * y / 18446744073709551616 : Nat) : Int), .int .u64 ((x * y % 18446744073709551616 : Nat) : Int)]) ∧ w' = w := by
  obtain ⟨bd, bt, bw, hhi⟩ := Lib.mul64_hi x y hx hy
  have ba := Lib.half_mul_le (a := x / 4294967296) (b := y / 4294967296) (by omega) (by omega)
  have bb := Lib.half_mul_le (a := x / 4294967296) (b := y % 4294967296) (by omega) (by omega)
  have bc := Lib.half_mul_le (a := x % 4294967296) (b := y / 4294967296) (by omega) (by omega)
  have ba' : x / 4294967296 * (y / 4294967296) < 18446744073709551616 := by omega
  have bb' : x / 4294967296 * (y % 4294967296) < 18446744073709551616 := by omega
  have bc' : x % 4294967296 * (y / 4294967296) < 18446744073709551616 := by omega
  have bh1 : x / 4294967296 * (y / 4294967296) + (x / 4294967296 * (y % 4294967296) + x % 4294967296 * (y % 4294967296) / 4294967296) / 4294967296 < 18446744073709551616 := by omega
  have bh : x / 4294967296 * (y / 4294967296) + (x / 4294967296 * (y % 4294967296) + x % 4294967296 * (y % 4294967296) / 4294967296) / 4294967296 + ((x / 4294967296 * (y % 4294967296) + x % 4294967296 * (y % 4294967296) / 4294967296) % 4294967296 + x % 4294967296 * (y / 4294967296)) / 4294967296 < 18446744073709551616 := by omega
  go_enter Try.func91, Try.ntmps91
  go_wp2
  simp only [maskN x hx, maskN y hy, divN, mulN, addN, wrapU _ bd, wrapU _ bb', wrapU _ bt, maskN _ bt, wrapU _ bc', wrapU _ bw, wrapU _ ba', wrapU _ bh1, wrapU _ bh, wrapM (x * y)]
  rw [hhi]
  go_ret2
  exact ⟨rfl, rfl⟩

theorem tmul_any {x y h l : Nat} (hx : x ≤ 18446744073709551615) (hy : y ≤ 18446744073709551615) (hs : Tw (x * y) h l) (w : World) :
    Calls Try.prog 67 #[.int .u64 x, .int .u64 y] w fun e w' => e = .returned (.agg #[.int .u64 h, .int .u64 l]) ∧ Below w.heap.size w w' := by
  refine cps fun Q hQ => ?_
  obtain ⟨es, hs1, hs2⟩ := hs
  have r1 := mul64_any x y (by omega) (by omega)
  have e1 : x * y / 18446744073709551616 = h := by rw [es]; omega
  have e2 : x * y % 18446744073709551616 = l := by rw [es]; omega
  rw [e1, e2] at r1
  clear e1 e2 es
  go_enter Try.func67, Try.ntmps67
  go_wp2_with (go_at_call 91; refine (r1 _).mono ?_; rintro e w' ⟨rfl, hw⟩; rw [hw]; clear hw w')
  refine bodyPost_ret (v := .agg #[.int .u64 h, .int .u64 l]) (by simp [results, Try.results67, go_sem]) rfl (hQ.out _ _ ⟨rfl, ?_⟩)
  exact bmore (Below.refl _ _) _
end Go.Proofs.Ytllahgcifichbaa

namespace Go.Proofs.Ytllahgcifichbaa
set_option maxRecDepth 100000
open Go.ChangeShapes Go.WideShapes Go.ChangeAt Go.RowKit
set_option linter.unusedVariables false

theorem bthen {a W w : World} (h : Below a.heap.size a W) (hb : Below W.heap.size W w) : Below a.heap.size a w := h.trans (hb.mono h.size)
theorem bdrew {a W : World} (h : Below a.heap.size a W) : Below a.heap.size a W.drew := h.drew
theorem bdrewN {a W : World} (h : Below a.heap.size a W) (q : Nat) : Below a.heap.size a (W.drewN q) := below_drewN h q

theorem drew_at (w : World) (c : Array Value) (t : TypeId) (n i : Nat) (hn : n = w.heap.size) : (w.alloc (.cells c t)).drew.cell? ⟨n, i, none⟩ = c[i]? := World.cell?_alloc_at c t n i hn
theorem bcell {W w1 : World} (hb : Below W.heap.size W w1) : (∀ b o, b < W.heap.size → w1.cell? ⟨b, o, none⟩ = W.cell? ⟨b, o, none⟩) ∧ (∀ b o, b < W.heap.size → w1.frozen? ⟨b, o, none⟩ = W.frozen? ⟨b, o, none⟩) :=
  ⟨fun b o h => hb.cell (p := ⟨b, o, none⟩) h, fun b o h => hb.frozen (p := ⟨b, o, none⟩) h⟩
theorem bset {a W : World} {b : Nat} (h : Below a.heap.size a W) (hb : a.heap.size ≤ b) (o : Nat) (v : Value) : Below a.heap.size a (W.setCell ⟨b, o, none⟩ v) := h.setCell hb _
theorem Tw.lt {n h l : Nat} (t : Tw n h l) : n < 340282366920938463463374607431768211456 := by
  obtain ⟨e, a, b⟩ := t; omega
/-! ### cmp -/
theorem isnan_any (x : Nat) (w : World) : Calls Try.prog 110 #[.int .u64 x] w fun e w' => e = .returned (.bool false) ∧ w' = w := by
  refine cps fun Q hQ => ?_
  go_enter Try.func110, Try.ntmps110
  go_wp2
  exact hQ.out _ _ ⟨by simp, rfl⟩
theorem compare_any (x y : Nat) (w : World) : Calls Try.prog 103 #[.int .u64 x, .int .u64 y] w fun e w' => e = .returned (.int .i64 (cmpN x y)) ∧ w' = w := by
  refine cps fun Q hQ => ?_
  have hE : (x < y ∧ cmpN x y = -1) ∨ (y < x ∧ cmpN x y = 1) ∨ (x = y ∧ cmpN x y = 0) := by
    unfold cmpN; split
    · exact .inl ⟨by assumption, rfl⟩
    · split
      · exact .inr (.inr ⟨by assumption, rfl⟩)
      · exact .inr (.inl ⟨by omega, rfl⟩)
  rcases hE with ⟨h, hE⟩ | ⟨h, hE⟩ | ⟨h, hE⟩
  all_goals
    rw [hE] at hQ
    have hlt : ((x : Int) < (y : Int)) = (x < y) := by simp
    clear hE
    go_enter Try.func103, Try.ntmps103
    go_wp2_with (go_at_call 110; refine (isnan_any _ _).mono ?_; rintro e w' ⟨rfl, hw⟩; rw [hw]; clear hw w')
    exact hQ.out _ _ ⟨rfl, rfl⟩
theorem or_any (x y : Int) (g : Nat) (w : World) (c1 : w.cell? ⟨g, 0, none⟩ = some (.int .i64 x)) (c2 : w.cell? ⟨g, 1, none⟩ = some (.int .i64 y)) :
    Calls Try.prog 102 #[.slice (some ⟨g, 0, none⟩) 2 2] w fun e w' => e = .returned (.int .i64 (if x = 0 then y else x)) ∧ w' = w := by
  refine cps fun Q hQ => ?_
  go_enter Try.func102, Try.ntmps102
  go_wp2
  go_loop [8] (fun i => i = .int .i64 0 ∨ (i = .int .i64 1 ∧ x = 0) ∨ (i = .int .i64 2 ∧ x = 0 ∧ y = 0)) (fun i => (2 - intOf i).toNat)
  case atStart => exact .inl rfl
  case round =>
    rcases hrel with rfl | ⟨rfl, hx⟩ | ⟨rfl, hx, hy⟩
    · by_cases hx : x = 0
      · subst hx
        go_wp2
        go_round
        case rel => exact .inr (.inl ⟨rfl, by trivial⟩)
        case measure => simp [intOf]
      · rw [if_neg hx] at hQ
        go_wp2
        exact hQ.out _ _ ⟨rfl, rfl⟩
    · subst hx
      rw [if_pos rfl] at hQ
      by_cases hy : y = 0
      · subst hy
        go_wp2
        go_round
        case rel => exact .inr (.inr ⟨rfl, by trivial, by trivial⟩)
        case measure => simp [intOf]
      · go_wp2
        exact hQ.out _ _ ⟨rfl, rfl⟩
    · subst hx hy
      rw [if_pos rfl] at hQ
      go_wp2
      exact hQ.out _ _ ⟨rfl, rfl⟩
theorem or_any' (x y z : Int) (hz : z = if x = 0 then y else x) (g : Nat) (w : World) (c1 : w.cell? ⟨g, 0, none⟩ = some (.int .i64 x)) (c2 : w.cell? ⟨g, 1, none⟩ = some (.int .i64 y)) :
    Calls Try.prog 102 #[.slice (some ⟨g, 0, none⟩) 2 2] w fun e w' => e = .returned (.int .i64 z) ∧ w' = w := by rw [hz]; exact or_any x y g w c1 c2
theorem cmp_words {a b h1 l1 h2 l2 : Nat} (ha : Tw a h1 l1) (hb : Tw b h2 l2) : (if cmpN h1 h2 = 0 then cmpN l1 l2 else cmpN h1 h2) = cmpN a b := by
  obtain ⟨ea, ha1, ha2⟩ := ha
  obtain ⟨eb, hb1, hb2⟩ := hb
  rcases Nat.lt_trichotomy h1 h2 with h | h | h
  · rw [cmpN_lt h, cmpN_lt (show a < b by omega)]; rfl
  · subst h
    rw [cmpN_eq, if_pos rfl]
    rcases Nat.lt_trichotomy l1 l2 with h | h | h
    · rw [cmpN_lt h, cmpN_lt (show a < b by omega)]
    · subst h; rw [cmpN_eq, show a = b by omega, cmpN_eq]
    · rw [cmpN_gt h, cmpN_gt (show b < a by omega)]
  · rw [cmpN_gt h, cmpN_gt (show b < a by omega)]; rfl
theorem cmpN_rng (x y : Nat) : -1 ≤ cmpN x y ∧ cmpN x y ≤ 1 := by unfold cmpN; split <;> (try split) <;> omega

/-! ### Len -/
theorem bitLen_eq (x : Nat) (hx : x ≤ 18446744073709551615) : Lib.bitLen x = blen x := by
  have h1 : ∀ f x : Nat, x < 2 ^ f → Lib.bitLenAux f x = blen x := by
    intro f
    induction f with
    | zero => intro x h; have : x = 0 := by omega
              subst this; rw [blen_zero]; rfl
    | succ f ih =>
      intro x h
      unfold Lib.bitLenAux
      by_cases h0 : x = 0
      · subst h0; rw [blen_zero]; rfl
      · rw [if_neg h0, blen_pos h0, ih _ (by rw [Nat.pow_succ] at h; omega), Nat.add_comm]
  exact h1 64 x (by omega)
theorem tlen_any {a h1 l1 : Nat} (ha : Tw a h1 l1) (w : World) :
    Calls Try.prog 81 #[.agg #[.int .u64 h1, .int .u64 l1]] w fun e w' => e = .returned (.int .i64 (blen a)) ∧ Below w.heap.size w w' := by
  refine cps fun Q hQ => ?_
  obtain ⟨ea, ha1, ha2⟩ := ha
  have r : ∀ (x : Nat) (hx : x ≤ 18446744073709551615) (w : World), Calls Try.prog 105 #[.int .u64 x] w fun e w' => e = .returned (.int .i64 (blen x)) ∧ w' = w := fun x hx w => by
    rw [← bitLen_eq x hx]; exact len64_any x (by omega) w
  by_cases h0 : h1 = 0
  · have e : a = l1 := by omega
    rw [e] at hQ
    have r2 := r l1 ha2
    clear r e ea
    subst h0
    go_enter Try.func81, Try.ntmps81
    go_wp2_with (go_at_call 105; refine (r2 _).mono ?_; rintro e w' ⟨rfl, hw⟩; rw [hw]; clear hw w')
    exact hQ.out _ _ ⟨rfl, bmore (Below.refl _ _) _⟩
  · have hd : a / 2 ^ 64 = h1 := by omega
    have e := blen_shift (a := a) (k := 64) (by omega)
    rw [hd] at e
    rw [e] at hQ
    have r2 := r h1 ha1
    have hb : blen h1 ≤ 64 := blen_le.2 (by omega)
    generalize blen h1 = L at *
    clear r e ea hd
    go_enter Try.func81, Try.ntmps81
    go_wp2_with (go_at_call 105; refine (r2 _).mono ?_; rintro e w' ⟨rfl, hw⟩; rw [hw]; clear hw w')
    exact hQ.out _ _ ⟨ret_i (by omega), bmore (Below.refl _ _) _⟩
end Go.Proofs.Ytllahgcifichbaa

namespace Go.Proofs.Ytllahgcifichbaa
set_option maxRecDepth 100000
open Go.ChangeShapes Go.WideShapes Go.ChangeAt Go.RowKit
set_option linter.unusedVariables false

theorem up_near (h1 l1 k : Nat) (hh : h1 ≤ 18446744073709551615) (hl : l1 ≤ 18446744073709551615) (hk : k < 64) :
    Tw ((h1 * 18446744073709551616 + l1) * 2 ^ k % 340282366920938463463374607431768211456) (((h1 <<< k) % 2 ^ 64) ||| (l1 >>> (64 - k))) ((l1 <<< k) % 2 ^ 64) := by
  have e : 2 ^ 64 = 2 ^ k * 2 ^ (64 - k) := by rw [← Nat.pow_add]; congr 1; omega
  have hp : 0 < 2 ^ k := Nat.pow_pos (by decide)
  have hq : 0 < 2 ^ (64 - k) := Nat.pow_pos (by decide)
  have h3 : l1 >>> (64 - k) < 2 ^ k := by
    rw [Nat.shiftRight_eq_div_pow]; exact Nat.div_lt_of_lt_mul (by rw [Nat.mul_comm, ← e]; omega)
  have h4 : (h1 <<< k) % 2 ^ 64 = (h1 % 2 ^ (64 - k)) <<< k := by
    rw [Nat.shiftLeft_eq, Nat.shiftLeft_eq, e, Nat.mul_comm h1, Nat.mul_mod_mul_left, Nat.mul_comm]
  have h5 : ((h1 <<< k) % 2 ^ 64) ||| (l1 >>> (64 - k)) = (h1 <<< k) % 2 ^ 64 + l1 >>> (64 - k) := by
    rw [h4, Nat.shiftLeft_add_eq_or_of_lt h3]
  rw [h5]
  have h6 : l1 * 2 ^ k = (l1 >>> (64 - k)) * 2 ^ 64 + (l1 <<< k) % 2 ^ 64 := by
    rw [Nat.shiftRight_eq_div_pow, Nat.shiftLeft_eq]
    have h7 : l1 / 2 ^ (64 - k) = l1 * 2 ^ k / 2 ^ 64 := by rw [e, Nat.mul_comm (2 ^ k) (2 ^ (64 - k)), Nat.mul_div_mul_right _ _ hp]
    rw [h7]; omega
  have h8 : (h1 * 18446744073709551616 + l1) * 2 ^ k = h1 * 2 ^ k * 18446744073709551616 + l1 * 2 ^ k := by rw [Nat.add_mul, Nat.mul_right_comm]
  have h9 : (h1 <<< k) = h1 * 2 ^ k := Nat.shiftLeft_eq _ _
  have h10 : h1 * 2 ^ k % 2 ^ 64 + l1 >>> (64 - k) < 2 ^ 64 := by
    rw [← h9, h4, Nat.shiftLeft_eq]
    have := Nat.mod_lt h1 hq
    have h11 : (h1 % 2 ^ (64 - k) + 1) * 2 ^ k ≤ 2 ^ (64 - k) * 2 ^ k := Nat.mul_le_mul this (Nat.le_refl _)
    rw [Nat.add_mul, Nat.one_mul, Nat.mul_comm (2 ^ (64 - k)), ← e] at h11
    omega
  rw [h8, h6, h9]
  generalize h1 * 2 ^ k = X at *
  generalize l1 >>> (64 - k) = Y at *
  have hz : l1 <<< k % 2 ^ 64 < 2 ^ 64 := Nat.mod_lt _ (by decide)
  generalize l1 <<< k % 2 ^ 64 = Z at *
  clear h3 h4 h5 h6 h8 h9 e hp hq
  refine ⟨by omega, by omega, by omega⟩
theorem up_far (h1 l1 k : Nat) (hk : 64 ≤ k) : Tw ((h1 * 18446744073709551616 + l1) * 2 ^ k % 340282366920938463463374607431768211456) ((l1 <<< (k - 64)) % 2 ^ 64) 0 := by
  have e : 2 ^ k = 2 ^ (k - 64) * 2 ^ 64 := by rw [← Nat.pow_add]; congr 1; omega
  have h8 : (h1 * 18446744073709551616 + l1) * 2 ^ k = h1 * 2 ^ (k - 64) * 340282366920938463463374607431768211456 + l1 * 2 ^ (k - 64) * 18446744073709551616 := by
    rw [e, Nat.add_mul, show (340282366920938463463374607431768211456 : Nat) = 2 ^ 64 * 2 ^ 64 by decide, show (18446744073709551616 : Nat) = 2 ^ 64 by decide]
    rw [← Nat.mul_assoc l1, ← Nat.mul_assoc (h1 * 2 ^ (k - 64)), Nat.mul_assoc h1 (2 ^ 64), Nat.mul_comm (2 ^ 64) (2 ^ (k - 64) * 2 ^ 64), ← Nat.mul_assoc h1, ← Nat.mul_assoc h1]
  rw [h8, Nat.shiftLeft_eq]
  generalize h1 * 2 ^ (k - 64) = X
  generalize l1 * 2 ^ (k - 64) = Y
  refine ⟨by omega, by omega, by omega⟩
theorem down_near (h1 l1 k : Nat) (hh : h1 ≤ 18446744073709551615) (hl : l1 ≤ 18446744073709551615) (hk : k < 64) :
    Tw ((h1 * 18446744073709551616 + l1) / 2 ^ k) (h1 >>> k) ((l1 >>> k) ||| ((h1 <<< (64 - k)) % 2 ^ 64)) := by
  have e : 2 ^ 64 = 2 ^ k * 2 ^ (64 - k) := by rw [← Nat.pow_add]; congr 1; omega
  have hp : 0 < 2 ^ k := Nat.pow_pos (by decide)
  have hq : 0 < 2 ^ (64 - k) := Nat.pow_pos (by decide)
  have h3 : l1 >>> k < 2 ^ (64 - k) := by
    rw [Nat.shiftRight_eq_div_pow]; exact Nat.div_lt_of_lt_mul (by rw [← e]; omega)
  have h4 : (h1 <<< (64 - k)) % 2 ^ 64 = (h1 % 2 ^ k) <<< (64 - k) := by
    rw [Nat.shiftLeft_eq, Nat.shiftLeft_eq, e, Nat.mul_mod_mul_right]
  have h5 : (l1 >>> k) ||| ((h1 <<< (64 - k)) % 2 ^ 64) = (h1 % 2 ^ k) * 2 ^ (64 - k) + l1 >>> k := by
    rw [h4, Nat.or_comm, ← Nat.shiftLeft_add_eq_or_of_lt h3, Nat.shiftLeft_eq]
  rw [h5]
  have h7 : h1 * 18446744073709551616 + l1 = (h1 / 2 ^ k * 18446744073709551616 + h1 % 2 ^ k * 2 ^ (64 - k)) * 2 ^ k + l1 := by
    have a1 : h1 * 18446744073709551616 = (2 ^ k * (h1 / 2 ^ k) + h1 % 2 ^ k) * 18446744073709551616 := by rw [Nat.div_add_mod]
    have a2 : h1 % 2 ^ k * 18446744073709551616 = h1 % 2 ^ k * 2 ^ (64 - k) * 2 ^ k := by
      rw [Nat.mul_assoc, Nat.mul_comm (2 ^ (64 - k)), ← e]
    rw [a1, Nat.add_mul, a2, Nat.add_mul, Nat.mul_comm (2 ^ k), Nat.mul_right_comm]
  rw [h7, Nat.add_comm, Nat.add_mul_div_right _ _ hp, Nat.shiftRight_eq_div_pow, Nat.shiftRight_eq_div_pow]
  rw [Nat.shiftRight_eq_div_pow] at h3
  have h8 : (h1 % 2 ^ k) * 2 ^ (64 - k) + l1 / 2 ^ k < 2 ^ 64 := by
    have := Nat.mod_lt h1 hp
    have h11 : (h1 % 2 ^ k + 1) * 2 ^ (64 - k) ≤ 2 ^ k * 2 ^ (64 - k) := Nat.mul_le_mul this (Nat.le_refl _)
    rw [Nat.add_mul, Nat.one_mul, ← e] at h11
    omega
  have h9 : h1 / 2 ^ k ≤ h1 := Nat.div_le_self _ _
  generalize (h1 % 2 ^ k) * 2 ^ (64 - k) = X at *
  generalize l1 / 2 ^ k = Y at *
  generalize h1 / 2 ^ k = Z at *
  clear h3 h4 h5 h7 e hp hq
  refine ⟨by omega, by omega, by omega⟩
theorem down_far (h1 l1 k : Nat) (hh : h1 ≤ 18446744073709551615) (hl : l1 ≤ 18446744073709551615) (hk : 64 ≤ k) :
    Tw ((h1 * 18446744073709551616 + l1) / 2 ^ k) 0 (h1 >>> (k - 64)) := by
  have e : 2 ^ k = 2 ^ 64 * 2 ^ (k - 64) := by rw [← Nat.pow_add]; congr 1; omega
  rw [e, ← Nat.div_div_eq_div_mul, Nat.shiftRight_eq_div_pow, show (h1 * 18446744073709551616 + l1) / 2 ^ 64 = h1 by omega]
  have := Nat.div_le_self h1 (2 ^ (k - 64))
  refine ⟨by omega, by omega, by omega⟩

theorem shl_min (x i : Nat) : (x <<< i) % 2 ^ 64 = (x <<< (min i 64)) % 2 ^ 64 := by
  by_cases h : i ≤ 64
  · rw [Nat.min_eq_left h]
  · rw [Nat.min_eq_right (by omega), Nat.shiftLeft_eq, Nat.shiftLeft_eq, Nat.mul_mod_left, show 2 ^ i = 2 ^ (i - 64) * 2 ^ 64 by rw [← Nat.pow_add]; congr 1; omega, ← Nat.mul_assoc, Nat.mul_mod_left]
theorem shr_min (x i : Nat) (hx : x ≤ 18446744073709551615) : x >>> i = x >>> (min i 64) := by
  by_cases h : i ≤ 64
  · rw [Nat.min_eq_left h]
  · have h1 : 2 ^ 64 ≤ 2 ^ i := Nat.pow_le_pow_right (by decide) (by omega)
    rw [Nat.min_eq_right (by omega), Nat.shiftRight_eq_div_pow, Nat.shiftRight_eq_div_pow, Nat.div_eq_of_lt (by omega), Nat.div_eq_of_lt (by omega)]
theorem Tw.one {n h l h' l' : Nat} (a : Tw n h l) (b : Tw n h' l') : h = h' ∧ l = l' := by
  obtain ⟨e, a1, a2⟩ := a
  obtain ⟨e', b1, b2⟩ := b
  omega
set_option maxHeartbeats 1000000 in
theorem up_any {a h1 l1 h l : Nat} (k : Nat) (hk : k ≤ 9223372036854775807) (ha : Tw a h1 l1) (hs : Tw ((a * 2 ^ k) % 340282366920938463463374607431768211456) h l) (w : World) :
    Calls Try.prog 78 #[.agg #[.int .u64 h1, .int .u64 l1], .int .i64 k] w fun e w' => e = .returned (.agg #[.int .u64 h, .int .u64 l]) ∧ Below w.heap.size w w' := by
  refine cps fun Q hQ => ?_
  obtain ⟨ea, hh, hl⟩ := ha
  rw [ea] at hs
  by_cases h64 : 64 ≤ k
  · obtain ⟨e1, e2⟩ := hs.one (up_far h1 l1 k h64)
    obtain ⟨i, rfl⟩ : ∃ i, k = 64 + i := ⟨k - 64, by omega⟩
    rw [show 64 + i - 64 = i by omega] at e1
    have hv := wrapShl l1 (min i 64)
    rw [← shl_min, ← e1] at hv
    subst e2
    have hki : ((64 + i : Nat) : Int) - 64 = i := by omega
    clear hs e1 ea
    have hk64 : (64 : Int) ≤ ((64 + i : Nat) : Int) := by omega
    generalize ((64 + i : Nat) : Int) = K at *
    go_enter Try.func78, Try.ntmps78
    go_wp2
    refine bodyPost_ret (v := .agg #[.int .u64 h, .int .u64 0]) (by simp [results, Try.results78, go_sem]) rfl (hQ.out _ _ ⟨rfl, ?_⟩)
    exact bmore (bmore (Below.refl _ _) _) _
  · obtain ⟨e1, e2⟩ := hs.one (up_near h1 l1 k hh hl (by omega))
    have v1 := wrapShl h1 k
    have v2 := wrapShl l1 k
    have v3 := shrN l1 (64 - k)
    have v4 := u64_or_nat ((h1 <<< k) % 2 ^ 64) (l1 >>> (64 - k)) (Nat.mod_lt _ (by decide)) (Nat.lt_of_le_of_lt (Nat.shiftRight_le _ _) (by omega))
    rw [← e1] at v4
    rw [← e2] at v2
    have hk1 : k < 64 := by omega
    have hq : (64 : Int) - k = ((64 - k : Nat) : Int) := by omega
    clear hs e1 e2 ea h64
    generalize 64 - k = j at *
    generalize l1 >>> j = x at *
    generalize h1 <<< k % 2 ^ 64 = y at *
    go_enter Try.func78, Try.ntmps78
    go_wp2
    go_region
    all_goals
      go_wp2
      refine bodyPost_ret (v := .agg #[.int .u64 h, .int .u64 l]) (by simp [results, Try.results78, go_sem]) rfl (hQ.out _ _ ⟨rfl, ?_⟩)
      exact (bmore (bmore (Below.refl _ _) _) _).drew
set_option maxHeartbeats 1000000 in
theorem down_any {a h1 l1 h l : Nat} (k : Nat) (hk : k ≤ 9223372036854775807) (ha : Tw a h1 l1) (hs : Tw (a / 2 ^ k) h l) (w : World) :
    Calls Try.prog 77 #[.agg #[.int .u64 h1, .int .u64 l1], .int .i64 k] w fun e w' => e = .returned (.agg #[.int .u64 h, .int .u64 l]) ∧ Below w.heap.size w w' := by
  refine cps fun Q hQ => ?_
  obtain ⟨ea, hh, hl⟩ := ha
  rw [ea] at hs
  by_cases h64 : 64 ≤ k
  · obtain ⟨e1, e2⟩ := hs.one (down_far h1 l1 k hh hl h64)
    obtain ⟨i, rfl⟩ : ∃ i, k = 64 + i := ⟨k - 64, by omega⟩
    rw [show 64 + i - 64 = i by omega] at e2
    have hv := shrN h1 (min i 64)
    rw [← shr_min _ _ hh, ← e2] at hv
    subst e1
    have hki : ((64 + i : Nat) : Int) - 64 = i := by omega
    clear hs e2 ea
    have hk64 : (64 : Int) ≤ ((64 + i : Nat) : Int) := by omega
    generalize ((64 + i : Nat) : Int) = K at *
    go_enter Try.func77, Try.ntmps77
    go_wp2
    refine bodyPost_ret (v := .agg #[.int .u64 0, .int .u64 l]) (by simp [results, Try.results77, go_sem]) rfl (hQ.out _ _ ⟨rfl, ?_⟩)
    exact bmore (bmore (Below.refl _ _) _) _
  · obtain ⟨e1, e2⟩ := hs.one (down_near h1 l1 k hh hl (by omega))
    have v1 := shrN h1 k
    have v2 := shrN l1 k
    have v3 := wrapShl h1 (64 - k)
    have v4 := u64_or_nat (l1 >>> k) ((h1 <<< (64 - k)) % 2 ^ 64) (Nat.lt_of_le_of_lt (Nat.shiftRight_le _ _) (by omega)) (Nat.mod_lt _ (by decide))
    rw [← e2] at v4
    rw [← e1] at v1
    have hk1 : k < 64 := by omega
    have hq : (64 : Int) - k = ((64 - k : Nat) : Int) := by omega
    clear hs e1 e2 ea h64
    generalize 64 - k = j at *
    generalize l1 >>> k = x at *
    generalize h1 <<< j % 2 ^ 64 = y at *
    go_enter Try.func77, Try.ntmps77
    go_wp2
    go_region
    all_goals
      go_wp2
      refine bodyPost_ret (v := .agg #[.int .u64 h, .int .u64 l]) (by simp [results, Try.results77, go_sem]) rfl (hQ.out _ _ ⟨rfl, ?_⟩)
      exact (bmore (bmore (Below.refl _ _) _) _).drew
end Go.Proofs.Ytllahgcifichbaa

namespace Go.Proofs.Ytllahgcifichbaa
set_option maxRecDepth 100000
open Go.ChangeShapes Go.WideShapes Go.ChangeAt Go.RowKit
set_option linter.unusedVariables false

theorem tshl_no (k : Int) (hk : k < 0) (h1 l1 : Nat) (w : World) :
    Calls Try.prog 96 #[.agg #[.int .u64 h1, .int .u64 l1], .int .i64 k] w fun e w' => e = .returned (.tuple #[.agg #[.int .u64 0, .int .u64 0], .bool false, .iface 41 (.int .i64 1)]) ∧ Below w.heap.size w w' := by
  refine cps fun Q hQ => ?_
  go_enter Try.func96, Try.ntmps96
  go_wp2
  refine bodyPost_ret (v := .tuple #[.agg #[.int .u64 0, .int .u64 0], .bool false, .iface 41 (.int .i64 1)]) (by simp [results, Try.results96, go_sem]) rfl (hQ.out _ _ ⟨rfl, ?_⟩)
  exact bmore (bmore (Below.refl _ _) _) _
set_option maxHeartbeats 1000000 in
theorem tshl_any {a h1 l1 h l : Nat} {c : Bool} (k : Nat) (hk : k ≤ 9223372036854775807) (ha : Tw a h1 l1) (hs : Tw ((a * 2 ^ k) % 340282366920938463463374607431768211456) h l) (hc : c = decide (340282366920938463463374607431768211456 ≤ a * 2 ^ k)) (w : World) :
    Calls Try.prog 96 #[.agg #[.int .u64 h1, .int .u64 l1], .int .i64 k] w fun e w' => e = .returned (.tuple #[.agg #[.int .u64 h, .int .u64 l], .bool c, .nilIface]) ∧ Below w.heap.size w w' := by
  refine cps fun Q hQ => ?_
  have k1 := fun w => up_any k hk ha hs w
  obtain ⟨T, hT⟩ : ∃ T, T = (a * 2 ^ k) % 340282366920938463463374607431768211456 / 2 ^ k := ⟨_, rfl⟩
  have hTlt : T < 340282366920938463463374607431768211456 := by rw [hT]; exact Nat.lt_of_le_of_lt (Nat.div_le_self _ _) (Nat.mod_lt _ (by decide))
  have hq : (!decide (T = a)) = decide (340282366920938463463374607431768211456 ≤ a * 2 ^ k) := by
    have hp : 0 < 2 ^ k := Nat.pow_pos (by decide)
    by_cases h0 : 340282366920938463463374607431768211456 ≤ a * 2 ^ k
    · have : T ≠ a := by
        intro h1
        rw [hT] at h1
        have h2 := Nat.div_mul_le_self ((a * 2 ^ k) % 340282366920938463463374607431768211456) (2 ^ k)
        rw [h1] at h2
        have h3 := Nat.mod_lt (a * 2 ^ k) (show 0 < 340282366920938463463374607431768211456 by decide)
        omega
      simp [this, h0]
    · have : T = a := by rw [hT, Nat.mod_eq_of_lt (by omega), Nat.mul_div_cancel _ hp]
      simp [this, h0]
  obtain ⟨h3, l3, ht⟩ : ∃ h3 l3, Tw T h3 l3 := ⟨T / 18446744073709551616, T % 18446744073709551616, by omega, by omega, by omega⟩
  have hTT : Tw ((a * 2 ^ k) % 340282366920938463463374607431768211456 / 2 ^ k) h3 l3 := hT ▸ ht
  have k2 := fun w => down_any k hk hs hTT w
  have hc2 : c = !(decide (h3 = h1) && decide (l3 = l1)) := by
    rw [hc, ← hq]
    by_cases hh : h3 = h1 ∧ l3 = l1
    · rw [hh.1, hh.2] at ht ⊢
      simp
      have := ht.eq.trans ha.eq.symm
      exact this
    · have : ¬ T = a := fun h => hh (by rw [h] at ht; exact ht.one ha)
      rw [decide_eq_false this]
      by_cases h5 : h3 = h1
      · have : l3 ≠ l1 := fun h6 => hh ⟨h5, h6⟩
        simp [this]
      · simp [h5]
  have hcase : (h1 = h3 ∧ l1 = l3 ∧ c = false) ∨ (h1 = h3 ∧ ¬ (l3 : Int) = l1 ∧ c = true) ∨ (¬ (h3 : Int) = h1 ∧ c = true) := by
    by_cases g1 : h3 = h1
    · by_cases g2 : l3 = l1
      · exact .inl ⟨g1.symm, g2.symm, by rw [hc2]; simp [g1, g2]⟩
      · exact .inr (.inl ⟨g1.symm, by omega, by rw [hc2]; simp [g2]⟩)
    · exact .inr (.inr ⟨by omega, by rw [hc2]; simp [g1]⟩)
  clear hc hc2 ht hs ha hq hTT hT hTlt
  rcases hcase with ⟨rfl, rfl, rfl⟩ | ⟨rfl, g2, rfl⟩ | ⟨g1, rfl⟩
  all_goals
    go_enter Try.func96, Try.ntmps96
    go_wp2_with (go_at_call 78; refine (k1 _).mono ?_; rintro e w1 ⟨rfl, hb1⟩; obtain ⟨hc1, hf1⟩ := bcell hb1; have hz : w.heap.size + 1 < w1.heap.size := by have := hb1.size; simp at this; omega)
    have hz0 : w.heap.size < w1.heap.size := by omega
    refine wpC_region (fun W => W.cell? ⟨w.heap.size, 0, none⟩ = some (.int .u64 h1) ∧ W.cell? ⟨w.heap.size, 1, none⟩ = some (.int .u64 l1) ∧ W.cell? ⟨w1.heap.size, 0, none⟩ = some (.int .u64 h) ∧ W.cell? ⟨w1.heap.size, 1, none⟩ = some (.int .u64 l)) (by kernel_rfl) ?_
    refine wpC_take 0 (v := ?_) rfl (by kernel_rfl) (fun _ _ _ h => h) (by kernel_rfl) ?_ ?_; rotate_left; · (intro wC hC; obtain ⟨c1, c2, c3, c4⟩ := hC; go_simp <;> with_reducible rfl)
    refine wpC_take 1 (v := ?_) rfl (by kernel_rfl) (fun _ _ _ h => h) (by kernel_rfl) ?_ ?_; rotate_left; · (intro wC hC; obtain ⟨c1, c2, c3, c4⟩ := hC; go_simp <;> with_reducible rfl)
    refine wpC_take 2 (v := ?_) rfl (by kernel_rfl) (fun _ _ _ h => h) (by kernel_rfl) ?_ ?_; rotate_left; · (intro wC hC; obtain ⟨c1, c2, c3, c4⟩ := hC; go_simp <;> with_reducible rfl)
    refine wpC_take 4 (v := ?_) rfl (by kernel_rfl) (fun _ _ _ h => h) (by kernel_rfl) ?_ ?_; rotate_left; · (intro wC hC; obtain ⟨c1, c2, c3, c4⟩ := hC; go_simp <;> with_reducible rfl)
    refine wpC_step 3 rfl (by kernel_rfl) (by kernel_rfl) (by simp [go_sem, hc1, hz0]) (fun K hK => ?_)
    go_simp
    go_wp2_with ((go_at_call 77; refine (k2 _).mono ?_; rintro e w2 ⟨rfl, hb2⟩; obtain ⟨hc2, hf2⟩ := bcell hb2; have hz2 : w1.heap.size < w2.heap.size := by have := hb2.size; simp at this; omega))
    try (refine hK _ _ ?_; clear hK K)
    refine wpC_take 5 (v := ?_) rfl (by kernel_rfl) (fun _ _ _ h => h) (by kernel_rfl) ?_ ?_; rotate_left; · (intro wC hC; obtain ⟨c1, c2, c3, c4⟩ := hC; go_simp <;> with_reducible rfl)
    refine wpC_step 6 rfl (by kernel_rfl) (by kernel_rfl) (by simp [go_sem, hc1, hc2, hz0]) (fun K hK => ?_)
    go_simp
    try (refine hK _ _ ?_; clear hK K)
    refine wpC_step 7 rfl (by kernel_rfl) (by kernel_rfl) (by simp [go_sem, hc1, hc2, hz0]) (fun K hK => ?_)
    go_simp
    try (refine hK _ _ ?_; clear hK K)
    refine wpC_step 8 rfl (by kernel_rfl) (by kernel_rfl) (by simp [go_sem, hc1, hc2, hz0]) (fun K hK => ?_)
    go_simp
    try (refine hK _ _ ?_; clear hK K)
    refine wpC_done (by kernel_rfl) (by simp [go_sem, hc1, hc2, hz0]) ?_
    go_wp2
    refine bodyPost_ret (v := .tuple #[.agg #[.int .u64 h, .int .u64 l], .bool _, .nilIface]) (by simp [results, Try.results96, go_sem, hc1, hc2, hz, hz0]) rfl (hQ.out _ _ ⟨rfl, ?_⟩)
    exact bset (bset (bthen (bdrew (bmore (bthen (bmore (bmore (Below.refl _ _) _) _) hb1) _)) hb2) (by omega) _ _) (by omega) _ _

theorem tshr_no (k : Int) (hk : k < 0) (h1 l1 : Nat) (w : World) :
    Calls Try.prog 48 #[.agg #[.int .u64 h1, .int .u64 l1], .int .i64 k] w fun e w' => e = .returned (.tuple #[.agg #[.int .u64 0, .int .u64 0], .bool false, .iface 41 (.int .i64 1)]) ∧ Below w.heap.size w w' := by
  refine cps fun Q hQ => ?_
  go_enter Try.func48, Try.ntmps48
  go_wp2
  refine bodyPost_ret (v := .tuple #[.agg #[.int .u64 0, .int .u64 0], .bool false, .iface 41 (.int .i64 1)]) (by simp [results, Try.results48, go_sem]) rfl (hQ.out _ _ ⟨rfl, ?_⟩)
  exact bmore (bmore (Below.refl _ _) _) _
set_option maxHeartbeats 1000000 in
theorem tshr_any {a h1 l1 h l : Nat} {c : Bool} (k : Nat) (hk : k ≤ 9223372036854775807) (ha : Tw a h1 l1) (hs : Tw (a / 2 ^ k) h l) (hc : c = decide (a % 2 ^ k ≠ 0)) (w : World) :
    Calls Try.prog 48 #[.agg #[.int .u64 h1, .int .u64 l1], .int .i64 k] w fun e w' => e = .returned (.tuple #[.agg #[.int .u64 h, .int .u64 l], .bool c, .nilIface]) ∧ Below w.heap.size w w' := by
  refine cps fun Q hQ => ?_
  have k1 := fun w => down_any k hk ha hs w
  obtain ⟨T, hT⟩ : ∃ T, T = (a / 2 ^ k * 2 ^ k) % 340282366920938463463374607431768211456 := ⟨_, rfl⟩
  have hTlt : T < 340282366920938463463374607431768211456 := by rw [hT]; exact Nat.mod_lt _ (by decide)
  have hq : (!decide (T = a)) = decide (a % 2 ^ k ≠ 0) := by
    have h1 := Nat.div_add_mod a (2 ^ k)
    have h2 := ha.lt
    rw [Nat.mul_comm] at h1
    have h3 : T = a / 2 ^ k * 2 ^ k := by rw [hT, Nat.mod_eq_of_lt (by omega)]
    rw [← h3] at h1
    by_cases h0 : a % 2 ^ k = 0
    · have : T = a := by omega
      simp [this, h0]
    · have : T ≠ a := by omega
      simp [this, h0]
  obtain ⟨h3, l3, ht⟩ : ∃ h3 l3, Tw T h3 l3 := ⟨T / 18446744073709551616, T % 18446744073709551616, by omega, by omega, by omega⟩
  have hTT : Tw ((a / 2 ^ k * 2 ^ k) % 340282366920938463463374607431768211456) h3 l3 := hT ▸ ht
  have k2 := fun w => up_any k hk hs hTT w
  have hc2 : c = !(decide (h3 = h1) && decide (l3 = l1)) := by
    rw [hc, ← hq]
    by_cases hh : h3 = h1 ∧ l3 = l1
    · rw [hh.1, hh.2] at ht ⊢
      simp
      have := ht.eq.trans ha.eq.symm
      exact this
    · have : ¬ T = a := fun h => hh (by rw [h] at ht; exact ht.one ha)
      rw [decide_eq_false this]
      by_cases h5 : h3 = h1
      · have : l3 ≠ l1 := fun h6 => hh ⟨h5, h6⟩
        simp [this]
      · simp [h5]
  have hcase : (h1 = h3 ∧ l1 = l3 ∧ c = false) ∨ (h1 = h3 ∧ ¬ (l3 : Int) = l1 ∧ c = true) ∨ (¬ (h3 : Int) = h1 ∧ c = true) := by
    by_cases g1 : h3 = h1
    · by_cases g2 : l3 = l1
      · exact .inl ⟨g1.symm, g2.symm, by rw [hc2]; simp [g1, g2]⟩
      · exact .inr (.inl ⟨g1.symm, by omega, by rw [hc2]; simp [g2]⟩)
    · exact .inr (.inr ⟨by omega, by rw [hc2]; simp [g1]⟩)
  clear hc hc2 ht hs ha hq hTT hT hTlt
  rcases hcase with ⟨rfl, rfl, rfl⟩ | ⟨rfl, g2, rfl⟩ | ⟨g1, rfl⟩
  all_goals
    go_enter Try.func48, Try.ntmps48
    go_wp2_with (go_at_call 77; refine (k1 _).mono ?_; rintro e w1 ⟨rfl, hb1⟩; obtain ⟨hc1, hf1⟩ := bcell hb1; have hz : w.heap.size + 1 < w1.heap.size := by have := hb1.size; simp at this; omega)
    have hz0 : w.heap.size < w1.heap.size := by omega
    refine wpC_region (fun W => W.cell? ⟨w.heap.size, 0, none⟩ = some (.int .u64 h1) ∧ W.cell? ⟨w.heap.size, 1, none⟩ = some (.int .u64 l1) ∧ W.cell? ⟨w1.heap.size, 0, none⟩ = some (.int .u64 h) ∧ W.cell? ⟨w1.heap.size, 1, none⟩ = some (.int .u64 l)) (by kernel_rfl) ?_
    refine wpC_take 0 (v := ?_) rfl (by kernel_rfl) (fun _ _ _ h => h) (by kernel_rfl) ?_ ?_; rotate_left; · (intro wC hC; obtain ⟨c1, c2, c3, c4⟩ := hC; go_simp <;> with_reducible rfl)
    refine wpC_take 1 (v := ?_) rfl (by kernel_rfl) (fun _ _ _ h => h) (by kernel_rfl) ?_ ?_; rotate_left; · (intro wC hC; obtain ⟨c1, c2, c3, c4⟩ := hC; go_simp <;> with_reducible rfl)
    refine wpC_take 2 (v := ?_) rfl (by kernel_rfl) (fun _ _ _ h => h) (by kernel_rfl) ?_ ?_; rotate_left; · (intro wC hC; obtain ⟨c1, c2, c3, c4⟩ := hC; go_simp <;> with_reducible rfl)
    refine wpC_take 4 (v := ?_) rfl (by kernel_rfl) (fun _ _ _ h => h) (by kernel_rfl) ?_ ?_; rotate_left; · (intro wC hC; obtain ⟨c1, c2, c3, c4⟩ := hC; go_simp <;> with_reducible rfl)
    refine wpC_step 3 rfl (by kernel_rfl) (by kernel_rfl) (by simp [go_sem, hc1, hz0]) (fun K hK => ?_)
    go_simp
    go_wp2_with ((go_at_call 78; refine (k2 _).mono ?_; rintro e w2 ⟨rfl, hb2⟩; obtain ⟨hc2, hf2⟩ := bcell hb2; have hz2 : w1.heap.size < w2.heap.size := by have := hb2.size; simp at this; omega))
    try (refine hK _ _ ?_; clear hK K)
    refine wpC_take 5 (v := ?_) rfl (by kernel_rfl) (fun _ _ _ h => h) (by kernel_rfl) ?_ ?_; rotate_left; · (intro wC hC; obtain ⟨c1, c2, c3, c4⟩ := hC; go_simp <;> with_reducible rfl)
    refine wpC_step 6 rfl (by kernel_rfl) (by kernel_rfl) (by simp [go_sem, hc1, hc2, hz0]) (fun K hK => ?_)
    go_simp
    try (refine hK _ _ ?_; clear hK K)
    refine wpC_step 7 rfl (by kernel_rfl) (by kernel_rfl) (by simp [go_sem, hc1, hc2, hz0]) (fun K hK => ?_)
    go_simp
    try (refine hK _ _ ?_; clear hK K)
    refine wpC_step 8 rfl (by kernel_rfl) (by kernel_rfl) (by simp [go_sem, hc1, hc2, hz0]) (fun K hK => ?_)
    go_simp
    try (refine hK _ _ ?_; clear hK K)
    refine wpC_done (by kernel_rfl) (by simp [go_sem, hc1, hc2, hz0]) ?_
    go_wp2
    refine bodyPost_ret (v := .tuple #[.agg #[.int .u64 h, .int .u64 l], .bool _, .nilIface]) (by simp [results, Try.results48, go_sem, hc1, hc2, hz, hz0]) rfl (hQ.out _ _ ⟨rfl, ?_⟩)
    exact bset (bset (bthen (bdrew (bmore (bthen (bmore (bmore (Below.refl _ _) _) _) hb1) _)) hb2) (by omega) _ _) (by omega) _ _
end Go.Proofs.Ytllahgcifichbaa

namespace Go.Proofs.Ytllahgcifichbaa
open Go.ChangeShapes Go.WideShapes Go.ChangeAt Go.RowKit
set_option linter.unusedVariables false
set_option maxRecDepth 100000

/-- what the lowest k digits are -/
def lo (a k : Nat) : Nat := val (low a k)
theorem lo_zero (a : Nat) : lo a 0 = 0 := rfl
theorem lo_succ (a k : Nat) : lo a (k + 1) = lo a k + 16777216 ^ k * (top a k % 16777216) := by
  unfold lo; rw [low_snoc, val_append, low_length]; simp [val]
theorem lo_all (a : Nat) : lo a (dlen a) = a := by unfold lo; rw [low_dlen, val_dig]
theorem val_set (l : List Nat) (j d : Nat) (h : j < l.length) : val (l.set j d) + 16777216 ^ j * l.getD j 0 = val l + 16777216 ^ j * d := by
  induction l generalizing j with
  | nil => simp at h
  | cons x l ih =>
    cases j with
    | zero => simp [val_cons]; omega
    | succ j =>
      have := ih j (by simpa using h)
      simp only [List.set_cons_succ, val_cons, List.getD_cons_succ, Nat.pow_succ]
      have e1 : 16777216 ^ j * 16777216 * l.getD j 0 = 16777216 * (16777216 ^ j * l.getD j 0) := by rw [Nat.mul_comm (16777216 ^ j) 16777216, Nat.mul_assoc]
      have e2 : 16777216 ^ j * 16777216 * d = 16777216 * (16777216 ^ j * d) := by rw [Nat.mul_comm (16777216 ^ j) 16777216, Nat.mul_assoc]
      rw [e1, e2]; omega
theorem val_zeros (n : Nat) : val (List.replicate n 0) = 0 := by
  induction n with
  | zero => rfl
  | succ n ih => rw [List.replicate_succ, val_cons, ih]
theorem getD_set (l : List Nat) (j d i : Nat) (h : j < l.length) : (l.set j d).getD i 0 = if j = i then d else l.getD i 0 := by
  rw [List.getD_eq_getElem?_getD, List.getElem?_set]
  by_cases e : j = i
  · subst e; simp [h]
  · simp [e]
theorem mul_step {V V' O c t P p R : Nat} (h1 : V + P * c = R) (h2 : V' + P * O = V + P * (t % 16777216)) (ht : t = O + p + c) : V' + P * 16777216 * (t / 16777216) = R + P * p := by
  have e1 : P * t = P * 16777216 * (t / 16777216) + P * (t % 16777216) := by
    conv => lhs; rw [← Nat.div_add_mod t 16777216]
    rw [Nat.mul_add, Nat.mul_assoc]
  have e2 : P * t = P * O + P * p + P * c := by rw [ht, Nat.mul_add, Nat.mul_add]
  omega
/-- the row of a product under way -/
structure MulAt (a b i k c : Nat) (O : List Nat) : Prop where
  len : O.length = dlen a + dlen b
  digs : ∀ d ∈ O, d < 16777216
  sum : val O + 16777216 ^ (i + k) * c = lo a i * b + 16777216 ^ i * ((top a i % 16777216) * lo b k)
  up : ∀ j, i + dlen b ≤ j → O.getD j 0 = 0
theorem MulAt.start (a b : Nat) : MulAt a b 0 0 0 (List.replicate (dlen a + dlen b) 0) :=
  ⟨by simp, by simp, by rw [val_zeros, lo_zero, lo_zero]; simp, fun j _ => by rw [List.getD_eq_getElem?_getD, List.getElem?_replicate]; split <;> rfl⟩
theorem MulAt.step {a b i k c x t : Nat} {O : List Nat} (h : MulAt a b i k c O) (hi : i < dlen a) (hk : k < dlen b) (hx : x = O.getD (i + k) 0) (ht : t = x + (top a i % 16777216) * (top b k % 16777216) + c) :
    MulAt a b i (k + 1) (t / 16777216) (O.set (i + k) (t % 16777216)) := by
  have hl := h.len
  refine ⟨by simp [hl], ?_, ?_, ?_⟩
  · intro d hd
    rcases List.mem_or_eq_of_mem_set hd with h1 | h1
    · exact h.digs d h1
    · omega
  · have h2 := val_set O (i + k) (t % 16777216) (by omega)
    rw [← hx] at h2
    have h3 := mul_step h.sum h2 ht
    rw [show i + (k + 1) = (i + k) + 1 by omega, Nat.pow_succ, h3, lo_succ, Nat.mul_add, Nat.mul_add, Nat.add_assoc, Nat.pow_add, Nat.mul_assoc, Nat.mul_left_comm (top a i % 16777216)]
  · intro j hj
    rw [getD_set _ _ _ _ (by omega), if_neg (by omega)]
    exact h.up j hj
theorem MulAt.next {a b i c : Nat} {O : List Nat} (h : MulAt a b i (dlen b) c O) (hi : i < dlen a) (hc : c < 16777216) : MulAt a b (i + 1) 0 0 (O.set (i + dlen b) c) := by
  have hl := h.len
  refine ⟨by simp [hl], ?_, ?_, ?_⟩
  · intro d hd
    rcases List.mem_or_eq_of_mem_set hd with h1 | h1
    · exact h.digs d h1
    · omega
  · have h2 := val_set O (i + dlen b) c (by omega)
    rw [h.up _ (Nat.le_refl _), Nat.mul_zero, Nat.add_zero, h.sum, lo_all] at h2
    rw [h2, lo_zero, lo_succ, Nat.mul_zero, Nat.mul_zero, Nat.mul_zero, Nat.add_zero, Nat.add_zero, Nat.add_mul, Nat.mul_assoc]
  · intro j hj
    rw [getD_set _ _ _ _ (by omega), if_neg (by omega)]
    exact h.up j (by omega)
theorem MulAt.done {a b : Nat} {O : List Nat} (h : MulAt a b (dlen a) 0 0 O) : ∃ z, O = dig (a * b) ++ List.replicate z 0 := by
  have hs := h.sum
  rw [lo_zero, lo_all, Nat.mul_zero, Nat.mul_zero, Nat.mul_zero, Nat.add_zero, Nat.add_zero] at hs
  have hv := val_low O h.digs
  have hlt := val_lt O h.digs
  rw [hs] at hv hlt
  exact ⟨_, by rw [← low_ge (dlen_le_of_lt hlt), hv]⟩

end Go.Proofs.Ytllahgcifichbaa

namespace Go.Proofs.Ytllahgcifichbaa
set_option maxRecDepth 100000
open Go.ChangeShapes Go.WideShapes Go.ChangeAt Go.RowKit
set_option linter.unusedVariables false

theorem Row.alloc {w : World} {v : Value} {l : List Nat} (h : Row w v l) (o : Obj) : Row (w.alloc o) v l := h.below (bmore (Below.refl _ _) _)
theorem dlen_small {n : Nat} (h : n < 22300745198530623141535718272648361505980416) : dlen n ≤ 6 := dlen_le_of_lt (by rw [show (16777216 : Nat) ^ 6 = 22300745198530623141535718272648361505980416 by decide]; exact h)

/-- a one-digit row laid out -/
theorem rof_any {n h l : Nat} (hn : Tw n h l) (w : World) :
    Calls Try.prog 28 #[.agg #[.int .u64 h, .int .u64 l]] w fun e w' => ∃ v, e = .returned v ∧ Row w' v (dig n) ∧ Below w.heap.size w w' := by
  refine cps fun Q hQ => ?_
  obtain ⟨en, hh, hl⟩ := hn
  have d1 : dlen h ≤ 1099511627776 := Nat.le_trans (dlen_small (by omega)) (by decide)
  have d2 : dlen (h * 2 ^ 64 + l) ≤ 1099511627776 := Nat.le_trans (dlen_small (by omega)) (by decide)
  have en2 : n = h * 2 ^ 64 + l := by omega
  have HN : Hid (n = h * 2 ^ 64 + l) := en2
  rw [en2] at hQ
  clear en en2
  have k1 := of_any h (by omega)
  have k2 := of_any l (by omega)
  have k3 := fun v w hr => nshl_any v h 64 (by decide) d1 w hr
  have k4 := fun va vb w ha hb => nadd_any va vb (h * 2 ^ 64) l d2 w ha hb
  generalize h * 2 ^ 64 = hs at *
  clear d1 d2
  go_enter Try.func28, Try.ntmps28
  go_wp2_with (first
    | (go_at_call_of 54 h; refine (k1 _).mono ?_; rintro e w1 ⟨v1, rfl, hr1, hb1⟩)
    | (go_at_call 53; refine (k3 _ _ hr1).mono ?_; rintro e w2 ⟨v2, rfl, hr2, hb2⟩; have hb12 := bthen hb1 hb2; obtain ⟨hc, hf⟩ := bcell hb12; have hz : w.heap.size < w2.heap.size := by have := hb12.size; simp at this; omega)
    | (go_at_call_of 54 l; refine (k2 _).mono ?_; rintro e w3 ⟨v3, rfl, hr3, hb3⟩)
    | (go_at_call 55; refine (k4 _ _ _ (hr2.below hb3) hr3).mono ?_; rintro e w4 ⟨v4, rfl, hr4, hb4⟩))
  exact hQ.out _ _ ⟨_, rfl, hr4, bthen (bthen (bthen (bmore (Below.refl _ _) _) hb12) hb3) hb4⟩

theorem cmpN_ge {x y : Nat} : decide (y ≤ x) = decide (0 ≤ cmpN x y) := by
  refine decide_eq_decide.2 ?_
  rcases Nat.lt_trichotomy x y with h | h | h
  · rw [cmpN_lt h]; omega
  · subst h; rw [cmpN_eq]; omega
  · rw [cmpN_gt h]; omega
theorem cmpN_less {x y : Nat} : decide (x < y) = decide (cmpN x y < 0) := by
  refine decide_eq_decide.2 ?_
  rcases Nat.lt_trichotomy x y with h | h | h
  · rw [cmpN_lt h]; omega
  · subst h; rw [cmpN_eq]; omega
  · rw [cmpN_gt h]; omega
theorem dlen_ok {n : Nat} (h : n < 22300745198530623141535718272648361505980416) : dlen n ≤ 1099511627776 := Nat.le_trans (dlen_small h) (by decide)

end Go.Proofs.Ytllahgcifichbaa

namespace Go.Proofs.Ytllahgcifichbaa
set_option maxRecDepth 100000
open Go.ChangeShapes Go.WideShapes Go.ChangeAt Go.RowKit
set_option linter.unusedVariables false

/-! ### shifts -/
theorem clamp_shl (a k : Nat) (ha : a < 340282366920938463463374607431768211456) : (a * 2 ^ k) % 340282366920938463463374607431768211456 = (a * 2 ^ (min k 128)) % 340282366920938463463374607431768211456 ∧
    decide (340282366920938463463374607431768211456 ≤ a * 2 ^ k) = decide (340282366920938463463374607431768211456 ≤ a * 2 ^ (min k 128)) := by
  have h128 : (340282366920938463463374607431768211456 : Nat) = 2 ^ 128 := by decide
  by_cases h : k ≤ 128
  · rw [Nat.min_eq_left h]; exact ⟨rfl, rfl⟩
  · rw [Nat.min_eq_right (by omega)]
    have e : 2 ^ k = 2 ^ (k - 128) * 2 ^ 128 := by rw [← Nat.pow_add]; congr 1; omega
    rw [e, ← Nat.mul_assoc, ← h128]
    have hp : 0 < 2 ^ (k - 128) := Nat.pow_pos (by decide)
    have hX : 0 < a * 2 ^ (k - 128) ↔ 0 < a := ⟨fun h => Nat.pos_of_mul_pos_right h, fun h => Nat.mul_pos h hp⟩
    generalize a * 2 ^ (k - 128) = X at *
    clear e hp
    refine ⟨by omega, decide_eq_decide.2 (by omega)⟩
theorem clamp_shr (a k : Nat) (ha : a < 340282366920938463463374607431768211456) : a / 2 ^ k = a / 2 ^ (min k 128) ∧ decide (a % 2 ^ k ≠ 0) = decide (a % 2 ^ (min k 128) ≠ 0) := by
  by_cases h : k ≤ 128
  · rw [Nat.min_eq_left h]; exact ⟨rfl, rfl⟩
  · rw [Nat.min_eq_right (by omega)]
    have h1 : a < 2 ^ 128 := ha
    have h2 : 2 ^ 128 ≤ 2 ^ k := Nat.pow_le_pow_right (by decide) (by omega)
    have h3 : a < 2 ^ k := by omega
    rw [Nat.div_eq_of_lt h1, Nat.div_eq_of_lt h3, Nat.mod_eq_of_lt h1, Nat.mod_eq_of_lt h3]
    exact ⟨rfl, rfl⟩
theorem shl_dlen (a k : Nat) (ha : a < 340282366920938463463374607431768211456) (hk : k ≤ 128) : dlen (a * 2 ^ k) ≤ 1099511627776 := by
  refine Nat.le_trans (dlen_le_of_lt (k := 12) ?_) (by decide)
  have h1 : 2 ^ k ≤ 2 ^ 128 := Nat.pow_le_pow_right (by decide) hk
  exact Nat.lt_of_lt_of_le (Nat.mul_lt_mul_of_lt_of_le ha h1 (Nat.pow_pos (by decide))) (by decide)

end Go.Proofs.Ytllahgcifichbaa

namespace Go.Proofs.Ytllahgcifichbaa
set_option maxRecDepth 100000
open Go.ChangeShapes Go.WideShapes Go.ChangeAt Go.RowKit
set_option linter.unusedVariables false

theorem tnorm_zero (w : World) :
    Calls Try.prog 50 #[.agg #[.int .u64 0, .int .u64 0]] w fun e w' => e = .returned (.tuple #[.agg #[.int .u64 0, .int .u64 0], .int .i64 0]) ∧ Below w.heap.size w w' := by
  refine cps fun Q hQ => ?_
  go_enter Try.func50, Try.ntmps50
  go_wp2
  refine bodyPost_ret (v := .tuple #[.agg #[.int .u64 0, .int .u64 0], .int .i64 0]) (by simp [results, Try.results50, go_sem]) rfl (hQ.out _ _ ⟨rfl, ?_⟩)
  exact bmore (bmore (Below.refl _ _) _) _
set_option maxHeartbeats 1000000 in
theorem tnorm_any {a h1 l1 h l k : Nat} (ha : Tw a h1 l1) (h0 : a ≠ 0) (hk : k + blen a = 128) (hs : Tw ((a * 2 ^ k) % 340282366920938463463374607431768211456) h l) (w : World) :
    Calls Try.prog 50 #[.agg #[.int .u64 h1, .int .u64 l1]] w fun e w' => e = .returned (.tuple #[.agg #[.int .u64 h, .int .u64 l], .int .i64 k]) ∧ Below w.heap.size w w' := by
  refine cps fun Q hQ => ?_
  have k1 := fun w => tlen_any ha w
  have k2 := fun w => up_any k (by omega) ha hs w
  have hne : (¬ (h1 : Int) = 0) ∨ (h1 = 0 ∧ ¬ (l1 : Int) = 0) := by have := ha.eq; omega
  clear ha hs h0
  generalize blen a = L at *
  have hkk : (128 : Int) - L = k := by omega
  have hL : L ≤ 128 := by omega
  clear hk
  rcases hne with hne | ⟨rfl, hne⟩
  all_goals
    go_enter Try.func50, Try.ntmps50
    go_wp2_with (first
      | (go_at_call 81; refine (k1 _).mono ?_; rintro e w1 ⟨rfl, hb1⟩; obtain ⟨hc1, hf1⟩ := bcell hb1)
      | (go_at_call 78; refine (k2 _).mono ?_; rintro e w2 ⟨rfl, hb2⟩; have hb12 := bthen hb1 hb2; obtain ⟨hc2, hf2⟩ := bcell hb12))
    refine bodyPost_ret (v := .tuple #[.agg #[.int .u64 h, .int .u64 l], .int .i64 k]) (by simp [results, Try.results50, go_sem, hc2]) rfl (hQ.out _ _ ⟨rfl, ?_⟩)
    exact bset (bset (bthen (bmore (bmore (Below.refl _ _) _) _) hb12) (by omega) _ _) (by omega) _ _
end Go.Proofs.Ytllahgcifichbaa

namespace Go.Proofs.Ytllahgcifichbaa
set_option maxRecDepth 100000
open Go.ChangeShapes Go.WideShapes Go.ChangeAt Go.RowKit
set_option linter.unusedVariables false

set_option maxHeartbeats 2000000 in
theorem tcmp_any {a b h1 l1 h2 l2 : Nat} (ha : Tw a h1 l1) (hb : Tw b h2 l2) (w : World) :
    Calls Try.prog 79 #[.agg #[.int .u64 h1, .int .u64 l1], .agg #[.int .u64 h2, .int .u64 l2]] w fun e w' => e = .returned (.int .i64 (cmpN a b)) ∧ Below w.heap.size w w' := by
  refine cps fun Q hQ => ?_
  rw [← cmp_words ha hb] at hQ
  clear ha hb
  obtain ⟨x, hx⟩ : ∃ x, x = cmpN h1 h2 := ⟨_, rfl⟩
  obtain ⟨y, hy⟩ : ∃ x, x = cmpN l1 l2 := ⟨_, rfl⟩
  have r1 := compare_any h1 h2
  have r2 := compare_any l1 l2
  rw [← hx] at r1 hQ
  rw [← hy] at r2 hQ
  obtain ⟨z, hz⟩ : ∃ z, z = if x = 0 then y else x := ⟨_, rfl⟩
  rw [← hz] at hQ
  have HZ : Hid (z = if x = 0 then y else x) := hz
  clear hx hy hz
  go_enter Try.func79, Try.ntmps79
  go_wp2
  refine wpC_region (fun W => W.cell? ⟨w.heap.size, 0, none⟩ = some (.int .u64 h1) ∧ W.cell? ⟨w.heap.size, 1, none⟩ = some (.int .u64 l1) ∧ W.cell? ⟨w.heap.size + 1, 0, none⟩ = some (.int .u64 h2) ∧ W.cell? ⟨w.heap.size + 1, 1, none⟩ = some (.int .u64 l2)) (by kernel_rfl) ?_
  refine wpC_take 0 (v := ?_) rfl (by kernel_rfl) (fun _ _ _ h => h) (by kernel_rfl) ?_ ?_; rotate_left; · (intro wC hC; obtain ⟨c1, c2, c3, c4⟩ := hC; go_simp <;> with_reducible rfl)
  refine wpC_take 1 (v := ?_) rfl (by kernel_rfl) (fun _ _ _ h => h) (by kernel_rfl) ?_ ?_; rotate_left; · (intro wC hC; obtain ⟨c1, c2, c3, c4⟩ := hC; go_simp <;> with_reducible rfl)
  refine wpC_take 2 (v := ?_) rfl (by kernel_rfl) (fun _ _ _ h => h) (by kernel_rfl) ?_ ?_; rotate_left; · (intro wC hC; obtain ⟨c1, c2, c3, c4⟩ := hC; go_simp <;> with_reducible rfl)
  refine wpC_take 3 (v := ?_) rfl (by kernel_rfl) (fun _ _ _ h => h) (by kernel_rfl) ?_ ?_; rotate_left; · (intro wC hC; obtain ⟨c1, c2, c3, c4⟩ := hC; go_simp <;> with_reducible rfl)
  refine wpC_take 5 (v := ?_) rfl (by kernel_rfl) (fun _ _ _ h => h) (by kernel_rfl) ?_ ?_; rotate_left; · (intro wC hC; obtain ⟨c1, c2, c3, c4⟩ := hC; go_simp <;> with_reducible rfl)
  refine wpC_take 6 (v := ?_) rfl (by kernel_rfl) (fun _ _ _ h => h) (by kernel_rfl) ?_ ?_; rotate_left; · (intro wC hC; obtain ⟨c1, c2, c3, c4⟩ := hC; go_simp <;> with_reducible rfl)
  refine wpC_take 7 (v := ?_) rfl (by kernel_rfl) (fun _ _ _ h => h) (by kernel_rfl) ?_ ?_; rotate_left; · (intro wC hC; obtain ⟨c1, c2, c3, c4⟩ := hC; go_simp <;> with_reducible rfl)
  refine wpC_take 8 (v := ?_) rfl (by kernel_rfl) (fun _ _ _ h => h) (by kernel_rfl) ?_ ?_; rotate_left; · (intro wC hC; obtain ⟨c1, c2, c3, c4⟩ := hC; go_simp <;> with_reducible rfl)
  refine wpC_step 4 rfl (by kernel_rfl) (by kernel_rfl) (by simp [go_sem]) (fun K hK => ?_)
  go_simp
  go_wp2_with ((go_at_call_of 103 h1; refine (r1 _).mono ?_; rintro e w' ⟨rfl, hw⟩; rw [hw]; clear hw w'))
  try (refine hK _ _ ?_; clear hK K)
  refine wpC_step 9 rfl (by kernel_rfl) (by kernel_rfl) (by simp [go_sem]) (fun K hK => ?_)
  go_simp
  go_wp2_with ((go_at_call_of 103 l1; refine (r2 _).mono ?_; rintro e w' ⟨rfl, hw⟩; rw [hw]; clear hw w'))
  try (refine hK _ _ ?_; clear hK K)
  refine wpC_step 10 rfl (by kernel_rfl) (by kernel_rfl) (by simp [go_sem]) (fun K hK => ?_)
  go_simp
  try (refine hK _ _ ?_; clear hK K)
  refine wpC_step 11 rfl (by kernel_rfl) (by kernel_rfl) (by simp [go_sem]) (fun K hK => ?_)
  go_simp
  go_wp2_with ((go_at_call 102; refine (or_any' x y z HZ.out _ _ (drew_at _ _ _ _ 0 (by simp)) (drew_at _ _ _ _ 1 (by simp))).mono ?_; rintro e w' ⟨rfl, hw⟩; rw [hw]; clear hw w'))
  try (refine hK _ _ ?_; clear hK K)
  refine wpC_step 12 rfl (by kernel_rfl) (by kernel_rfl) (by simp [go_sem]) (fun K hK => ?_)
  go_simp
  try (refine hK _ _ ?_; clear hK K)
  refine wpC_done (by kernel_rfl) (by simp [go_sem]) ?_
  go_wp2
  refine hQ.out _ _ ⟨rfl, ?_⟩
  exact (bmore (bmore (bmore (Below.refl _ _) _) _) _).drew
end Go.Proofs.Ytllahgcifichbaa

namespace Go.Proofs.Ytllahgcifichbaa
open Go.ChangeShapes Go.WideShapes Go.ChangeAt Go.RowKit
set_option linter.unusedVariables false
set_option linter.unusedSimpArgs false
set_option maxRecDepth 100000

/-! ### sound, row, compare, tail -/
def soundF (k : Int) (neg : Bool) (s : Int) (hi lo : Nat) (rest : Bool) (far : Int) : Bool :=
  if k = 0 ∨ k = 2 then decide (neg = false ∧ s = 0 ∧ hi = 0 ∧ lo = 0 ∧ rest = false) else decide (k = 1 ∧ 9223372036854775808 ≤ hi ∧ -far ≤ s ∧ s ≤ far)
theorem soundF_X (k : Int) (neg : Bool) (s : Int) (hi lo : Nat) (rest : Bool) : soundF k neg s hi lo rest 1099511627776 = soundX k neg s hi lo rest := rfl
theorem soundF_N (k : Int) (neg : Bool) (s : Int) (f : Nat) : soundF k neg s f 0 false 1073741824 = soundN k neg s f := by unfold soundF soundN; simp
set_option maxHeartbeats 1000000 in
theorem rsound_any (k : Int) (neg : Bool) (s : Int) (hi lo : Nat) (rest : Bool) (far : Int) (hh : hi < 2 ^ 64) (hf : 0 ≤ far ∧ far ≤ 1099511627776) (w : World) :
    Calls Try.prog 65 #[exV k neg s hi lo rest, .int .i64 far] w fun e w' => e = .returned (.bool (soundF k neg s hi lo rest far)) ∧ Below w.heap.size w w' := by
  have hsh : ((hi : Int) / 9223372036854775808 == 1) = decide (9223372036854775808 ≤ hi) := by
    by_cases h : 9223372036854775808 ≤ hi
    · rw [decide_eq_true h]; exact beq_iff_eq.2 (by omega)
    · rw [decide_eq_false h]; exact beq_eq_false_iff_ne.2 (by omega)
  have hwr : IntKind.i64.wrap (-far) = -far := wrapI (by omega)
  clear hf
  unfold exV soundF
  refine cps fun Q hQ => ?_
  by_cases h0 : k = 0
  · subst h0
    go_enter Try.func65, Try.ntmps65
    go_wp2
    all_goals exact hQ.out _ _ ⟨ret_b (by simp_all), cmore (Below.refl _ _) _⟩
  · by_cases h2 : k = 2
    · subst h2
      go_enter Try.func65, Try.ntmps65
      go_wp2
      all_goals exact hQ.out _ _ ⟨ret_b (by simp_all), cmore (Below.refl _ _) _⟩
    · by_cases h1 : k = 1
      · subst h1
        go_enter Try.func65, Try.ntmps65
        go_wp2
        all_goals exact hQ.out _ _ ⟨ret_b (by simp_all <;> omega), cmore (Below.refl _ _) _⟩
      · have d0 : (k == 0) = false := beq_eq_false_iff_ne.2 h0
        have d1 : (k == 1) = false := beq_eq_false_iff_ne.2 h1
        have d2 : (k == 2) = false := beq_eq_false_iff_ne.2 h2
        have HN : Hid (¬ k = 0 ∧ ¬ k = 1 ∧ ¬ k = 2) := ⟨h0, h1, h2⟩
        clear h0 h1 h2
        go_enter Try.func65, Try.ntmps65
        go_wp2
        all_goals exact hQ.out _ _ ⟨ret_b (by have := HN.out; simp_all), cmore (Below.refl _ _) _⟩
set_option maxHeartbeats 1000000 in
theorem rrow_any (k : Int) (h1 : -200 ≤ k) (h2 : k ≤ 61) (w : World) :
    Calls Try.prog 94 #[.int .i64 k] w fun e w' => e = .returned (.tuple #[.int .u64 (numOf (headK k) : Nat), .int .i64 ((headK k).length : Nat)]) ∧ w' = w := by
  obtain ⟨a, b⟩ := headK_num k
  rw [a, b]
  clear a b
  refine cps fun Q hQ => ?_
  by_cases h : 0 ≤ k
  · rw [if_pos h, if_pos h] at hQ
    obtain ⟨d, rfl⟩ := Int.eq_ofNat_of_zero_le h
    rw [Int.toNat_natCast] at hQ
    obtain ⟨D, hD⟩ : ∃ D, D = d + 2 := ⟨_, rfl⟩
    rw [← hD] at hQ
    have e1 : IntKind.i64.wrap ((d : Int) + 2) = (D : Int) := by rw [wrapI (by omega)]; omega
    have e2 : IntKind.u64.wrap (IntKind.u64.wrap (2 ^ D) - 2) = ((2 ^ D - 2 : Nat) : Int) := by
      have c : ((2 : Int) ^ D) = ((2 ^ D : Nat) : Int) := by simp
      have p1 : 2 ^ D ≤ 2 ^ 63 := Nat.pow_le_pow_right (by decide) (by omega)
      have p2 : 2 ^ 2 ≤ 2 ^ D := Nat.pow_le_pow_right (by decide) (by omega)
      rw [c, wrapN, Nat.mod_eq_of_lt (by omega), IntKind.wrap_u64]
      generalize 2 ^ D = X at *
      omega
    have e3 : IntKind.u64.wrap (IntKind.u64.wrap (1 * 2 ^ D) - 2) = ((2 ^ D - 2 : Nat) : Int) := by rw [Int.one_mul]; exact e2
    generalize 2 ^ D - 2 = X at *
    have g2 : (0 : Int) ≤ (D : Int) := by omega
    have g3 : decide ((0 : Int) ≤ (d : Int)) = true := decide_eq_true (by omega)
    have gm : min D 64 = D := by omega
    clear hD h1 h2 h
    go_enter Try.func94, Try.ntmps94
    go_wp2
    exact hQ.out _ _ ⟨rfl, rfl⟩
  · rw [if_neg h, if_neg h] at hQ
    have e1 : IntKind.i64.wrap (1 - k) = (((1 - k).toNat : Nat) : Int) := by rw [wrapI (by omega)]; omega
    generalize (1 - k).toNat = X at *
    have g : decide (0 ≤ k) = false := decide_eq_false h
    go_enter Try.func94, Try.ntmps94
    go_wp2
    exact hQ.out _ _ ⟨rfl, rfl⟩
theorem rcompare_any {a h l : Nat} (rest : Bool) (ha : Tw a h l) (w : World) :
    Calls Try.prog 97 #[.agg #[.int .u64 h, .int .u64 l], .bool rest] w fun e w' => e = .returned (.int .i64 (cmpX a rest : Nat)) ∧ Below w.heap.size w w' := by
  have k1 := tcmp_any ha (b := 2 ^ 127) (h2 := 9223372036854775808) (l2 := 0) ⟨by decide, by decide, by decide⟩
  refine cps fun Q hQ => ?_
  unfold cmpX at hQ
  rcases Nat.lt_trichotomy a (2 ^ 127) with hc | hc | hc
  · rw [cmpN_lt hc] at k1
    rw [if_neg (by omega), if_neg (by omega)] at hQ
    by_cases h0 : a = 0
    · have hz : h = 0 ∧ l = 0 := by have := ha.eq; omega
      obtain ⟨rfl, rfl⟩ := hz
      subst h0
      clear ha hc
      cases rest
      all_goals
        go_enter Try.func97, Try.ntmps97
        go_wp2_with (go_at_call 79; refine (k1 _).mono ?_; rintro e w1 ⟨rfl, hb1⟩; obtain ⟨hc1, hf1⟩ := bcell hb1; have z1 : w.heap.size < w1.heap.size := (by have := hb1.size; simp at this; omega))
        exact hQ.out _ _ ⟨rfl, cthen (cmore (Below.refl _ _) _) hb1⟩
    · rw [if_neg (fun c => h0 c.1)] at hQ
      have hz : (¬ h = 0) ∨ (h = 0 ∧ ¬ l = 0) := by have := ha.eq; omega
      clear ha hc h0
      rcases hz with hz | ⟨rfl, hz⟩
      · have d1 : ((h : Int) == 0) = false := beq_eq_false_iff_ne.2 (by omega)
        clear hz
        go_enter Try.func97, Try.ntmps97
        go_wp2_with (go_at_call 79; refine (k1 _).mono ?_; rintro e w1 ⟨rfl, hb1⟩; obtain ⟨hc1, hf1⟩ := bcell hb1; have z1 : w.heap.size < w1.heap.size := (by have := hb1.size; simp at this; omega))
        exact hQ.out _ _ ⟨rfl, cthen (cmore (Below.refl _ _) _) hb1⟩
      · have d1 : ((l : Int) == 0) = false := beq_eq_false_iff_ne.2 (by omega)
        clear hz
        go_enter Try.func97, Try.ntmps97
        go_wp2_with (go_at_call 79; refine (k1 _).mono ?_; rintro e w1 ⟨rfl, hb1⟩; obtain ⟨hc1, hf1⟩ := bcell hb1; have z1 : w.heap.size < w1.heap.size := (by have := hb1.size; simp at this; omega))
        exact hQ.out _ _ ⟨rfl, cthen (cmore (Below.refl _ _) _) hb1⟩
  · subst hc
    rw [cmpN_eq] at k1
    rw [if_pos rfl] at hQ
    clear ha
    cases rest
    all_goals
      go_enter Try.func97, Try.ntmps97
      go_wp2_with (go_at_call 79; refine (k1 _).mono ?_; rintro e w1 ⟨rfl, hb1⟩)
      exact hQ.out _ _ ⟨rfl, cthen (cmore (Below.refl _ _) _) hb1⟩
  · rw [cmpN_gt hc] at k1
    rw [if_neg (by omega), if_pos hc] at hQ
    clear ha hc
    go_enter Try.func97, Try.ntmps97
    go_wp2_with (go_at_call 79; refine (k1 _).mono ?_; rintro e w1 ⟨rfl, hb1⟩)
    exact hQ.out _ _ ⟨rfl, cthen (cmore (Below.refl _ _) _) hb1⟩
end Go.Proofs.Ytllahgcifichbaa
