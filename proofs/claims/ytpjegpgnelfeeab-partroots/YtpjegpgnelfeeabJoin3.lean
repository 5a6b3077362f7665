import Derived.Test.YtpjegpgnelfeeabJoin2
import Derived.Test.YtpjegpgnelfeeabProg
import Derived.OwnWalk
import Derived.Lib.SmallJoins
import Derived.Shelf.Spec.BitsCarry
import Derived.Lib.Mul64
import Derived.Lib.BitFns
import Derived.Test.YtpjegpgnelfeeabRows
import Derived.Lib.Tables
import Derived.Deep.CutBlock
namespace Go.Proofs.Ytpjegpgnelfeeab
open Go.ChangeShapes Go.WideShapes Go.ChangeAt Go.RowKit
set_option linter.unusedVariables false
set_option maxRecDepth 100000

/-! ### rows of ints that are read -/
def enc (d : Nat) : Value := .int .i64 (d : Int)
/-- v is a slice of ints that reads as l in w -/
def Row (w : World) (v : Value) (l : List Nat) : Prop :=
  ∃ ao c, v = .slice ao l.length c ∧ c ≤ 9223372036854775807 ∧ l.length ≤ c ∧
    ((ao = none ∧ l = [] ∧ c = 0) ∨ ∃ b off, ao = some ⟨b, off, none⟩ ∧ b < w.heap.size ∧ ∀ j, j < l.length → w.cell? ⟨b, off + j, none⟩ = some (.int .i64 (l.getD j 0 : Nat)))
theorem Row.below {w w' : World} {v : Value} {l : List Nat} (h : Row w v l) (hb : Below w.heap.size w w') : Row w' v l := by
  obtain ⟨ao, c, rfl, hc, hl, h⟩ := h
  refine ⟨ao, c, rfl, hc, hl, ?_⟩
  rcases h with h | ⟨b, off, rfl, hlt, h⟩
  · exact .inl h
  · exact .inr ⟨b, off, rfl, Nat.lt_of_lt_of_le hlt hb.size, fun j hj => (hb.cell (p := ⟨b, off + j, none⟩) hlt).trans (h j hj)⟩
theorem row_nil (w : World) : Row w (.slice none 0 0) [] := ⟨none, 0, rfl, by decide, by decide, .inl ⟨rfl, rfl, rfl⟩⟩
theorem row_own {w : World} {base n : Nat} {e : TypeId} {v : Value} {l : List Nat} (h : w.ownsRow base e 1 v n (l.map enc)) : Row w v l := by
  obtain ⟨h1, h2⟩ := h
  rcases h2 with ⟨rfl, rfl⟩ | ⟨g, cap, cur, rfl, _, hg, hn, hcap, hsz, ht⟩
  · have : l = [] := by simpa using h1
    subst this; exact row_nil w
  · have hl : l.length = n := by simpa using h1
    subst hl
    unfold maxLen at hcap
    refine ⟨_, cap, rfl, by omega, hn, .inr ⟨g, 0, rfl, ?_, ?_⟩⟩
    · exact (Array.getElem?_eq_some_iff.1 hg).1
    · intro j hj
      have hc : cur[j]? = some (.int .i64 (l.getD j 0 : Nat)) := by
        have e1 : (cur.toList.take (l.length * 1))[j]? = (l.map enc)[j]? := by rw [ht]
        rw [List.getElem?_take_of_lt (by omega)] at e1
        simpa [hj, enc] using e1
      simp [World.cell?, hg, hc]
/-- how a row goes into a walk -/
theorem Row.out {w : World} {v : Value} {l : List Nat} (h : Row w v l) : ∃ ao c, v = .slice ao l.length c ∧ c ≤ 9223372036854775807 ∧ l.length ≤ c ∧
    (l.length = 0 ∨ ∃ b off, ao = some ⟨b, off, none⟩ ∧ ∀ j, j < l.length → w.cell? ⟨b, off + j, none⟩ = some (.int .i64 (l.getD j 0 : Nat))) := by
  obtain ⟨ao, c, rfl, hc, hl, h⟩ := h
  refine ⟨ao, c, rfl, hc, hl, ?_⟩
  rcases h with ⟨_, rfl, _⟩ | ⟨b, off, rfl, _, h⟩
  · exact .inl rfl
  · exact .inr ⟨b, off, rfl, h⟩

theorem infoInt : (Try.prog.info? 3).map (fun i => (i.zero, i.size, i.bytes)) = some (some (.int .i64 0), 1, 8) := by kernel_rfl

theorem digit_any (v : Value) (l : List Nat) (i : Nat) (hi : i < 4611686018427387904) (w : World) (hr : Row w v l) :
    Calls Try.prog 52 #[v, .int .i64 i] w fun e w' => e = .returned (.int .i64 (l.getD i 0 : Nat)) ∧ w' = w := by
  obtain ⟨ao, c, rfl, hc, hl, h⟩ := hr.out
  clear hr
  refine cps fun Q hQ => ?_
  by_cases hlt : i < l.length
  · rcases h with h | ⟨b, off, rfl, h⟩
    · omega
    have hcell := h i hlt
    generalize l.getD i 0 = d at *
    generalize l.length = n at *
    go_enter Try.func52, Try.ntmps52
    go_wp2
    exact hQ.out _ _ ⟨rfl, rfl⟩
  · have hz : l.getD i 0 = 0 := by rw [List.getD_eq_getElem?_getD, List.getElem?_eq_none (by omega)]; rfl
    rw [hz] at hQ
    generalize l.length = n at *
    go_enter Try.func52, Try.ntmps52
    go_wp2
    exact hQ.out _ _ ⟨rfl, rfl⟩

theorem digit_dig (v : Value) (n i d : Nat) (hi : i < 4611686018427387904) (w : World) (hr : Row w v (dig n)) (hd : d = top n i % 16777216) :
    Calls Try.prog 52 #[v, .int .i64 i] w fun e w' => e = .returned (.int .i64 d) ∧ w' = w := by
  rw [hd, ← dig_get]; exact digit_any v _ i hi w hr
/-- a number's slice, as the walk wants it -/
theorem Row.num {w : World} {v : Value} {n : Nat} (h : Row w v (dig n)) : ∃ ao c, v = .slice ao (dlen n) c ∧ c ≤ 9223372036854775807 ∧ dlen n ≤ c := by
  obtain ⟨ao, c, rfl, hc, hl, _⟩ := h
  exact ⟨ao, c, rfl, hc, hl⟩

set_option maxHeartbeats 1000000 in
theorem of_any (x : Nat) (hx : x < 2 ^ 64) (w : World) :
    Calls Try.prog 46 #[.int .u64 x] w fun e w' => ∃ v, e = .returned v ∧ Row w' v (dig x) ∧ Below w.heap.size w w' := by
  refine cps fun Q hQ => ?_
  have hx : x ≤ 18446744073709551615 := by omega
  obtain ⟨i0, hi, hz0, hz1, hz2⟩ := info_parts infoInt
  have hd3 : dlen x ≤ 3 := dlen_le_of_lt (by omega)
  go_enter Try.func46, Try.ntmps46
  go_wp2
  go_loopw [0, 3] (fun a v wr => ∃ k V : Nat, k ≤ dlen x ∧ V = top x k ∧ V ≤ 18446744073709551615 ∧ a = .int .u64 V ∧ wr.ownsRow w.heap.size 3 1 v k ((low x k).map enc) ∧ Below w.heap.size w wr) (fun a _ _ => (intOf a).toNat)
  case atStart => exact ⟨0, x, Nat.zero_le _, rfl, hx, rfl, World.ownsRow_nil _ _ _ _, Below.refl _ _⟩
  case round =>
    obtain ⟨k, V, hk, hV, hb, rfl, hown, hbel⟩ := hrel
    have hp := top_pos_iff x k
    have HV : Hid (V = top x k) := hV
    rw [← hV] at hp
    clear hV
    by_cases h0 : 0 < V
    · have hk1 := hp.1 h0
      have HK : Hid (dlen x ≤ 3) := hd3
      have hsz := hbel.size
      clear hp hd3
      go_wp2_with (at_builtin; go_must (refine append1 rfl _ _ _ rfl w.heap.size 3 i0 (.int .i64 0) 8 Try.underlying60 hi hz0 hz1 hz2 rfl _ _ _ hown rfl rfl rfl (by have := HK.out; omega) (by decide) hsz ?_); intro v' w1 hown' hbel' _ _)
      go_roundw
      case rel => 
        refine ⟨k + 1, V / 16777216, by omega, ?_, by omega, by go_num, ?_, hbel.trans hbel'⟩
        · rw [HV.out]; rfl
        · rw [low_snoc, ← HV.out, List.map_append]; exact hown'
      case measure => simp [intOf]; omega
    · have hk1 : k = dlen x := by have := hp.2; omega
      subst hk1
      rw [low_dlen] at hown
      go_wp2
      exact hQ.out _ _ ⟨_, rfl, row_own hown, hbel⟩

/-- 'l[:n]' of a row -/
theorem Row.take {w : World} {ao : Option Addr} {c k : Nat} {l : List Nat} (h : Row w (.slice ao k c) l) (n : Nat) (hn : n ≤ l.length) : Row w (.slice ao n c) (l.take n) := by
  obtain ⟨ao', c', he, hc, hl, h⟩ := h
  injection he with e1 e2 e3
  subst e1 e2 e3
  have e : (l.take n).length = n := by rw [List.length_take]; omega
  refine ⟨ao, c, by rw [e], hc, by omega, ?_⟩
  rcases h with ⟨h1, h2, h3⟩ | ⟨b, off, h1, h2, h3⟩
  · exact .inl ⟨h1, by rw [h2]; simp, h3⟩
  · refine .inr ⟨b, off, h1, h2, fun j hj => ?_⟩
    rw [e] at hj
    rw [h3 j (by omega), List.getD_eq_getElem?_getD, List.getD_eq_getElem?_getD, List.getElem?_take_of_lt hj]

set_option maxHeartbeats 1000000 in
theorem cut_own (v : Value) (l : List Nat) (D z : Nat) (hD : l = dig D ++ List.replicate z 0) (w : World) (hr : Row w v l) :
    Calls Try.prog 47 #[v] w fun e w' => ∃ v', e = .returned v' ∧ Row w v' (dig D) ∧ w' = w ∧ v'.ownBlock = v.ownBlock := by
  have HT : Hid (l.take (dlen D) = dig D) := by rw [hD]; exact List.take_left' rfl
  have hlen : l.length = dlen D + z := by rw [hD]; simp [dlen]
  have hget : ∀ j, j < l.length → l.getD j 0 = (dig D).getD j 0 := by
    intro j hj
    rw [hD, List.getD_eq_getElem?_getD, List.getElem?_append]
    split
    · rw [List.getD_eq_getElem?_getD]
    · rename_i h
      rw [List.getElem?_replicate, List.getD_eq_getElem?_getD, List.getElem?_eq_none (by omega)]
      split <;> rfl
  have HR : Hid (Row w v l) := hr
  obtain ⟨ao, c, rfl, hc, hl, h⟩ := hr.out
  clear hr
  refine cps fun Q hQ => ?_
  have HG : Hid (∀ j, j < l.length → l.getD j 0 = (dig D).getD j 0) := hget
  clear hget hD
  have hle : dlen D ≤ l.length := by omega
  have HL : Hid (l.length = dlen D + z) := hlen
  clear hlen
  generalize hdD : dlen D = m at *
  have HM : Hid (dlen D = m) := hdD
  clear hdD
  go_enter Try.func47, Try.ntmps47
  go_wp2
  go_loop [3] (fun a => ∃ n : Nat, m ≤ n ∧ n ≤ l.length ∧ a = .int .i64 n) (fun a => (intOf a).toNat)
  case atStart => exact ⟨l.length, by omega, by omega, rfl⟩
  case round =>
    obtain ⟨n, hn1, hn2, rfl⟩ := hrel
    by_cases h0 : 0 < n
    · rcases h with h | ⟨b, off, rfl, h⟩
      · omega
      have hcell := h (n - 1) (by omega)
      have hg := HG.out (n - 1) (by omega)
      rw [hg] at hcell
      clear hg
      by_cases hlt : m < n
      · have hz : (dig D).getD (n - 1) 0 = 0 := by
          rw [dig_get, top_eq_zero (by have := HM.out; omega)]
        rw [hz] at hcell
        clear hz h
        go_wp2
        go_round
        case rel => exact ⟨n - 1, by omega, by omega, by go_num⟩
        case measure => simp [intOf]; omega
      · have hnm : n = m := by omega
        subst hnm
        have hne : (dig D).getD (n - 1) 0 ≠ 0 := by
          rw [dig_get]
          have := HM.out
          have hD0 : D ≠ 0 := by intro h; rw [h, dlen_zero] at this; omega
          have := (dig_last hD0).1
          rw [HM.out] at this
          exact this
        generalize (dig D).getD (n - 1) 0 = d at *
        clear h
        have hne' : 0 < d := by omega
        go_wp2
        have HT' := HR.out.take n (by omega)
        rw [HT.out] at HT'
        exact hQ.out _ _ ⟨_, rfl, HT', rfl, rfl⟩
    · have hn0 : n = 0 := by omega
      subst hn0
      go_wp2
      have HT' := HR.out.take 0 (by omega)
      have e0 : 0 = m := by omega
      rw [e0, HT.out] at HT'
      rw [e0]
      exact hQ.out _ _ ⟨_, rfl, HT', rfl, by cases ao <;> rfl⟩

theorem cut_any (v : Value) (l : List Nat) (D z : Nat) (hD : l = dig D ++ List.replicate z 0) (w : World) (hr : Row w v l) :
    Calls Try.prog 47 #[v] w fun e w' => ∃ v', e = .returned v' ∧ Row w v' (dig D) ∧ w' = w :=
  (cut_own v l D z hD w hr).mono fun _ _ ⟨v', h1, h2, h3, _⟩ => ⟨v', h1, h2, h3⟩

set_option maxHeartbeats 2000000 in
theorem nadd_any (va vb : Value) (a b : Nat) (hS : dlen (a + b) ≤ 1099511627776) (w : World) (ha : Row w va (dig a)) (hb : Row w vb (dig b)) :
    Calls Try.prog 38 #[va, vb] w fun e w' => ∃ v, e = .returned v ∧ Row w' v (dig (a + b)) ∧ Below w.heap.size w w' := by
  refine cps fun Q hQ => ?_
  have hla : dlen a ≤ dlen (a + b) := dlen_mono (by omega)
  have hlb : dlen b ≤ dlen (a + b) := dlen_mono (by omega)
  have HA : Hid (Row w va (dig a)) := ha
  have HB : Hid (Row w vb (dig b)) := hb
  obtain ⟨aa, ca, rfl, h1, h2⟩ := ha.num
  obtain ⟨ab, cb, rfl, h3, h4⟩ := hb.num
  clear ha hb
  obtain ⟨i0, hi, hz0, hz1, hz2⟩ := info_parts infoInt
  have HP : Hid (∀ n k, 0 < top n k ↔ k < dlen n) := top_pos_iff
  generalize hs : a + b = s at *
  have HS : Hid (a + b = s) := hs
  clear hs
  go_enter Try.func38, Try.ntmps38
  go_wp2
  go_loopw [5, 6, 7] (fun o cv iv wr => ∃ k A B C : Nat, k ≤ dlen s ∧ C ≤ 1 ∧ Hid (A = top a k) ∧ Hid (B = top b k) ∧ Hid (A + B + C = top s k) ∧ iv = .int .i64 k ∧ cv = .int .i64 C ∧ wr.ownsRow w.heap.size 3 1 o k ((low s k).map enc) ∧ Below w.heap.size w wr) (fun _ _ i _ => dlen s - (intOf i).toNat)
  case atStart => exact ⟨0, a, b, 0, Nat.zero_le _, by decide, rfl, rfl, HS.out, rfl, rfl, World.ownsRow_nil _ _ _ _, Below.refl _ _⟩
  case round =>
    obtain ⟨k, A, B, C, hk, hC, hA, hB, hT, rfl, rfl, hown, hbel⟩ := hrel
    have pa := HP.out a k
    have pb := HP.out b k
    have ps := HP.out s k
    rw [← hA.out] at pa
    rw [← hB.out] at pb
    rw [← hT.out] at ps
    have hsz := hbel.size
    by_cases hc : k < dlen a ∨ k < dlen b ∨ 0 < C
    · have hks : k < dlen s := ps.1 (by omega)
      have hra := HA.out.below hbel
      have hrb := HB.out.below hbel
      obtain ⟨da, hda⟩ : ∃ d, d = A % 16777216 := ⟨_, rfl⟩
      obtain ⟨db, hdb⟩ : ∃ d, d = B % 16777216 := ⟨_, rfl⟩
      have bda : da ≤ 16777215 := by omega
      have bdb : db ≤ 16777215 := by omega
      have Hda : Hid (da = A % 16777216) := hda
      have Hdb : Hid (db = B % 16777216) := hdb
      have h3 : k < dlen a ∨ (¬ k < dlen a ∧ k < dlen b) ∨ (¬ k < dlen a ∧ ¬ k < dlen b ∧ 0 < C) := by omega
      have HRA : Hid (Row wr _ _) := hra
      have HRB : Hid (Row wr _ _) := hrb
      clear hc pa pb ps hda hdb hra hrb
      rcases h3 with h3 | ⟨h3, h4⟩ | ⟨h3, h4, h5⟩
      all_goals
        go_wp2_with (first
          | (go_at_call_of 52 aa; refine (digit_dig _ a k da (by omega) _ HRA.out (by rw [Hda.out, hA.out])).mono ?_; rintro e w' ⟨rfl, rfl⟩)
          | (go_at_call_of 52 ab; refine (digit_dig _ b k db (by omega) _ HRB.out (by rw [Hdb.out, hB.out])).mono ?_; rintro e w' ⟨rfl, rfl⟩)
          | (at_builtin; refine append1 rfl _ _ _ rfl w.heap.size 3 i0 (.int .i64 0) 8 Try.underlying60 hi hz0 hz1 hz2 rfl _ _ _ hown rfl rfl rfl (by omega) (by decide) hsz ?_; intro v' w1 hown' hbel' _ _))
        go_roundw
        case rel =>
          refine ⟨k + 1, A / 16777216, B / 16777216, (da + db + C) / 16777216, by omega, by omega, ?_, ?_, ?_, by go_num, by go_num, ?_, hbel.trans hbel'⟩
          · show _ = _; rw [hA.out]; rfl
          · show _ = _; rw [hB.out]; rfl
          · show _ = _; rw [top_succ, ← hT.out]; have := Hda.out; have := Hdb.out; omega
          · rw [low_snoc, ← hT.out, List.map_append]
            have e : (((da : Int) + db + C) % 16777216) = (((A + B + C) % 16777216 : Nat) : Int) := by have := Hda.out; have := Hdb.out; omega
            rw [e] at hown'
            exact hown'
        case measure => simp [intOf]; omega
    · have hks : ¬ k < dlen s := fun h => by have := ps.2 h; omega
      have hk1 : k = dlen s := by omega
      have e : low s k = dig s := by rw [hk1, low_dlen]
      rw [e] at hown
      have h3 : ¬ k < dlen a := by omega
      have h4 : ¬ k < dlen b := by omega
      have h5 : ¬ 0 < C := by omega
      clear hk1 e pa pb ps hc
      go_wp2
      exact hQ.out _ _ ⟨_, rfl, row_own hown, hbel⟩
end Go.Proofs.Ytpjegpgnelfeeab

namespace Go.Proofs.Ytpjegpgnelfeeab
open Go.ChangeShapes Go.WideShapes Go.ChangeAt Go.RowKit
set_option linter.unusedVariables false
set_option maxRecDepth 100000

/-- how a number's slice goes into a walk that reads its elements -/
theorem Row.reads {w : World} {v : Value} {n : Nat} (h : Row w v (dig n)) : ∃ ao c, v = .slice ao (dlen n) c ∧ c ≤ 9223372036854775807 ∧ dlen n ≤ c ∧
    (dlen n = 0 ∨ ∃ b off, ao = some ⟨b, off, none⟩ ∧ b < w.heap.size ∧ ∀ j, j < dlen n → w.cell? ⟨b, off + j, none⟩ = some (.int .i64 (top n j % 16777216 : Nat))) := by
  obtain ⟨ao, c, rfl, hc, hl, h⟩ := h
  refine ⟨ao, c, rfl, hc, hl, ?_⟩
  rcases h with ⟨_, h, _⟩ | ⟨b, off, rfl, hb, h⟩
  · exact .inl (by unfold dlen; rw [h]; rfl)
  · exact .inr ⟨b, off, rfl, hb, fun j hj => by rw [h j hj, dig_get]⟩
theorem owns_drewN {w : World} {base n sz : Nat} {e : TypeId} {v : Value} {xs : List Value} (h : w.ownsRow base e sz v n xs) (q : Nat) : (w.drewN q).ownsRow base e sz v n xs := h

set_option maxHeartbeats 2000000 in
theorem nsub_any (va vb : Value) (a b : Nat) (hba : b ≤ a) (hS : dlen a ≤ 1099511627776) (w : World) (ha : Row w va (dig a)) (hb : Row w vb (dig b)) :
    Calls Try.prog 42 #[va, vb] w fun e w' => ∃ v, e = .returned v ∧ Row w' v (dig (a - b)) ∧ Below w.heap.size w w' := by
  refine cps fun Q hQ => ?_
  have hla : dlen (a - b) ≤ dlen a := dlen_mono (by omega)
  have HA : Hid (Row w va (dig a)) := ha
  have HB : Hid (Row w vb (dig b)) := hb
  obtain ⟨aa, ca, rfl, h1, h2, hr⟩ := ha.reads
  obtain ⟨ab, cb, rfl, h3, h4⟩ := hb.num
  clear ha hb
  obtain ⟨i0, hi, hz0, hz1, hz2⟩ := info_parts infoInt
  have HP : Hid (∀ n k, 0 < top n k ↔ k < dlen n) := top_pos_iff
  have HC : Hid (Row w (.slice aa (dlen a) ca) (dig a)) := HA
  generalize hs : a - b = s at *
  have HS : Hid (a = b + 0 + s) := show _ = _ by omega
  clear hs
  go_enter Try.func42, Try.ntmps42
  go_wp2
  go_loopw [5, 6, 7] (fun o cv iv wr => ∃ k A B C : Nat, k ≤ dlen a ∧ C ≤ 1 ∧ Hid (A = top a k) ∧ Hid (B = top b k) ∧ Hid (A = B + C + top s k) ∧ iv = .int .i64 k ∧ cv = .int .i64 C ∧ wr.ownsRow w.heap.size 3 1 o k ((low s k).map enc) ∧ Below w.heap.size w wr) (fun _ _ i _ => dlen a - (intOf i).toNat)
  case atStart => exact ⟨0, a, b, 0, Nat.zero_le _, by decide, rfl, rfl, HS.out, rfl, rfl, World.ownsRow_nil _ _ _ _, Below.refl _ _⟩
  case round =>
    obtain ⟨k, A, B, C, hk, hC, hA, hB, hT, rfl, rfl, hown, hbel⟩ := hrel
    have hsz := hbel.size
    by_cases hc : k < dlen a
    · have hrb := HB.out.below hbel
      obtain ⟨da, hda⟩ : ∃ d, d = A % 16777216 := ⟨_, rfl⟩
      obtain ⟨db, hdb⟩ : ∃ d, d = B % 16777216 := ⟨_, rfl⟩
      rcases hr with hr | ⟨b', off, rfl, hb', hr⟩
      · omega
      have hcell := (hbel.cell (p := ⟨b', off + k, none⟩) hb').trans (hr k hc)
      rw [← hA.out, ← hda] at hcell
      have bda : da ≤ 16777215 := by omega
      have bdb : db ≤ 16777215 := by omega
      have Hda : Hid (da = A % 16777216) := hda
      have Hdb : Hid (db = B % 16777216) := hdb
      have HRB : Hid (Row wr _ _) := hrb
      have Hown : Hid (wr.ownsRow _ _ _ _ _ _) := hown
      clear hda hdb hrb hr hown
      by_cases hneg : (da : Int) - db - C < 0
      all_goals
        go_wp2
        go_quiet ((go_at_call 52; exact Calls.quiet_of_same (digit_dig _ b k db (by omega) _ HRB.out (by rw [Hdb.out, hB.out]))))
        go_wp2_with (at_builtin; refine append1 rfl _ _ _ rfl w.heap.size 3 i0 (.int .i64 0) 8 Try.underlying60 hi hz0 hz1 hz2 rfl _ _ _ (owns_drewN Hown.out _) rfl rfl rfl (by omega) (by decide) hsz ?_; intro v' w1 hown' hbel' _ _)
        go_roundw
        case measure => simp [intOf]; omega
        case rel =>
          have e1 := Hda.out
          have e2 := Hdb.out
          have e3 := hT.out
          have e4 : top s (k + 1) = top s k / 16777216 := rfl
          have E : Hid ((low s (k + 1)).map enc = (low s k).map enc ++ [enc (top s k % 16777216)]) := by rw [low_snoc, List.map_append]; rfl
          first
            | (have e : (da : Int) - db - C + 16777216 = ((top s k % 16777216 : Nat) : Int) := by omega
               rw [e] at hown'
               refine ⟨k + 1, A / 16777216, B / 16777216, 1, by omega, by omega, ?_, ?_, ?_, by go_num, rfl, by rw [E.out]; exact hown', (below_drewN hbel _).trans hbel'⟩)
            | (have e : (da : Int) - db - C = ((top s k % 16777216 : Nat) : Int) := by omega
               rw [e] at hown'
               refine ⟨k + 1, A / 16777216, B / 16777216, 0, by omega, by omega, ?_, ?_, ?_, by go_num, rfl, by rw [E.out]; exact hown', (below_drewN hbel _).trans hbel'⟩)
          · show _ = _; rw [hA.out]; rfl
          · show _ = _; rw [hB.out]; rfl
          · show _ = _; omega
    · have hk1 : k = dlen a := by omega
      subst hk1
      rw [low_ge hla] at hown
      have hrw := row_own hown
      have HRW : Hid (Row wr _ _) := hrw
      clear hrw hown
      go_wp2_with (go_at_call 47; refine (cut_any _ _ s _ rfl _ HRW.out).mono ?_; rintro e w' ⟨v', rfl, hv, rfl⟩)
      exact hQ.out _ _ ⟨_, rfl, hv, hbel⟩

set_option maxHeartbeats 1000000 in
theorem two_any (k : Nat) (hk : k ≤ 24) (w : World) :
    Calls Try.prog 53 #[.int .i64 k] w fun e w' => e = .returned (.int .i64 (2 ^ k : Nat)) ∧ w' = w := by
  refine cps fun Q hQ => ?_
  go_enter Try.func53, Try.ntmps53
  go_wp2
  go_loop [3, 4] (fun n i => ∃ j V : Nat, j ≤ k ∧ Hid (V = 2 ^ j) ∧ V ≤ 16777216 ∧ i = .int .i64 j ∧ n = .int .i64 V) (fun _ i => k - (intOf i).toNat)
  case atStart => exact ⟨0, 1, Nat.zero_le _, rfl, by decide, rfl, rfl⟩
  case round =>
    obtain ⟨j, V, hj, hV, hb, rfl, rfl⟩ := hrel
    by_cases hlt : j < k
    · go_wp2
      go_round
      case rel =>
        have h1 : 2 ^ (j + 1) = 2 * V := by rw [hV.out, Nat.pow_succ, Nat.mul_comm]
        have h2 : 2 ^ (j + 1) ≤ 2 ^ 24 := Nat.pow_le_pow_right (by decide) (by omega)
        exact ⟨j + 1, 2 * V, by omega, h1.symm, by omega, by go_num, by go_num⟩
      case measure => simp [intOf]; omega
    · have e : j = k := by omega
      subst e
      go_wp2
      refine hQ.out _ _ ⟨?_, rfl⟩
      rw [hV.out]

theorem mul_part (A q : Nat) : A * q = 16777216 * (A / 16777216 * q) + A % 16777216 * q := by
  conv => lhs; rw [← Nat.div_add_mod A 16777216]
  rw [Nat.add_mul, Nat.mul_assoc]

set_option maxHeartbeats 2000000 in
theorem times_any (va : Value) (a q : Nat) (hq : q ≤ 16777216) (hS : dlen a ≤ 1099511627776) (w : World) (ha : Row w va (dig a)) :
    Calls Try.prog 48 #[va, .int .i64 q] w fun e w' => ∃ v, e = .returned v ∧ Row w' v (dig (a * q)) ∧ Below w.heap.size w w' := by
  refine cps fun Q hQ => ?_
  have hls : dlen (a * q) ≤ dlen a + 2 := by
    refine dlen_le_of_lt ?_
    have h1 := lt_of_dlen_le (n := a) (Nat.le_refl _)
    rw [Nat.pow_add]
    refine Nat.lt_of_le_of_lt (Nat.mul_le_mul (Nat.le_of_lt h1) hq) ?_
    exact Nat.mul_lt_mul_of_pos_left (by decide) (Nat.pow_pos (by decide))
  have HA : Hid (Row w va (dig a)) := ha
  obtain ⟨aa, ca, rfl, h1, h2⟩ := ha.num
  clear ha
  obtain ⟨i0, hi, hz0, hz1, hz2⟩ := info_parts infoInt
  have HP : Hid (∀ n k, 0 < top n k ↔ k < dlen n) := top_pos_iff
  generalize hs : a * q = s at *
  have HS : Hid (a * q + 0 = s) := hs
  clear hs
  go_enter Try.func48, Try.ntmps48
  go_wp2
  go_loopw [5, 6, 7] (fun o cv iv wr => ∃ k A C : Nat, k ≤ dlen s ∧ C ≤ q ∧ Hid (A = top a k) ∧ Hid (A * q + C = top s k) ∧ iv = .int .i64 k ∧ cv = .int .i64 C ∧ wr.ownsRow w.heap.size 3 1 o k ((low s k).map enc) ∧ Below w.heap.size w wr) (fun _ _ i _ => dlen s - (intOf i).toNat)
  case atStart => exact ⟨0, a, 0, Nat.zero_le _, Nat.zero_le _, rfl, HS.out, rfl, rfl, World.ownsRow_nil _ _ _ _, Below.refl _ _⟩
  case round =>
    obtain ⟨k, A, C, hk, hC, hA, hT, rfl, rfl, hown, hbel⟩ := hrel
    have pa := HP.out a k
    have ps := HP.out s k
    rw [← hA.out] at pa
    have hpos : 0 < A * q ↔ 0 < A ∧ 0 < q := ⟨fun h => ⟨Nat.pos_of_mul_pos_right h, Nat.pos_of_mul_pos_left h⟩, fun h => Nat.mul_pos h.1 h.2⟩
    rw [← hT.out] at ps
    have hsz := hbel.size
    by_cases hc : (k < dlen a ∧ 0 < q) ∨ 0 < C
    · have hks : k < dlen s := ps.1 (by have := hpos.2; omega)
      have hra := HA.out.below hbel
      obtain ⟨da, hda⟩ : ∃ d, d = A % 16777216 := ⟨_, rfl⟩
      have bda : da ≤ 16777215 := by omega
      have Hda : Hid (da = A % 16777216) := hda
      have HRA : Hid (Row wr _ _) := hra
      obtain ⟨m, hm⟩ : ∃ m : Nat, m = da * q := ⟨_, rfl⟩
      have bm : m ≤ 16777215 * q := by rw [hm]; exact Nat.mul_le_mul bda (Nat.le_refl _)
      have HM : Hid (m = da * q) := hm
      have hmi : (da : Int) * (q : Int) = (m : Int) := by rw [hm]; simp
      have h3 : (k < dlen a ∧ 0 < q) ∨ (¬ k < dlen a ∧ 0 < C) := by omega
      clear hc pa ps hda hra hpos hm
      rcases h3 with ⟨h3, h4⟩ | ⟨h3, h4⟩
      all_goals
        go_wp2_with (first
          | (go_at_call_of 52 aa; refine (digit_dig _ a k da (by omega) _ HRA.out (by rw [Hda.out, hA.out])).mono ?_; rintro e w' ⟨rfl, rfl⟩)
          | (at_builtin; refine append1 rfl _ _ _ rfl w.heap.size 3 i0 (.int .i64 0) 8 Try.underlying60 hi hz0 hz1 hz2 rfl _ _ _ hown rfl rfl rfl (by omega) (by decide) hsz ?_; intro v' w1 hown' hbel' _ _))
        go_roundw
        case rel =>
          have hp := mul_part A q
          rw [← Hda.out, ← HM.out] at hp
          refine ⟨k + 1, A / 16777216, (m + C) / 16777216, by omega, by omega, ?_, ?_, by go_num, by go_num, ?_, hbel.trans hbel'⟩
          · show _ = _; rw [hA.out]; rfl
          · show _ = _; rw [top_succ, ← hT.out]; omega
          · rw [low_snoc, ← hT.out, List.map_append]
            have e : (((m : Int) + C) % 16777216) = (((A * q + C) % 16777216 : Nat) : Int) := by omega
            rw [e] at hown'
            exact hown'
        case measure => simp [intOf]; omega
    · have hks : ¬ k < dlen s := fun h => by have := ps.2 h; have := hpos.1; omega
      have hk1 : k = dlen s := by omega
      have e : low s k = dig s := by rw [hk1, low_dlen]
      rw [e] at hown
      have h5 : ¬ 0 < C := by omega
      have h3 : ¬ (k < dlen a ∧ 0 < q) := by omega
      by_cases h4 : k < dlen a
      · have h6 : ¬ 0 < q := by omega
        clear hk1 e pa ps hc hpos h3
        go_wp2
        exact hQ.out _ _ ⟨_, rfl, row_own hown, hbel⟩
      · clear hk1 e pa ps hc hpos h3
        go_wp2
        exact hQ.out _ _ ⟨_, rfl, row_own hown, hbel⟩
end Go.Proofs.Ytpjegpgnelfeeab

namespace Go.Proofs.Ytpjegpgnelfeeab
open Go.ChangeShapes Go.WideShapes Go.ChangeAt Go.RowKit
set_option linter.unusedVariables false
set_option maxRecDepth 100000

theorem owns_below {w w' : World} {base n sz : Nat} {e : TypeId} {v : Value} {xs : List Value} (h : w.ownsRow base e sz v n xs) (hb : Below w.heap.size w w') : w'.ownsRow base e sz v n xs := by
  refine ⟨h.1, ?_⟩
  rcases h.2 with hn | ⟨g, cap, cur, rfl, hg, hgg, rest⟩
  · exact .inl hn
  · refine .inr ⟨g, cap, cur, rfl, hg, ?_, rest⟩
    rw [hb.block g (Array.getElem?_eq_some_iff.1 hgg).1]; exact hgg
theorem made_ints (n : Nat) : (madeCells (Value.int .i64 0).cells (n * 1)).toList = (List.replicate n 0).map enc := by
  have e : ∀ x : Nat, [Value.int .i64 0][x % 1]?.getD default = .int .i64 0 := fun x => by rw [Nat.mod_one]; rfl
  simp [madeCells, enc, Value.cells, e, List.map_const']
/-- 'l[q:]' of a row -/
theorem Row.drop {w : World} {b off c : Nat} {n k : Nat} (h : Row w (.slice (some ⟨b, off, none⟩) k c) (dig n)) (q : Nat) (hq : q ≤ dlen n) : Row w (.slice (some ⟨b, off + q, none⟩) (dlen n - q) (c - q)) (dig (top n q)) := by
  obtain ⟨ao', c', he, hc, hl, h⟩ := h
  injection he with e1 e2 e3
  subst e1 e2 e3
  have hl' : dlen n ≤ c := hl
  refine ⟨_, c - q, by rw [dig_length, dlen_top], by omega, by rw [dig_length, dlen_top]; omega, ?_⟩
  rcases h with ⟨h1, h2⟩ | ⟨b', off', h1, h2, h3⟩
  · simp at h1
  · simp at h1
    obtain ⟨rfl, rfl⟩ := h1
    refine .inr ⟨_, _, rfl, h2, fun j hj => ?_⟩
    rw [dig_length, dlen_top] at hj
    rw [Nat.add_assoc, h3 (q + j) (by rw [dig_length]; omega), dig_get, dig_get, top_add]

set_option maxHeartbeats 1000000 in
theorem nshl_any (va : Value) (a k : Nat) (hk : k ≤ 1099511627776) (hS : dlen a ≤ 1099511627776) (w : World) (ha : Row w va (dig a)) :
    Calls Try.prog 39 #[va, .int .i64 k] w fun e w' => ∃ v, e = .returned v ∧ Row w' v (dig (a * 2 ^ k)) ∧ Below w.heap.size w w' := by
  refine cps fun Q hQ => ?_
  have HA : Hid (Row w va (dig a)) := ha
  obtain ⟨aa, ca, rfl, h1, h2⟩ := ha.num
  clear ha
  obtain ⟨i0, hi, hz0, hz1, hz2⟩ := info_parts infoInt
  have hz := @dlen_eq_zero a
  have e0 : 2 ^ k = 2 ^ (k % 24) * 16777216 ^ (k / 24) := by
    have : (16777216 : Nat) = 2 ^ 24 := by decide
    rw [this, ← Nat.pow_mul, ← Nat.pow_add]; congr 1; omega
  by_cases h0 : dlen a = 0
  · have hn := hz.1 h0
    subst hn
    have HQ : Hid _ := hQ.out _ w ⟨.slice none 0 0, rfl, by rw [Nat.zero_mul, dig_zero]; exact row_nil w, Below.refl _ _⟩
    clear hz HA e0
    go_enter Try.func39, Try.ntmps39
    go_wp2
    exact HQ.out
  · have hn : a ≠ 0 := fun h => h0 (hz.2 h)
    have hq : 0 < 2 ^ (k % 24) := Nat.pow_pos (by decide)
    have hq2 : 2 ^ (k % 24) ≤ 2 ^ 24 := Nat.pow_le_pow_right (by decide) (by omega)
    have hne : a * 2 ^ (k % 24) ≠ 0 := Nat.mul_ne_zero hn (by omega)
    have hD : Hid (dig (a * 2 ^ k) = List.replicate (k / 24) 0 ++ dig (a * 2 ^ (k % 24))) := by
      show _ = _
      rw [e0, ← Nat.mul_assoc, dig_shift hne]
    have hT := two_any (k % 24) (by omega)
    have hlen : dlen (a * 2 ^ (k % 24)) ≤ 2199023255552 := by
      have h3 := lt_of_dlen_le (n := a) (Nat.le_refl _)
      refine Nat.le_trans (dlen_le_of_lt (k := dlen a + 2) ?_) (by omega)
      rw [Nat.pow_add]
      refine Nat.lt_of_le_of_lt (Nat.mul_le_mul (Nat.le_of_lt h3) hq2) ?_
      exact Nat.mul_lt_mul_of_pos_left (by decide) (Nat.pow_pos (by decide))
    have hdl : dlen (a * 2 ^ (k % 24)) ≠ 0 := fun h => hne (dlen_eq_zero.1 h)
    generalize hp : 2 ^ (k % 24) = p at *
    have HP : Hid (p ≤ 16777216) := by show _ ≤ _; omega
    clear hp e0 hq hq2 hz hn hne
    have hq : k / 24 ≤ 1099511627776 := by omega
    have hr24 : k % 24 ≤ 23 := by omega
    have hki : ((k : Int) / 24) = ((k / 24 : Nat) : Int) := by omega
    have hki2 : ((k : Int) % 24) = ((k % 24 : Nat) : Int) := by omega
    generalize k / 24 = q at *
    generalize k % 24 = r at *
    go_enter Try.func39, Try.ntmps39
    go_wp2_with (at_make; go_must (refine wpList_make_full _ rfl _ _ 60 rfl w.heap.size 3 i0 (.int .i64 0) 1 Try.underlying60 hi hz0 hz1 .i64 .i64 _ _ q rfl rfl (by omega) (by omega) (by rw [hz2]; omega) (by unfold maxLen; omega) (Nat.le_refl _) ?_); intro w1 hown hg)
    have hb0 := (Below.refl w.heap.size w).grown hg (Nat.le_refl _) (fun k hk => by cases hk)
    rw [made_ints] at hown
    have hs1 := hb0.size
    clear hg
    go_wp2_with (first
      | (go_at_call 53; refine (hT _).mono ?_; rintro e w' ⟨rfl, rfl⟩)
      | (go_at_call 48; refine (times_any _ a p HP.out hS _ (HA.out.below hb0)).mono ?_; rintro e w2 ⟨v2, rfl, hr2, hb2⟩
         obtain ⟨ao2, c2, rfl, hc2, hl2, hr2⟩ := hr2.reads
         obtain ⟨b2, o2, rfl, hlt2, hr2⟩ := hr2.resolve_left hdl
         have hown2 := owns_below hown hb2
         have hb3 := hb0.trans (hb2.mono hs1)
         have hs3 := hb3.size)
      | (at_builtin; go_must (refine wpList_append_own _ rfl _ _ 60 rfl w.heap.size 3 i0 (.int .i64 0) 1 8 Try.underlying60 hi hz0 hz1 hz2 rfl (by decide) _ _ _ rfl hown2 ⟨b2, o2, none⟩ (dlen (a * p)) c2 ((dig (a * p)).map enc) rfl (by simp [dlen]) ?_ (by simp [enc]; intros; rfl) (by unfold maxLen; omega) (by omega) hs3 ?_)))
    · intro j u hj
      rw [List.getElem?_map, Option.map_eq_some_iff] at hj
      obtain ⟨d, hd, rfl⟩ := hj
      have hlt : j < dlen (a * p) := (List.getElem?_eq_some_iff.1 hd).1
      have := hr2 j hlt
      rw [← dig_get, List.getD_eq_getElem?_getD, hd] at this
      have this : w2.cell? ⟨b2, o2 + j, none⟩ = some (.int .i64 (d : Nat)) := by simpa using this
      unfold Addr.add
      split
      · rename_i h; have hj0 : j = 0 := by simpa using h
        subst hj0; exact this
      · exact this
    · intro v' w3 hown3 hg3 _
      have hb4 := hb3.grown hg3 hs3 (fun k hk => by cases hk; exact Nat.le_refl _)
      have hr3 : Row w3 v' (List.replicate q 0 ++ dig (a * p)) := row_own (by rw [List.map_append, List.map_replicate]; exact hown3)
      rw [← hD.out] at hr3
      go_wp2
      exact hQ.out _ _ ⟨_, rfl, hr3, hb4⟩
theorem row_lit (w : World) (e : TypeId) (d : Nat) (hd : d ≠ 0) (hd2 : d < 16777216) : Row (w.alloc (.cells #[.int .i64 (d : Int)] e)) (.slice (some ⟨w.heap.size, 0, none⟩) 1 1) (dig d) := by
  have hl : dig d = [d] := by rw [dig_pos hd, show d / 16777216 = 0 by omega, dig_zero, Nat.mod_eq_of_lt hd2]
  rw [hl]
  refine ⟨_, 1, rfl, by decide, Nat.le_refl _, .inr ⟨_, 0, rfl, by simp, fun j hj => ?_⟩⟩
  have : j = 0 := by simpa using hj
  subst this
  exact World.cell?_alloc_at _ _ _ _ rfl

end Go.Proofs.Ytpjegpgnelfeeab

namespace Go.Proofs.Ytpjegpgnelfeeab
open Go.ChangeShapes Go.WideShapes Go.ChangeAt Go.RowKit
set_option linter.unusedVariables false
set_option maxRecDepth 100000

theorem two_int (kk : Int) (k : Nat) (hkk : kk = (k : Int)) (hk : k ≤ 24) (w : World) :
    Calls Try.prog 53 #[.int .i64 kk] w fun e w' => e = .returned (.int .i64 (2 ^ k : Nat)) ∧ w' = w := by
  rw [hkk]; exact two_any k hk w

theorem digit_int' (v : Value) (n : Nat) (ii : Int) (i d : Nat) (hii : ii = (i : Int)) (hi : i < 4611686018427387904) (w : World) (hr : Row w v (dig n)) (hd : d = top n i % 16777216) :
    Calls Try.prog 52 #[v, .int .i64 ii] w fun e w' => e = .returned (.int .i64 d) ∧ w' = w := by
  rw [hii]; exact digit_dig v n i d hi w hr hd

/-! ### how many bits -/
def blen (n : Nat) : Nat := if h : n = 0 then 0 else blen (n / 2) + 1
theorem blen_zero : blen 0 = 0 := by unfold blen; simp
theorem blen_pos {n : Nat} (h : n ≠ 0) : blen n = blen (n / 2) + 1 := by
  conv => lhs; unfold blen
  simp [h]
theorem blen_le {n m : Nat} : blen n ≤ m ↔ n < 2 ^ m := by
  induction m generalizing n with
  | zero =>
    by_cases h : n = 0
    · subst h; simp [blen_zero]
    · rw [blen_pos h]; simp; exact h
  | succ m ih =>
    by_cases h : n = 0
    · subst h; simp [blen_zero]; exact Nat.pow_pos (by decide)
    · rw [blen_pos h, Nat.add_le_add_iff_right, ih, Nat.pow_succ]; omega
theorem blen_shift {a k : Nat} (h : a / 2 ^ k ≠ 0) : blen a = blen (a / 2 ^ k) + k := by
  induction k with
  | zero => simp
  | succ k ih =>
    have e : a / 2 ^ (k + 1) = a / 2 ^ k / 2 := by rw [Nat.pow_succ, Nat.div_div_eq_div_mul]
    have h1 : a / 2 ^ k ≠ 0 := by intro h2; rw [e, h2] at h; simp at h
    rw [ih h1, blen_pos h1, e]; omega
theorem blen_top {a : Nat} (h : a ≠ 0) : blen a = blen (top a (dlen a - 1)) + 24 * (dlen a - 1) := by
  have e : top a (dlen a - 1) = a / 2 ^ (24 * (dlen a - 1)) := by
    rw [top_eq, show (16777216 : Nat) = 2 ^ 24 by decide, ← Nat.pow_mul]
  have h2 := (dig_last h).1
  have h3 : top a (dlen a - 1) ≠ 0 := by intro h4; rw [h4] at h2; simp at h2
  rw [e] at h3 ⊢
  exact blen_shift h3

set_option maxHeartbeats 1000000 in
theorem nword_any (va : Value) (a : Nat) (w : World) (ha : Row w va (dig a)) :
    Calls Try.prog 43 #[va] w fun e w' => e = .returned (.int .u64 (a % 2 ^ 64 : Nat)) ∧ w' = w := by
  refine cps fun Q hQ => ?_
  have HR : Hid (Row w va (dig a)) := ha
  obtain ⟨d0, hd0⟩ : ∃ d, d = top a 0 % 16777216 := ⟨_, rfl⟩
  obtain ⟨d1, hd1⟩ : ∃ d, d = top a 1 % 16777216 := ⟨_, rfl⟩
  obtain ⟨d2, hd2⟩ : ∃ d, d = top a 2 % 16777216 := ⟨_, rfl⟩
  have b0 : d0 ≤ 16777215 := by omega
  have b1 : d1 ≤ 16777215 := by omega
  have b2 : d2 ≤ 16777215 := by omega
  have H0 : Hid (d0 = top a 0 % 16777216) := hd0
  have H1 : Hid (d1 = top a 1 % 16777216) := hd1
  have H2 : Hid (d2 = top a 2 % 16777216) := hd2
  have HV : Hid (((d2 * 16777216 + d1) * 16777216 + d0) % 18446744073709551616 = a % 2 ^ 64) := by
    show _ = _
    have e0 : top a 0 = a := rfl
    have e1 : top a 1 = a / 16777216 := rfl
    have e2 : top a 2 = a / 16777216 / 16777216 := rfl
    omega
  generalize hVV : a % 2 ^ 64 = VV at *
  clear ha hd0 hd1 hd2 hVV
  go_enter Try.func43, Try.ntmps43
  go_wp2
  go_loop [3, 4] (fun v i => (i = .int .i64 2 ∧ v = .int .u64 0) ∨ (i = .int .i64 1 ∧ v = .int .u64 (d2 : Nat)) ∨ (i = .int .i64 0 ∧ v = .int .u64 (d2 * 16777216 + d1 : Nat)) ∨ (i = .int .i64 (-1) ∧ v = .int .u64 (VV : Nat))) (fun _ i => (intOf i + 1).toNat)
  case atStart => exact .inl ⟨rfl, rfl⟩
  case round =>
    rcases hrel with ⟨rfl, rfl⟩ | ⟨rfl, rfl⟩ | ⟨rfl, rfl⟩ | ⟨rfl, rfl⟩
    · go_wp2_with (go_at_call 52; refine (digit_int' _ a 2 2 d2 rfl (by omega) _ HR.out H2.out).mono ?_; rintro e w' ⟨rfl, hw⟩; rw [hw]; clear hw w')
      go_round
      case rel => exact .inr (.inl ⟨rfl, rfl⟩)
      case measure => simp [intOf]
    · go_wp2_with (go_at_call 52; refine (digit_int' _ a 1 1 d1 rfl (by omega) _ HR.out H1.out).mono ?_; rintro e w' ⟨rfl, hw⟩; rw [hw]; clear hw w')
      go_round
      case rel => exact .inr (.inr (.inl ⟨rfl, by go_num⟩))
      case measure => simp [intOf]
    · go_wp2_with (go_at_call 52; refine (digit_int' _ a 0 0 d0 rfl (by omega) _ HR.out H0.out).mono ?_; rintro e w' ⟨rfl, hw⟩; rw [hw]; clear hw w')
      go_round
      case rel =>
        refine .inr (.inr (.inr ⟨rfl, ?_⟩))
        refine congrArg (Value.int IntKind.u64) ?_
        rw [IntKind.wrap_u64, IntKind.wrap_u64, ← HV.out]
        omega
      case measure => simp [intOf]
    · go_wp2
      exact hQ.out _ _ ⟨rfl, rfl⟩

/-! ### comparing -/
def cmpN (a b : Nat) : Int := if a < b then -1 else if a = b then 0 else 1
theorem cmpN_lt {a b : Nat} (h : a < b) : cmpN a b = -1 := by simp [cmpN, h]
theorem cmpN_gt {a b : Nat} (h : b < a) : cmpN a b = 1 := by unfold cmpN; rw [if_neg (by omega), if_neg (by omega)]
theorem cmpN_eq (a : Nat) : cmpN a a = 0 := by simp [cmpN]
set_option maxHeartbeats 2000000 in
theorem ncmp_any (va vb : Value) (a b : Nat) (w : World) (ha : Row w va (dig a)) (hb : Row w vb (dig b)) :
    Calls Try.prog 41 #[va, vb] w fun e w' => e = .returned (.int .i64 (cmpN a b)) ∧ ∃ q, w' = w.drewN q := by
  refine cps fun Q hQ => ?_
  obtain ⟨aa, ca, rfl, h1, h2, hra⟩ := ha.reads
  obtain ⟨ab, cb, rfl, h3, h4, hrb⟩ := hb.reads
  clear ha hb
  rcases Nat.lt_trichotomy (dlen a) (dlen b) with hl | hl | hl
  · have HQ : Hid _ := hQ.out _ w ⟨by rw [cmpN_lt (cmp_len hl)], 0, rfl⟩
    clear hra hrb
    go_enter Try.func41, Try.ntmps41
    go_wp2
    exact HQ.out
  · have H0 : Hid (∀ j, top a j < top b j → a < b) := fun j h => cmp_top h
    have H1 : Hid (∀ j, top b j < top a j → b < a) := fun j h => cmp_top h
    have HL : Hid (top a (dlen a) = top b (dlen a)) := by show _ = _; rw [top_eq_zero (Nat.le_refl _), top_eq_zero (by omega)]
    rw [← hl] at hrb h4
    have HS : Hid (dlen a = dlen b) := hl
    have hb' : dlen b = dlen a := hl.symm
    clear hl
    go_enter Try.func41, Try.ntmps41
    go_wp2
    go_loopw [5] (fun i wr => ∃ j : Nat, j ≤ dlen a ∧ Hid (top a j = top b j) ∧ i = .int .i64 ((j : Int) - 1) ∧ ∃ q, wr = w.drewN q) (fun i _ => (intOf i + 1).toNat)
    case atStart => exact ⟨dlen a, Nat.le_refl _, HL.out, by go_num, 0, rfl⟩
    case round =>
      obtain ⟨j, hj, hT, rfl, q, rfl⟩ := hrel
      by_cases h0 : 0 < j
      · obtain ⟨k, rfl⟩ : ∃ k, j = k + 1 := ⟨j - 1, by omega⟩
        rw [show ((k + 1 : Nat) : Int) - 1 = (k : Int) by omega]
        rcases hra with hra | ⟨ba, oa, rfl, hba, hra⟩
        · omega
        rcases hrb with hrb | ⟨bb, ob, rfl, hbb, hrb⟩
        · omega
        have c1 := hra k (by omega)
        have c2 := hrb k (by omega)
        have hdec : (top a k % 16777216 < top b k % 16777216 → top a k < top b k) ∧ (top b k % 16777216 < top a k % 16777216 → top b k < top a k) ∧ (top a k % 16777216 = top b k % 16777216 → top a k = top b k) := by
          have := hT.out
          rw [top_succ, top_succ] at this
          refine ⟨fun h => by omega, fun h => by omega, fun h => by omega⟩
        have HD : Hid _ := hdec
        have f1 : top a k % 16777216 ≤ 16777215 := by omega
        have f2 : top b k % 16777216 ≤ 16777215 := by omega
        clear hdec hra hrb
        generalize top a k % 16777216 = x at *
        generalize top b k % 16777216 = y at *
        rcases Nat.lt_trichotomy x y with hxy | hxy | hxy
        · go_wp2
          go_quiet (fail)
          go_wp2
          refine hQ.out _ _ ⟨?_, _, by rw [World.drewN_drewN]⟩
          rw [cmpN_lt (H0.out k (HD.out.1 hxy))]; rfl
        · subst hxy
          have HD' := HD.out.2.2 rfl
          have HT' : Hid (top a k = top b k) := HD'
          clear HD' HD
          go_wp2
          go_quiet (fail)
          go_wp2
          go_quiet (fail)
          go_wp2
          go_roundw
          case rel => exact ⟨k, by omega, HT'.out, by go_num, _, rfl⟩
          case measure => simp [intOf]
        · have hnlt : ¬ x < y := by omega
          go_wp2
          go_quiet (fail)
          go_wp2
          go_quiet (fail)
          go_wp2
          refine hQ.out _ _ ⟨?_, _, by rw [World.drewN_drewN, World.drewN_drewN]⟩
          rw [cmpN_gt (H1.out k (HD.out.2.1 hxy))]; rfl
      · have e : j = 0 := by omega
        subst e
        have hab : a = b := hT.out
        have HE : Hid (cmpN a b = 0) := by show _ = _; rw [hab]; exact cmpN_eq b
        clear hab hra hrb
        go_wp2
        refine hQ.out _ _ ⟨?_, _, rfl⟩
        rw [HE.out]; rfl
  · have HQ : Hid _ := hQ.out _ w ⟨by rw [cmpN_gt (cmp_len hl)], 0, rfl⟩
    clear hra hrb
    go_enter Try.func41, Try.ntmps41
    go_wp2
    exact HQ.out

/-! ### is one of the lowest bits 1? -/
theorem low_part (a i m : Nat) (hm : m ≤ 24) (h : 2 ^ (24 * i) ∣ a) : top a i % 16777216 % 2 ^ m = 0 ↔ 2 ^ (24 * i + m) ∣ a := by
  obtain ⟨x, rfl⟩ := h
  have e : top (2 ^ (24 * i) * x) i = x := by
    rw [top_eq, show (16777216 : Nat) = 2 ^ 24 by decide, ← Nat.pow_mul, Nat.mul_div_cancel_left _ (Nat.pow_pos (by decide))]
  have hd : 2 ^ m ∣ 16777216 := by rw [show (16777216 : Nat) = 2 ^ 24 by decide]; exact Nat.pow_dvd_pow 2 hm
  rw [e, Nat.mod_mod_of_dvd _ hd, Nat.pow_add, Nat.mul_dvd_mul_iff_left (Nat.pow_pos (by decide))]
  exact (Nat.dvd_iff_mod_eq_zero).symm
theorem low_end (a i : Nat) (h : 2 ^ (24 * i) ∣ a) (hi : dlen a ≤ i) : a = 0 := by
  have h1 := lt_of_dlen_le hi
  rw [show (16777216 : Nat) = 2 ^ 24 by decide, ← Nat.pow_mul] at h1
  exact Nat.eq_zero_of_dvd_of_lt h h1
end Go.Proofs.Ytpjegpgnelfeeab

namespace Go.Proofs.Ytpjegpgnelfeeab
open Go.ChangeShapes Go.WideShapes Go.ChangeAt Go.RowKit
set_option linter.unusedVariables false

/-! ### numbers of 128 bits -/
structure Tw (n h l : Nat) : Prop where
  eq : n = h * 18446744073709551616 + l
  hi : h ≤ 18446744073709551615
  lo : l ≤ 18446744073709551615
theorem Tw.mk' {h l : Nat} (a : h ≤ 18446744073709551615) (b : l ≤ 18446744073709551615) : Tw (h * 18446744073709551616 + l) h l := ⟨rfl, a, b⟩

theorem bmore {a w : World} (h : Below a.heap.size a w) (o : Obj) : Below a.heap.size a (w.alloc o) := h.alloc h.size o

theorem run_add64_at (x y c : Nat) (hc : c ≤ 1) (w : World) :
    (callFunc 25 #[.int .u64 x, .int .u64 y, .int .u64 c]).run Try.prog w =
      .ok (.value (.tuple #[.int .u64 (((x + y + c) % 18446744073709551616 : Nat) : Int), .int .u64 (((x + y + c) / 18446744073709551616 : Nat) : Int)])) w := by
  rw [run_callFunc_extern Try.func25 (by kernel_rfl) (by kernel_rfl) (by kernel_rfl) (e := add64Entry) (by kernel_rfl), run_add64 x y c (by omega) (by omega) (by omega) (by omega)]
  simp only [Result.andThen]
  congr 5 <;> omega
theorem run_sub64_at (x y b : Nat) (hb : b ≤ 1) (w : World) :
    (callFunc 26 #[.int .u64 x, .int .u64 y, .int .u64 b]).run Try.prog w =
      .ok (.value (.tuple #[.int .u64 (((x + 18446744073709551616 - y - b) % 18446744073709551616 : Nat) : Int), .int .u64 ((if x < y + b then 1 else 0 : Nat) : Int)])) w := by
  rw [run_callFunc_extern Try.func26 (by kernel_rfl) (by kernel_rfl) (by kernel_rfl) (e := sub64Entry) (by kernel_rfl), run_sub64 x y b hb]
  rfl

theorem tadd_any {a b h1 l1 h2 l2 h l : Nat} {c : Bool} (ha : Tw a h1 l1) (hb : Tw b h2 l2) (hs : Tw ((a + b) % 340282366920938463463374607431768211456) h l) (hc : c = decide (340282366920938463463374607431768211456 ≤ a + b)) (w : World) :
    Calls Try.prog 10 #[.agg #[.int .u64 h1, .int .u64 l1], .agg #[.int .u64 h2, .int .u64 l2]] w fun e w' => e = .returned (.tuple #[.agg #[.int .u64 h, .int .u64 l], .bool c]) ∧ Below w.heap.size w w' := by
  refine cps fun Q hQ => ?_
  obtain ⟨ea, ha1, ha2⟩ := ha
  obtain ⟨eb, hb1, hb2⟩ := hb
  obtain ⟨es, hs1, hs2⟩ := hs
  obtain ⟨s1, e1⟩ : ∃ s, s = (l1 + l2 + 0) % 18446744073709551616 := ⟨_, rfl⟩
  obtain ⟨c1, e2⟩ : ∃ s, s = (l1 + l2 + 0) / 18446744073709551616 := ⟨_, rfl⟩
  obtain ⟨s2, e3⟩ : ∃ s, s = (h1 + h2 + c1) % 18446744073709551616 := ⟨_, rfl⟩
  obtain ⟨c2, e4⟩ : ∃ s, s = (h1 + h2 + c1) / 18446744073709551616 := ⟨_, rfl⟩
  have r1 := run_add64_at l1 l2 0 (by omega)
  have r2 := run_add64_at h1 h2 c1 (by omega)
  rw [← e1, ← e2] at r1
  have r1 : ∀ w, (callFunc 25 #[.int .u64 l1, .int .u64 l2, .int .u64 0]).run Try.prog w = .ok (.value (.tuple #[.int .u64 s1, .int .u64 c1])) w := r1
  rw [← e3, ← e4] at r2
  have q1 : s1 = l := by omega
  have q2 : s2 = h := by omega
  have hc2 : c2 ≤ 1 := by omega
  have q3 : c = decide (c2 = 1) := by rw [hc]; refine decide_eq_decide.2 ?_; omega
  clear e1 e2 e3 e4 hc ea eb es
  subst q1 q2
  have HC : Hid (c = decide (c2 = 1)) := q3
  clear q3
  go_enter Try.func10, Try.ntmps10
  go_wp2_with (simp only [r1, r2])
  refine bodyPost_ret (v := .tuple #[.agg #[.int .u64 s2, .int .u64 s1], .bool c]) (by simp [results, Try.results10, go_sem]; rw [HC.out]; rcases (show c2 = 0 ∨ c2 = 1 by omega) with h | h <;> rw [h] <;> rfl) rfl (hQ.out _ _ ⟨rfl, ?_⟩)
  exact bmore (bmore (bmore (Below.refl _ _) _) _) _
theorem tsub_any {a b h1 l1 h2 l2 h l : Nat} {c : Bool} (ha : Tw a h1 l1) (hb : Tw b h2 l2) (hs : Tw ((a + 340282366920938463463374607431768211456 - b) % 340282366920938463463374607431768211456) h l) (hc : c = decide (a < b)) (w : World) :
    Calls Try.prog 11 #[.agg #[.int .u64 h1, .int .u64 l1], .agg #[.int .u64 h2, .int .u64 l2]] w fun e w' => e = .returned (.tuple #[.agg #[.int .u64 h, .int .u64 l], .bool c]) ∧ Below w.heap.size w w' := by
  refine cps fun Q hQ => ?_
  obtain ⟨ea, ha1, ha2⟩ := ha
  obtain ⟨eb, hb1, hb2⟩ := hb
  obtain ⟨es, hs1, hs2⟩ := hs
  obtain ⟨s1, e1⟩ : ∃ s, s = (l1 + 18446744073709551616 - l2 - 0) % 18446744073709551616 := ⟨_, rfl⟩
  obtain ⟨c1, e2⟩ : ∃ s, s = (if l1 < l2 + 0 then 1 else 0) := ⟨_, rfl⟩
  obtain ⟨s2, e3⟩ : ∃ s, s = (h1 + 18446744073709551616 - h2 - c1) % 18446744073709551616 := ⟨_, rfl⟩
  obtain ⟨c2, e4⟩ : ∃ s, s = (if h1 < h2 + c1 then 1 else 0) := ⟨_, rfl⟩
  have r1 := run_sub64_at l1 l2 0 (by omega)
  have r2 := run_sub64_at h1 h2 c1 (by rw [e2]; split <;> omega)
  rw [← e1, ← e2] at r1
  have r1 : ∀ w, (callFunc 26 #[.int .u64 l1, .int .u64 l2, .int .u64 0]).run Try.prog w = .ok (.value (.tuple #[.int .u64 s1, .int .u64 c1])) w := r1
  rw [← e3, ← e4] at r2
  have hc1 : (c1 = 1 ∧ l1 < l2) ∨ (c1 = 0 ∧ l2 ≤ l1) := by rw [e2]; split <;> omega
  have hc3 : (c2 = 1 ∧ h1 < h2 + c1) ∨ (c2 = 0 ∧ h2 + c1 ≤ h1) := by rw [e4]; split <;> omega
  have q1 : s1 = l := by omega
  have q2 : s2 = h := by omega
  have hc2 : c2 ≤ 1 := by omega
  have q3 : c = decide (c2 = 1) := by rw [hc]; refine decide_eq_decide.2 ?_; omega
  clear e1 e2 e3 e4 hc ea eb es hc1 hc3
  subst q1 q2
  have HC : Hid (c = decide (c2 = 1)) := q3
  clear q3
  go_enter Try.func11, Try.ntmps11
  go_wp2_with (simp only [r1, r2])
  refine bodyPost_ret (v := .tuple #[.agg #[.int .u64 s2, .int .u64 s1], .bool c]) (by simp [results, Try.results11, go_sem]; rw [HC.out]; rcases (show c2 = 0 ∨ c2 = 1 by omega) with h | h <;> rw [h] <;> rfl) rfl (hQ.out _ _ ⟨rfl, ?_⟩)
  exact bmore (bmore (bmore (Below.refl _ _) _) _) _

theorem maskN (a : Nat) (ha : a < 18446744073709551616) : bits .and .u64 (a : Int) 4294967295 = ((a % 4294967296 : Nat) : Int) := by
  have e := u64_and_nat a 4294967295 ha (by decide)
  rw [show ((4294967295 : Nat) : Int) = 4294967295 from rfl] at e
  rw [e, show (4294967295 : Nat) = 2 ^ 32 - 1 from rfl, Nat.and_two_pow_sub_one_eq_mod]
theorem divN (a : Nat) : (a : Int) / 4294967296 = ((a / 4294967296 : Nat) : Int) := by omega
theorem mulN (a b : Nat) : (a : Int) * (b : Int) = ((a * b : Nat) : Int) := (Int.natCast_mul a b).symm
theorem addN (a b : Nat) : (a : Int) + (b : Int) = ((a + b : Nat) : Int) := (Int.natCast_add a b).symm
theorem wrapU (a : Nat) (ha : a < 18446744073709551616) : IntKind.u64.wrap (a : Int) = (a : Int) := by rw [IntKind.wrap_u64]; omega
theorem wrapM (a : Nat) : IntKind.u64.wrap (a : Int) = ((a % 18446744073709551616 : Nat) : Int) := by rw [IntKind.wrap_u64]; omega
set_option maxHeartbeats 1000000 in
theorem mul64_any (x y : Nat) (hx : x < 18446744073709551616) (hy : y < 18446744073709551616) (w : World) :
    Calls Try.prog 27 #[.int .u64 x, .int .u64 y] w fun e w' => e = .returned (.tuple #[.int .u64 ((x * y / 18446744073709551616 : Nat) : Int), .int .u64 ((x * y % 18446744073709551616 : Nat) : Int)]) ∧ w' = w := by
  obtain ⟨bd, bt, bw, hhi⟩ := Lib.mul64_hi x y hx hy
  have ba := Lib.half_mul_le (a := x / 4294967296) (b := y / 4294967296) (by omega) (by omega)
  have bb := Lib.half_mul_le (a := x / 4294967296) (b := y % 4294967296) (by omega) (by omega)
  have bc := Lib.half_mul_le (a := x % 4294967296) (b := y / 4294967296) (by omega) (by omega)
  have ba' : x / 4294967296 * (y / 4294967296) < 18446744073709551616 := by omega
  have bb' : x / 4294967296 * (y % 4294967296) < 18446744073709551616 := by omega
  have bc' : x % 4294967296 * (y / 4294967296) < 18446744073709551616 := by omega
  have bh1 : x / 4294967296 * (y / 4294967296) + (x / 4294967296 * (y % 4294967296) + x % 4294967296 * (y % 4294967296) / 4294967296) / 4294967296 < 18446744073709551616 := by omega
  have bh : x / 4294967296 * (y / 4294967296) + (x / 4294967296 * (y % 4294967296) + x % 4294967296 * (y % 4294967296) / 4294967296) / 4294967296 + ((x / 4294967296 * (y % 4294967296) + x % 4294967296 * (y % 4294967296) / 4294967296) % 4294967296 + x % 4294967296 * (y / 4294967296)) / 4294967296 < 18446744073709551616 := by omega
  go_enter Try.func27, Try.ntmps27
  go_wp2
  simp only [maskN x hx, maskN y hy, divN, mulN, addN, wrapU _ bd, wrapU _ bb', wrapU _ bt, maskN _ bt, wrapU _ bc', wrapU _ bw, wrapU _ ba', wrapU _ bh1, wrapU _ bh, wrapM (x * y)]
  rw [hhi]
  go_ret2
  exact ⟨rfl, rfl⟩

theorem tmul_any {x y h l : Nat} (hx : x ≤ 18446744073709551615) (hy : y ≤ 18446744073709551615) (hs : Tw (x * y) h l) (w : World) :
    Calls Try.prog 12 #[.int .u64 x, .int .u64 y] w fun e w' => e = .returned (.agg #[.int .u64 h, .int .u64 l]) ∧ Below w.heap.size w w' := by
  refine cps fun Q hQ => ?_
  obtain ⟨es, hs1, hs2⟩ := hs
  have r1 := mul64_any x y (by omega) (by omega)
  have e1 : x * y / 18446744073709551616 = h := by rw [es]; omega
  have e2 : x * y % 18446744073709551616 = l := by rw [es]; omega
  rw [e1, e2] at r1
  clear e1 e2 es
  go_enter Try.func12, Try.ntmps12
  go_wp2_with (go_at_call 27; refine (r1 _).mono ?_; rintro e w' ⟨rfl, hw⟩; rw [hw]; clear hw w')
  refine bodyPost_ret (v := .agg #[.int .u64 h, .int .u64 l]) (by simp [results, Try.results12, go_sem]) rfl (hQ.out _ _ ⟨rfl, ?_⟩)
  exact bmore (Below.refl _ _) _
end Go.Proofs.Ytpjegpgnelfeeab

set_option maxRecDepth 100000
namespace Go.Proofs.Ytpjegpgnelfeeab
open Go.ChangeShapes Go.WideShapes Go.ChangeAt Go.RowKit

theorem infoU8 : (Try.prog.info? 5).map (fun i => (i.zero, i.size, i.bytes)) = some (some (.int .u8 0), 1, 1) := by kernel_rfl

def chars (l : List Bool) : List Value := l.map fun b => .int .u8 (bitByte b).toNat
theorem bit_char (x k : Nat) : ((48 + ((x : Int) / 2 ^ k).tmod 2) % 256) = ((bitByte (x.testBit k)).toNat : Int) := by
  rw [shrN, Nat.testBit_eq_decide_div_mod_eq, Nat.shiftRight_eq_div_pow]
  generalize x / 2 ^ k = y
  rw [Int.tmod_eq_emod_of_nonneg (by omega)]
  rcases Nat.mod_two_eq_zero_or_one y with h | h
  · have : ((y:Int)) % 2 = 0 := by omega
    rw [this]; simp [bitByte, h]
  · have : ((y:Int)) % 2 = 1 := by omega
    rw [this]; simp [bitByte, h]

theorem bitsOf_step (x n k : Nat) (h : k < n) : (bitsOf x n).take (k + 1) = (bitsOf x n).take k ++ [x.testBit (n - 1 - k)] := by
  rw [List.take_add_one, bitsOf_get x n k h]; rfl

theorem numOf_step (l : List Bool) (k : Nat) (h : k < l.length) : numOf (l.take (k + 1)) = 2 * numOf (l.take k) + (l.getD k false).toNat := by
  rw [List.take_add_one, List.getElem?_eq_getElem h, List.getD_eq_getElem?_getD, List.getElem?_eq_getElem h]
  exact numOf_snoc _ _
theorem num_char (b : Bool) (m : Nat) : IntKind.u64.wrap (IntKind.u64.wrap (2 * (m : Int)) + (((bitByte b).toNat : Int) - 48) % 256) = (((2 * m + b.toNat) % 2^64 : Nat) : Int) := by
  rw [IntKind.wrap_u64, IntKind.wrap_u64]
  cases b <;> simp [bitByte] <;> omega
/-! ### the library's Len64, LeadingZeros64 -/
set_option maxRecDepth 100000 in
theorem len8tab_size : (Lib.len8tab.size : Int) = 256 := by
  have : Lib.len8tab.size = 256 := by decide
  omega
theorem len8_get (y : Int) (h : y.toNat < Lib.len8tab.size) : ((Lib.len8tab[y.toNat]'h).toNat : Int) = Lib.len8 y := by
  unfold Lib.len8
  rw [getElem?_pos Lib.len8tab y.toNat h]
  rfl
theorem len8_fin (k P X : Nat) (K : Int) (y : Int) (hP : P = 2 ^ k) (hK : K = k) (h0 : 0 ≤ y) (h1 : y ≤ 255) (hk : k ≤ 56) (hX : X < 2 ^ 64) (hPX : P ≤ X) (hy : y.toNat = X / P) :
    wrap64 (K + wrap64 (Lib.len8 y)) = (Lib.bitLen X : Int) := by
  rw [Lib.len8_of y h0 h1, hK]
  have l := Lib.bitLen_le8' y h0 h1
  have s := Lib.bitLen_shift k X (hP ▸ hPX) hX
  rw [← hP] at s
  rw [hy] at l ⊢
  generalize Lib.bitLen (X / P) = a at *
  generalize Lib.bitLen X = b at *
  clear hP hX hPX hy h0 h1
  unfold wrap64
  omega
theorem len8_fin0 (X : Nat) (y : Int) (h0 : 0 ≤ y) (h1 : y ≤ 255) (hy : y.toNat = X) :
    wrap64 (wrap64 (Lib.len8 y)) = (Lib.bitLen X : Int) := by
  rw [Lib.len8_of y h0 h1]
  have l := Lib.bitLen_le8' y h0 h1
  rw [hy] at l ⊢
  generalize Lib.bitLen X = b at *
  clear h0 h1 hy
  unfold wrap64
  omega
set_option maxRecDepth 100000 in
theorem len64_int (x : Int) (h0 : 0 ≤ x) (h1 : x ≤ 18446744073709551615) (w : World) :
    Calls Try.prog 54 #[.int .u64 x] w fun e w' => e = .returned (.int .i64 (Lib.bitLen x.toNat)) ∧ w' = w := by
  have hsz := len8tab_size
  go_enter Try.func54, Try.ntmps54
  go_wp2
  all_goals (go_ret; refine ⟨congrArg Ending.returned (congrArg (Value.int IntKind.i64) ?_), rfl⟩; rw [len8_get]; clear hsz)
  all_goals first
    | exact len8_fin 56 72057594037927936 x.toNat 56 (x / 4294967296 / 65536 / 256) rfl rfl (by omega) (by omega) (by decide) (by omega) (by omega) (by omega)
    | exact len8_fin 48 281474976710656 x.toNat 48 (x / 4294967296 / 65536) rfl rfl (by omega) (by omega) (by decide) (by omega) (by omega) (by omega)
    | exact len8_fin 40 1099511627776 x.toNat 40 (x / 4294967296 / 256) rfl rfl (by omega) (by omega) (by decide) (by omega) (by omega) (by omega)
    | exact len8_fin 32 4294967296 x.toNat 32 (x / 4294967296) rfl rfl (by omega) (by omega) (by decide) (by omega) (by omega) (by omega)
    | exact len8_fin 24 16777216 x.toNat 24 (x / 65536 / 256) rfl rfl (by omega) (by omega) (by decide) (by omega) (by omega) (by omega)
    | exact len8_fin 16 65536 x.toNat 16 (x / 65536) rfl rfl (by omega) (by omega) (by decide) (by omega) (by omega) (by omega)
    | exact len8_fin 8 256 x.toNat 8 (x / 256) rfl rfl (by omega) (by omega) (by decide) (by omega) (by omega) (by omega)
    | exact len8_fin0 x.toNat x (by omega) (by omega) rfl
theorem len64_any (x : Nat) (hx : x < 18446744073709551616) (w : World) :
    Calls Try.prog 54 #[.int .u64 x] w fun e w' => e = .returned (.int .i64 (Lib.bitLen x)) ∧ w' = w := by
  have := len64_int (x : Int) (by omega) (by omega) w
  simpa using this
end Go.Proofs.Ytpjegpgnelfeeab

namespace Go.Proofs.Ytpjegpgnelfeeab
open Go.ChangeShapes Go.WideShapes Go.ChangeAt Go.RowKit
set_option linter.unusedVariables false

theorem bthen {a W w : World} (h : Below a.heap.size a W) (hb : Below W.heap.size W w) : Below a.heap.size a w := h.trans (hb.mono h.size)
theorem bdrew {a W : World} (h : Below a.heap.size a W) : Below a.heap.size a W.drew := h.drew
theorem bdrewN {a W : World} (h : Below a.heap.size a W) (q : Nat) : Below a.heap.size a (W.drewN q) := below_drewN h q

theorem drew_at (w : World) (c : Array Value) (t : TypeId) (n i : Nat) (hn : n = w.heap.size) : (w.alloc (.cells c t)).drew.cell? ⟨n, i, none⟩ = c[i]? := World.cell?_alloc_at c t n i hn
theorem bcell {W w1 : World} (hb : Below W.heap.size W w1) : (∀ b o, b < W.heap.size → w1.cell? ⟨b, o, none⟩ = W.cell? ⟨b, o, none⟩) ∧ (∀ b o, b < W.heap.size → w1.frozen? ⟨b, o, none⟩ = W.frozen? ⟨b, o, none⟩) :=
  ⟨fun b o h => hb.cell (p := ⟨b, o, none⟩) h, fun b o h => hb.frozen (p := ⟨b, o, none⟩) h⟩
theorem bset {a W : World} {b : Nat} (h : Below a.heap.size a W) (hb : a.heap.size ≤ b) (o : Nat) (v : Value) : Below a.heap.size a (W.setCell ⟨b, o, none⟩ v) := h.setCell hb _
theorem Tw.lt {n h l : Nat} (t : Tw n h l) : n < 340282366920938463463374607431768211456 := by
  obtain ⟨e, a, b⟩ := t; omega
/-! ### cmp -/
theorem isnan_any (x : Nat) (w : World) : Calls Try.prog 56 #[.int .u64 x] w fun e w' => e = .returned (.bool false) ∧ w' = w := by
  refine cps fun Q hQ => ?_
  go_enter Try.func56, Try.ntmps56
  go_wp2
  exact hQ.out _ _ ⟨by simp, rfl⟩
theorem compare_any (x y : Nat) (w : World) : Calls Try.prog 51 #[.int .u64 x, .int .u64 y] w fun e w' => e = .returned (.int .i64 (cmpN x y)) ∧ w' = w := by
  refine cps fun Q hQ => ?_
  have hE : (x < y ∧ cmpN x y = -1) ∨ (y < x ∧ cmpN x y = 1) ∨ (x = y ∧ cmpN x y = 0) := by
    unfold cmpN; split
    · exact .inl ⟨by assumption, rfl⟩
    · split
      · exact .inr (.inr ⟨by assumption, rfl⟩)
      · exact .inr (.inl ⟨by omega, rfl⟩)
  rcases hE with ⟨h, hE⟩ | ⟨h, hE⟩ | ⟨h, hE⟩
  all_goals
    rw [hE] at hQ
    have hlt : ((x : Int) < (y : Int)) = (x < y) := by simp
    clear hE
    go_enter Try.func51, Try.ntmps51
    go_wp2_with (go_at_call 56; refine (isnan_any _ _).mono ?_; rintro e w' ⟨rfl, hw⟩; rw [hw]; clear hw w')
    exact hQ.out _ _ ⟨rfl, rfl⟩
theorem or_any (x y : Int) (g : Nat) (w : World) (c1 : w.cell? ⟨g, 0, none⟩ = some (.int .i64 x)) (c2 : w.cell? ⟨g, 1, none⟩ = some (.int .i64 y)) :
    Calls Try.prog 50 #[.slice (some ⟨g, 0, none⟩) 2 2] w fun e w' => e = .returned (.int .i64 (if x = 0 then y else x)) ∧ w' = w := by
  refine cps fun Q hQ => ?_
  go_enter Try.func50, Try.ntmps50
  go_wp2
  go_loop [8] (fun i => i = .int .i64 0 ∨ (i = .int .i64 1 ∧ x = 0) ∨ (i = .int .i64 2 ∧ x = 0 ∧ y = 0)) (fun i => (2 - intOf i).toNat)
  case atStart => exact .inl rfl
  case round =>
    rcases hrel with rfl | ⟨rfl, hx⟩ | ⟨rfl, hx, hy⟩
    · by_cases hx : x = 0
      · subst hx
        go_wp2
        go_round
        case rel => exact .inr (.inl ⟨rfl, by trivial⟩)
        case measure => simp [intOf]
      · rw [if_neg hx] at hQ
        go_wp2
        exact hQ.out _ _ ⟨rfl, rfl⟩
    · subst hx
      rw [if_pos rfl] at hQ
      by_cases hy : y = 0
      · subst hy
        go_wp2
        go_round
        case rel => exact .inr (.inr ⟨rfl, by trivial, by trivial⟩)
        case measure => simp [intOf]
      · go_wp2
        exact hQ.out _ _ ⟨rfl, rfl⟩
    · subst hx hy
      rw [if_pos rfl] at hQ
      go_wp2
      exact hQ.out _ _ ⟨rfl, rfl⟩
theorem or_any' (x y z : Int) (hz : z = if x = 0 then y else x) (g : Nat) (w : World) (c1 : w.cell? ⟨g, 0, none⟩ = some (.int .i64 x)) (c2 : w.cell? ⟨g, 1, none⟩ = some (.int .i64 y)) :
    Calls Try.prog 50 #[.slice (some ⟨g, 0, none⟩) 2 2] w fun e w' => e = .returned (.int .i64 z) ∧ w' = w := by rw [hz]; exact or_any x y g w c1 c2
theorem cmp_words {a b h1 l1 h2 l2 : Nat} (ha : Tw a h1 l1) (hb : Tw b h2 l2) : (if cmpN h1 h2 = 0 then cmpN l1 l2 else cmpN h1 h2) = cmpN a b := by
  obtain ⟨ea, ha1, ha2⟩ := ha
  obtain ⟨eb, hb1, hb2⟩ := hb
  rcases Nat.lt_trichotomy h1 h2 with h | h | h
  · rw [cmpN_lt h, cmpN_lt (show a < b by omega)]; rfl
  · subst h
    rw [cmpN_eq, if_pos rfl]
    rcases Nat.lt_trichotomy l1 l2 with h | h | h
    · rw [cmpN_lt h, cmpN_lt (show a < b by omega)]
    · subst h; rw [cmpN_eq, show a = b by omega, cmpN_eq]
    · rw [cmpN_gt h, cmpN_gt (show b < a by omega)]
  · rw [cmpN_gt h, cmpN_gt (show b < a by omega)]; rfl
theorem cmpN_rng (x y : Nat) : -1 ≤ cmpN x y ∧ cmpN x y ≤ 1 := by unfold cmpN; split <;> (try split) <;> omega

/-! ### Len -/
theorem bitLen_eq (x : Nat) (hx : x ≤ 18446744073709551615) : Lib.bitLen x = blen x := by
  have h1 : ∀ f x : Nat, x < 2 ^ f → Lib.bitLenAux f x = blen x := by
    intro f
    induction f with
    | zero => intro x h; have : x = 0 := by omega
              subst this; rw [blen_zero]; rfl
    | succ f ih =>
      intro x h
      unfold Lib.bitLenAux
      by_cases h0 : x = 0
      · subst h0; rw [blen_zero]; rfl
      · rw [if_neg h0, blen_pos h0, ih _ (by rw [Nat.pow_succ] at h; omega), Nat.add_comm]
  exact h1 64 x (by omega)
theorem tlen_any {a h1 l1 : Nat} (ha : Tw a h1 l1) (w : World) :
    Calls Try.prog 55 #[.agg #[.int .u64 h1, .int .u64 l1]] w fun e w' => e = .returned (.int .i64 (blen a)) ∧ Below w.heap.size w w' := by
  refine cps fun Q hQ => ?_
  obtain ⟨ea, ha1, ha2⟩ := ha
  have r : ∀ (x : Nat) (hx : x ≤ 18446744073709551615) (w : World), Calls Try.prog 54 #[.int .u64 x] w fun e w' => e = .returned (.int .i64 (blen x)) ∧ w' = w := fun x hx w => by
    rw [← bitLen_eq x hx]; exact len64_any x (by omega) w
  by_cases h0 : h1 = 0
  · have e : a = l1 := by omega
    rw [e] at hQ
    have r2 := r l1 ha2
    clear r e ea
    subst h0
    go_enter Try.func55, Try.ntmps55
    go_wp2_with (go_at_call 54; refine (r2 _).mono ?_; rintro e w' ⟨rfl, hw⟩; rw [hw]; clear hw w')
    exact hQ.out _ _ ⟨rfl, bmore (Below.refl _ _) _⟩
  · have hd : a / 2 ^ 64 = h1 := by omega
    have e := blen_shift (a := a) (k := 64) (by omega)
    rw [hd] at e
    rw [e] at hQ
    have r2 := r h1 ha1
    have hb : blen h1 ≤ 64 := blen_le.2 (by omega)
    generalize blen h1 = L at *
    clear r e ea hd
    go_enter Try.func55, Try.ntmps55
    go_wp2_with (go_at_call 54; refine (r2 _).mono ?_; rintro e w' ⟨rfl, hw⟩; rw [hw]; clear hw w')
    exact hQ.out _ _ ⟨ret_i (by omega), bmore (Below.refl _ _) _⟩
end Go.Proofs.Ytpjegpgnelfeeab

namespace Go.Proofs.Ytpjegpgnelfeeab
open Go.ChangeShapes Go.WideShapes Go.ChangeAt Go.RowKit
set_option linter.unusedVariables false

/-! ### a region whose order is open, some of whose operations read cells that stand still throughout (the class C of worlds) -/
section
variable {P : Program} {ops : Array Oper} {Q : Exit → Act → World → Prop} {md : Region.Mode} {C : World → Prop}

/-- an operation carried past a slot that it doesn't look at; Y: what is known of the slots all the while -/
theorem wpOp_past {j : Nat} {oj : Oper} {dst : Option Tmp} {v : Value} (hj : ops[j]? = some oj)
    (h1 : ∀ d, dst = some d → d ∉ oj.looksAt ops) (h2 : ∀ d, dst = some d → oj.dst ≠ some d) (hsj : ∀ cs b, oj.op ≠ .select cs b)
    (hQ : ∀ c a w, Q (.panic c) (a.put dst v) w → Q (.panic c) a w) {Y : Act → Prop} (hY : ∀ a u, Y a → Y (a.put oj.dst u))
    (hD : ∀ a d, Y a → Y { a with defers := d :: a.defers }) {K : Act → World → Prop} {a : Act} {w : World} (hy : Y a)
    (h : wpOp P ops Q j K (a.put dst v) w) : wpOp P ops Q j (fun a' w' => Y a' ∧ K (a'.put dst v) w') a w := by
  have back : ∀ (b : Act) u w', Y b → K ((b.put dst v).put oj.dst u) w' → Y (b.put oj.dst u) ∧ K ((b.put oj.dst u).put dst v) w' :=
    fun b u w' hb hk => ⟨hY b u hb, by rw [← Act.put_comm b v u h2]; exact hk⟩
  unfold wpOp at h ⊢
  rw [hj] at h ⊢
  simp only [wanted_put oj a dst v h1] at h
  by_cases hw : Region.wanted oj (yielded ops a.tmps) = true
  · simp only [hw, if_true] at h ⊢
    rcases h with h | ⟨ha, hl⟩
    · refine .inl ?_
      unfold Oper.wp at h ⊢
      rw [execOp_put oj hsj a dst v h1] at h
      cases hr : (execOp a.eval oj).run P w with
      | halt x w' =>
        rw [hr] at h
        cases x <;> simp only [Oper.upon] at h ⊢
        exact hQ _ _ _ h
      | ok n w' =>
        rw [hr] at h
        cases n <;> simp only [Oper.upon] at h ⊢
        case value u => exact back a u w' hy h
        case skip => exact back a undef w' hy h
        case defer d =>
          refine back _ undef w' (hD a d hy) ?_
          rw [← Act.put_defers]; exact h
        case enter f args =>
          refine Calls.mono h fun e w'' he => ?_
          cases e with
          | returned u => exact back a u w'' hy he
          | panicked c => exact hQ _ _ _ he
          | outgrown => exact he
        case row r1 r2 => exact Rows.mono h fun u w'' he => back a u w'' hy he
    · refine .inr ⟨?_, hl⟩
      unfold Oper.asks at ha ⊢
      rw [execOp_put oj hsj a dst v h1] at ha
      exact ha
  · simp only [hw] at h ⊢
    exact back a undef w hy h

/-- o yields v in whatever world of the class -/
def YieldsC (C : World → Prop) (P : Program) (ops : Array Oper) (o : Oper) (v : Value) (a : Act) : Prop :=
  (Region.wanted o (yielded ops a.tmps) = true ∧ ∀ w, C w → (execOp a.eval o).run P w = .ok (.value v) w) ∨
  (Region.wanted o (yielded ops a.tmps) = false ∧ v = undef)
/-- every order, and the world stays in the class -/
def wpAnyC (C : World → Prop) (P : Program) (md : Region.Mode) (ops : Array Oper) (Q : Exit → Act → World → Prop) : Nat → Array Bool → Act → World → Prop
  | 0, listed, a, w => C w ∧ Region.ready md ops listed = [] ∧ Q .normal a w
  | fuel + 1, listed, a, w => C w ∧ (Region.ready md ops listed = [] → Q .normal a w) ∧
      ∀ i ∈ Region.ready md ops listed, wpOp P ops Q i (wpAnyC C P md ops Q fuel (listed.setIfInBounds i true)) a w
theorem wpAnyC_sound : ∀ (fuel : Nat) (listed : Array Bool) (a : Act) (w : World), wpAnyC C P md ops Q fuel listed a w → wpAny P md ops Q fuel listed a w
  | 0, _, _, _, h => h.2
  | fuel + 1, listed, _, _, h => ⟨h.2.1, fun i hi => wpOp_mono (fun a w => wpAnyC_sound fuel (listed.setIfInBounds i true) a w) (h.2.2 i hi)⟩
theorem wpAnyC_cls {fuel : Nat} {listed : Array Bool} {a : Act} {w : World} (h : wpAnyC C P md ops Q fuel listed a w) : C w := by
  cases fuel <;> exact h.1
theorem wpC_first {i : Nat} {oi : Oper} {v : Value} (hi : ops[i]? = some oi) (hsel : ∀ (j : Nat) (o : Oper) cs b, ops[j]? = some o → o.op ≠ .select cs b)
    (hQ : ∀ c a w, Q (.panic c) (a.put oi.dst v) w → Q (.panic c) a w) :
    ∀ (fuel : Nat) (listed : Array Bool) (a : Act) (w : World),
      (∀ j oj, ops[j]? = some oj → j ≠ i → listed.getD j true = false → (∀ e ∈ oj.after, Region.binds md e = true → e.on ≠ i) → oi.apart ops oj = true) →
      i ∈ Region.ready md ops listed → YieldsC C P ops oi v a →
      wpAnyC C P md ops Q fuel (listed.setIfInBounds i true) (a.put oi.dst v) w → wpAnyC C P md ops Q (fuel + 1) listed a w := by
  intro fuel
  induction fuel with
  | zero =>
    intro listed a w _ hr hy H
    refine ⟨H.1, fun h => (by rw [h] at hr; cases hr), fun j hj => ?_⟩
    by_cases hji : j = i
    · subst hji
      unfold wpOp
      simp only [hi]
      rcases hy with ⟨hw, hv⟩ | ⟨hw, rfl⟩
      · simp only [hw, if_true, Oper.wp, hv w H.1, Oper.upon]; exact .inl H
      · simp only [hw]; exact H
    · have := ready_mono hj hji
      rw [H.2.1] at this
      cases this
  | succ fuel ih =>
    intro listed a w hfree hr hy H
    refine ⟨H.1, fun h => (by rw [h] at hr; cases hr), fun j hj => ?_⟩
    by_cases hji : j = i
    · subst hji
      unfold wpOp
      simp only [hi]
      rcases hy with ⟨hw, hv⟩ | ⟨hw, rfl⟩
      · simp only [hw, if_true, Oper.wp, hv w H.1, Oper.upon]; exact .inl H
      · simp only [hw]; exact H
    · have g := H.2.2 j (ready_mono hj hji)
      obtain ⟨hjun, oj, hoj, hall⟩ := mem_ready.1 hj
      have hnot : ∀ e ∈ oj.after, Region.binds md e = true → e.on ≠ i := fun e he hb heq => by
        have g1 := hall e he hb
        have g0 := (mem_ready.1 hr).1
        rw [heq] at g1
        rcases Nat.lt_or_ge i listed.size with h' | h'
        · simp [h'] at g0 g1; rw [g0] at g1; cases g1
        · simp [Array.getElem?_eq_none h'] at g1
      obtain ⟨a1, a2, a3⟩ := Oper.apart_spec (hfree j oj hoj hji hjun hnot)
      have g2 := wpOp_past hoj a1 a2 (fun cs b => hsel j oj cs b hoj) hQ (Y := fun b => YieldsC C P ops oi v b)
        (fun b u hb => by unfold YieldsC at *; rw [execOp_put oi (fun cs d => hsel i oi cs d hi) b oj.dst u a3, wanted_put oi b oj.dst u a3]; exact hb)
        (fun b d hb => hb) hy g
      have hfree' : ∀ k ok, ops[k]? = some ok → k ≠ i → (listed.setIfInBounds j true).getD k true = false →
          (∀ e ∈ ok.after, Region.binds md e = true → e.on ≠ i) → oi.apart ops ok = true := fun k ok hk hki hun hno => by
        refine hfree k ok hk hki ?_ hno
        by_cases hjk : j = k
        · subst hjk; exact hjun
        · rw [getD_set_ne true hjk] at hun; exact hun
      refine wpOp_mono (fun a' w' g3 => ih (listed.setIfInBounds j true) a' w' hfree' (ready_mono hr (Ne.symm hji)) g3.1 ?_) g2
      rw [Array.setIfInBounds_comm _ _ hji]
      exact g3.2
/-- such an operation goes first -/
theorem wpC_take (i : Nat) {oi : Oper} {v : Value} {fuel : Nat} {listed : Array Bool} {a : Act} {w : World} (hi : ops[i]? = some oi)
    (hf : (Region.noSelect ops && Region.free md ops listed i && (Region.ready md ops listed).contains i) = true)
    (hQ : ∀ c a w, Q (.panic c) (a.put oi.dst v) w → Q (.panic c) a w) (hwant : Region.wanted oi (yielded ops a.tmps) = true)
    (hy : ∀ w, C w → (execOp a.eval oi).run P w = .ok (.value v) w)
    (h : wpAnyC C P md ops Q fuel (listed.setIfInBounds i true) (a.put oi.dst v) w) : wpAnyC C P md ops Q (fuel + 1) listed a w := by
  simp only [Bool.and_eq_true] at hf
  exact wpC_first hi (Region.noSelect_spec hf.1.1) hQ fuel listed a w (Region.free_spec hi hf.1.2) (by simpa using hf.2) (.inl ⟨hwant, hy⟩) h
/-- one alone may come next -/
theorem wpC_step (i : Nat) {o : Oper} {fuel : Nat} {listed : Array Bool} {a : Act} {w : World} (hi : ops[i]? = some o)
    (hr : Region.ready md ops listed = [i]) (hwant : Region.wanted o (yielded ops a.tmps) = true) (hC : C w)
    (h : ∀ K : Act → World → Prop, (∀ a w, wpAnyC C P md ops Q fuel (listed.setIfInBounds i true) a w → K a w) → Oper.wp P o a w K Q) :
    wpAnyC C P md ops Q (fuel + 1) listed a w := by
  refine ⟨hC, fun h0 => (by rw [h0] at hr; cases hr), fun j hj => ?_⟩
  rw [hr] at hj
  have : j = i := by simpa using hj
  subst this
  unfold wpOp
  simp only [hi, hwant, if_true]
  exact .inl (h _ fun _ _ g => g)
/-- one of two may come next -/
theorem wpC_two (i i' : Nat) {o o' : Oper} {fuel : Nat} {listed : Array Bool} {a : Act} {w : World} (hi : ops[i]? = some o) (hi' : ops[i']? = some o')
    (hr : Region.ready md ops listed = [i, i']) (hwant : Region.wanted o (yielded ops a.tmps) = true) (hwant' : Region.wanted o' (yielded ops a.tmps) = true) (hC : C w)
    (h : ∀ K : Act → World → Prop, (∀ a w, wpAnyC C P md ops Q fuel (listed.setIfInBounds i true) a w → K a w) → Oper.wp P o a w K Q)
    (h' : ∀ K : Act → World → Prop, (∀ a w, wpAnyC C P md ops Q fuel (listed.setIfInBounds i' true) a w → K a w) → Oper.wp P o' a w K Q) :
    wpAnyC C P md ops Q (fuel + 1) listed a w := by
  refine ⟨hC, fun h0 => (by rw [h0] at hr; cases hr), fun j hj => ?_⟩
  rw [hr] at hj
  have hj : j = i ∨ j = i' := by simpa using hj
  unfold wpOp
  rcases hj with rfl | rfl
  · simp only [hi, hwant, if_true]
    exact .inl (h _ fun _ _ g => g)
  · simp only [hi', hwant', if_true]
    exact .inl (h' _ fun _ _ g => g)
theorem wpC_done {listed : Array Bool} {fuel : Nat} {a : Act} {w : World} (hr : Region.ready md ops listed = []) (hC : C w) (h : Q .normal a w) : wpAnyC C P md ops Q fuel listed a w := by
  cases fuel with
  | zero => exact ⟨hC, hr, h⟩
  | succ fuel => exact ⟨hC, fun _ => h, fun i hi => by rw [hr] at hi; cases hi⟩
theorem wpC_region (C : World → Prop) {id : Nat} {a : Act} {w : World} (hm : P.follows .mixedOrders = true)
    (h : wpAnyC C P .any ops Q ops.size (Array.replicate ops.size false) a w.drew) : (Code.region id ops true).wp P Q a w :=
  wp_region_any hm (wpAnyC_sound _ _ _ _ h)
end
end Go.Proofs.Ytpjegpgnelfeeab

namespace Go.Proofs.Ytpjegpgnelfeeab
open Go.ChangeShapes Go.WideShapes Go.ChangeAt Go.RowKit
set_option linter.unusedVariables false

theorem up_near (h1 l1 k : Nat) (hh : h1 ≤ 18446744073709551615) (hl : l1 ≤ 18446744073709551615) (hk : k < 64) :
    Tw ((h1 * 18446744073709551616 + l1) * 2 ^ k % 340282366920938463463374607431768211456) (((h1 <<< k) % 2 ^ 64) ||| (l1 >>> (64 - k))) ((l1 <<< k) % 2 ^ 64) := by
  have e : 2 ^ 64 = 2 ^ k * 2 ^ (64 - k) := by rw [← Nat.pow_add]; congr 1; omega
  have hp : 0 < 2 ^ k := Nat.pow_pos (by decide)
  have hq : 0 < 2 ^ (64 - k) := Nat.pow_pos (by decide)
  have h3 : l1 >>> (64 - k) < 2 ^ k := by
    rw [Nat.shiftRight_eq_div_pow]; exact Nat.div_lt_of_lt_mul (by rw [Nat.mul_comm, ← e]; omega)
  have h4 : (h1 <<< k) % 2 ^ 64 = (h1 % 2 ^ (64 - k)) <<< k := by
    rw [Nat.shiftLeft_eq, Nat.shiftLeft_eq, e, Nat.mul_comm h1, Nat.mul_mod_mul_left, Nat.mul_comm]
  have h5 : ((h1 <<< k) % 2 ^ 64) ||| (l1 >>> (64 - k)) = (h1 <<< k) % 2 ^ 64 + l1 >>> (64 - k) := by
    rw [h4, Nat.shiftLeft_add_eq_or_of_lt h3]
  rw [h5]
  have h6 : l1 * 2 ^ k = (l1 >>> (64 - k)) * 2 ^ 64 + (l1 <<< k) % 2 ^ 64 := by
    rw [Nat.shiftRight_eq_div_pow, Nat.shiftLeft_eq]
    have h7 : l1 / 2 ^ (64 - k) = l1 * 2 ^ k / 2 ^ 64 := by rw [e, Nat.mul_comm (2 ^ k) (2 ^ (64 - k)), Nat.mul_div_mul_right _ _ hp]
    rw [h7]; omega
  have h8 : (h1 * 18446744073709551616 + l1) * 2 ^ k = h1 * 2 ^ k * 18446744073709551616 + l1 * 2 ^ k := by rw [Nat.add_mul, Nat.mul_right_comm]
  have h9 : (h1 <<< k) = h1 * 2 ^ k := Nat.shiftLeft_eq _ _
  have h10 : h1 * 2 ^ k % 2 ^ 64 + l1 >>> (64 - k) < 2 ^ 64 := by
    rw [← h9, h4, Nat.shiftLeft_eq]
    have := Nat.mod_lt h1 hq
    have h11 : (h1 % 2 ^ (64 - k) + 1) * 2 ^ k ≤ 2 ^ (64 - k) * 2 ^ k := Nat.mul_le_mul this (Nat.le_refl _)
    rw [Nat.add_mul, Nat.one_mul, Nat.mul_comm (2 ^ (64 - k)), ← e] at h11
    omega
  rw [h8, h6, h9]
  generalize h1 * 2 ^ k = X at *
  generalize l1 >>> (64 - k) = Y at *
  have hz : l1 <<< k % 2 ^ 64 < 2 ^ 64 := Nat.mod_lt _ (by decide)
  generalize l1 <<< k % 2 ^ 64 = Z at *
  clear h3 h4 h5 h6 h8 h9 e hp hq
  refine ⟨by omega, by omega, by omega⟩
theorem up_far (h1 l1 k : Nat) (hk : 64 ≤ k) : Tw ((h1 * 18446744073709551616 + l1) * 2 ^ k % 340282366920938463463374607431768211456) ((l1 <<< (k - 64)) % 2 ^ 64) 0 := by
  have e : 2 ^ k = 2 ^ (k - 64) * 2 ^ 64 := by rw [← Nat.pow_add]; congr 1; omega
  have h8 : (h1 * 18446744073709551616 + l1) * 2 ^ k = h1 * 2 ^ (k - 64) * 340282366920938463463374607431768211456 + l1 * 2 ^ (k - 64) * 18446744073709551616 := by
    rw [e, Nat.add_mul, show (340282366920938463463374607431768211456 : Nat) = 2 ^ 64 * 2 ^ 64 by decide, show (18446744073709551616 : Nat) = 2 ^ 64 by decide]
    rw [← Nat.mul_assoc l1, ← Nat.mul_assoc (h1 * 2 ^ (k - 64)), Nat.mul_assoc h1 (2 ^ 64), Nat.mul_comm (2 ^ 64) (2 ^ (k - 64) * 2 ^ 64), ← Nat.mul_assoc h1, ← Nat.mul_assoc h1]
  rw [h8, Nat.shiftLeft_eq]
  generalize h1 * 2 ^ (k - 64) = X
  generalize l1 * 2 ^ (k - 64) = Y
  refine ⟨by omega, by omega, by omega⟩
theorem down_near (h1 l1 k : Nat) (hh : h1 ≤ 18446744073709551615) (hl : l1 ≤ 18446744073709551615) (hk : k < 64) :
    Tw ((h1 * 18446744073709551616 + l1) / 2 ^ k) (h1 >>> k) ((l1 >>> k) ||| ((h1 <<< (64 - k)) % 2 ^ 64)) := by
  have e : 2 ^ 64 = 2 ^ k * 2 ^ (64 - k) := by rw [← Nat.pow_add]; congr 1; omega
  have hp : 0 < 2 ^ k := Nat.pow_pos (by decide)
  have hq : 0 < 2 ^ (64 - k) := Nat.pow_pos (by decide)
  have h3 : l1 >>> k < 2 ^ (64 - k) := by
    rw [Nat.shiftRight_eq_div_pow]; exact Nat.div_lt_of_lt_mul (by rw [← e]; omega)
  have h4 : (h1 <<< (64 - k)) % 2 ^ 64 = (h1 % 2 ^ k) <<< (64 - k) := by
    rw [Nat.shiftLeft_eq, Nat.shiftLeft_eq, e, Nat.mul_mod_mul_right]
  have h5 : (l1 >>> k) ||| ((h1 <<< (64 - k)) % 2 ^ 64) = (h1 % 2 ^ k) * 2 ^ (64 - k) + l1 >>> k := by
    rw [h4, Nat.or_comm, ← Nat.shiftLeft_add_eq_or_of_lt h3, Nat.shiftLeft_eq]
  rw [h5]
  have h7 : h1 * 18446744073709551616 + l1 = (h1 / 2 ^ k * 18446744073709551616 + h1 % 2 ^ k * 2 ^ (64 - k)) * 2 ^ k + l1 := by
    have a1 : h1 * 18446744073709551616 = (2 ^ k * (h1 / 2 ^ k) + h1 % 2 ^ k) * 18446744073709551616 := by rw [Nat.div_add_mod]
    have a2 : h1 % 2 ^ k * 18446744073709551616 = h1 % 2 ^ k * 2 ^ (64 - k) * 2 ^ k := by
      rw [Nat.mul_assoc, Nat.mul_comm (2 ^ (64 - k)), ← e]
    rw [a1, Nat.add_mul, a2, Nat.add_mul, Nat.mul_comm (2 ^ k), Nat.mul_right_comm]
  rw [h7, Nat.add_comm, Nat.add_mul_div_right _ _ hp, Nat.shiftRight_eq_div_pow, Nat.shiftRight_eq_div_pow]
  rw [Nat.shiftRight_eq_div_pow] at h3
  have h8 : (h1 % 2 ^ k) * 2 ^ (64 - k) + l1 / 2 ^ k < 2 ^ 64 := by
    have := Nat.mod_lt h1 hp
    have h11 : (h1 % 2 ^ k + 1) * 2 ^ (64 - k) ≤ 2 ^ k * 2 ^ (64 - k) := Nat.mul_le_mul this (Nat.le_refl _)
    rw [Nat.add_mul, Nat.one_mul, ← e] at h11
    omega
  have h9 : h1 / 2 ^ k ≤ h1 := Nat.div_le_self _ _
  generalize (h1 % 2 ^ k) * 2 ^ (64 - k) = X at *
  generalize l1 / 2 ^ k = Y at *
  generalize h1 / 2 ^ k = Z at *
  clear h3 h4 h5 h7 e hp hq
  refine ⟨by omega, by omega, by omega⟩
theorem down_far (h1 l1 k : Nat) (hh : h1 ≤ 18446744073709551615) (hl : l1 ≤ 18446744073709551615) (hk : 64 ≤ k) :
    Tw ((h1 * 18446744073709551616 + l1) / 2 ^ k) 0 (h1 >>> (k - 64)) := by
  have e : 2 ^ k = 2 ^ 64 * 2 ^ (k - 64) := by rw [← Nat.pow_add]; congr 1; omega
  rw [e, ← Nat.div_div_eq_div_mul, Nat.shiftRight_eq_div_pow, show (h1 * 18446744073709551616 + l1) / 2 ^ 64 = h1 by omega]
  have := Nat.div_le_self h1 (2 ^ (k - 64))
  refine ⟨by omega, by omega, by omega⟩

theorem shl_min (x i : Nat) : (x <<< i) % 2 ^ 64 = (x <<< (min i 64)) % 2 ^ 64 := by
  by_cases h : i ≤ 64
  · rw [Nat.min_eq_left h]
  · rw [Nat.min_eq_right (by omega), Nat.shiftLeft_eq, Nat.shiftLeft_eq, Nat.mul_mod_left, show 2 ^ i = 2 ^ (i - 64) * 2 ^ 64 by rw [← Nat.pow_add]; congr 1; omega, ← Nat.mul_assoc, Nat.mul_mod_left]
theorem shr_min (x i : Nat) (hx : x ≤ 18446744073709551615) : x >>> i = x >>> (min i 64) := by
  by_cases h : i ≤ 64
  · rw [Nat.min_eq_left h]
  · have h1 : 2 ^ 64 ≤ 2 ^ i := Nat.pow_le_pow_right (by decide) (by omega)
    rw [Nat.min_eq_right (by omega), Nat.shiftRight_eq_div_pow, Nat.shiftRight_eq_div_pow, Nat.div_eq_of_lt (by omega), Nat.div_eq_of_lt (by omega)]
theorem Tw.one {n h l h' l' : Nat} (a : Tw n h l) (b : Tw n h' l') : h = h' ∧ l = l' := by
  obtain ⟨e, a1, a2⟩ := a
  obtain ⟨e', b1, b2⟩ := b
  omega
set_option maxHeartbeats 1000000 in
theorem up_any {a h1 l1 h l : Nat} (k : Nat) (hk : k ≤ 9223372036854775807) (ha : Tw a h1 l1) (hs : Tw ((a * 2 ^ k) % 340282366920938463463374607431768211456) h l) (w : World) :
    Calls Try.prog 28 #[.agg #[.int .u64 h1, .int .u64 l1], .int .i64 k] w fun e w' => e = .returned (.agg #[.int .u64 h, .int .u64 l]) ∧ Below w.heap.size w w' := by
  refine cps fun Q hQ => ?_
  obtain ⟨ea, hh, hl⟩ := ha
  rw [ea] at hs
  by_cases h64 : 64 ≤ k
  · obtain ⟨e1, e2⟩ := hs.one (up_far h1 l1 k h64)
    obtain ⟨i, rfl⟩ : ∃ i, k = 64 + i := ⟨k - 64, by omega⟩
    rw [show 64 + i - 64 = i by omega] at e1
    have hv := wrapShl l1 (min i 64)
    rw [← shl_min, ← e1] at hv
    subst e2
    have hki : ((64 + i : Nat) : Int) - 64 = i := by omega
    clear hs e1 ea
    have hk64 : (64 : Int) ≤ ((64 + i : Nat) : Int) := by omega
    generalize ((64 + i : Nat) : Int) = K at *
    go_enter Try.func28, Try.ntmps28
    go_wp2
    refine bodyPost_ret (v := .agg #[.int .u64 h, .int .u64 0]) (by simp [results, Try.results28, go_sem]) rfl (hQ.out _ _ ⟨rfl, ?_⟩)
    exact bmore (bmore (Below.refl _ _) _) _
  · obtain ⟨e1, e2⟩ := hs.one (up_near h1 l1 k hh hl (by omega))
    have v1 := wrapShl h1 k
    have v2 := wrapShl l1 k
    have v3 := shrN l1 (64 - k)
    have v4 := u64_or_nat ((h1 <<< k) % 2 ^ 64) (l1 >>> (64 - k)) (Nat.mod_lt _ (by decide)) (Nat.lt_of_le_of_lt (Nat.shiftRight_le _ _) (by omega))
    rw [← e1] at v4
    rw [← e2] at v2
    have hk1 : k < 64 := by omega
    have hq : (64 : Int) - k = ((64 - k : Nat) : Int) := by omega
    clear hs e1 e2 ea h64
    generalize 64 - k = j at *
    generalize l1 >>> j = x at *
    generalize h1 <<< k % 2 ^ 64 = y at *
    go_enter Try.func28, Try.ntmps28
    go_wp2
    go_region
    all_goals
      go_wp2
      refine bodyPost_ret (v := .agg #[.int .u64 h, .int .u64 l]) (by simp [results, Try.results28, go_sem]) rfl (hQ.out _ _ ⟨rfl, ?_⟩)
      exact (bmore (bmore (Below.refl _ _) _) _).drew
set_option maxHeartbeats 1000000 in
theorem down_any {a h1 l1 h l : Nat} (k : Nat) (hk : k ≤ 9223372036854775807) (ha : Tw a h1 l1) (hs : Tw (a / 2 ^ k) h l) (w : World) :
    Calls Try.prog 29 #[.agg #[.int .u64 h1, .int .u64 l1], .int .i64 k] w fun e w' => e = .returned (.agg #[.int .u64 h, .int .u64 l]) ∧ Below w.heap.size w w' := by
  refine cps fun Q hQ => ?_
  obtain ⟨ea, hh, hl⟩ := ha
  rw [ea] at hs
  by_cases h64 : 64 ≤ k
  · obtain ⟨e1, e2⟩ := hs.one (down_far h1 l1 k hh hl h64)
    obtain ⟨i, rfl⟩ : ∃ i, k = 64 + i := ⟨k - 64, by omega⟩
    rw [show 64 + i - 64 = i by omega] at e2
    have hv := shrN h1 (min i 64)
    rw [← shr_min _ _ hh, ← e2] at hv
    subst e1
    have hki : ((64 + i : Nat) : Int) - 64 = i := by omega
    clear hs e2 ea
    have hk64 : (64 : Int) ≤ ((64 + i : Nat) : Int) := by omega
    generalize ((64 + i : Nat) : Int) = K at *
    go_enter Try.func29, Try.ntmps29
    go_wp2
    refine bodyPost_ret (v := .agg #[.int .u64 0, .int .u64 l]) (by simp [results, Try.results29, go_sem]) rfl (hQ.out _ _ ⟨rfl, ?_⟩)
    exact bmore (bmore (Below.refl _ _) _) _
  · obtain ⟨e1, e2⟩ := hs.one (down_near h1 l1 k hh hl (by omega))
    have v1 := shrN h1 k
    have v2 := shrN l1 k
    have v3 := wrapShl h1 (64 - k)
    have v4 := u64_or_nat (l1 >>> k) ((h1 <<< (64 - k)) % 2 ^ 64) (Nat.lt_of_le_of_lt (Nat.shiftRight_le _ _) (by omega)) (Nat.mod_lt _ (by decide))
    rw [← e2] at v4
    rw [← e1] at v1
    have hk1 : k < 64 := by omega
    have hq : (64 : Int) - k = ((64 - k : Nat) : Int) := by omega
    clear hs e1 e2 ea h64
    generalize 64 - k = j at *
    generalize l1 >>> k = x at *
    generalize h1 <<< j % 2 ^ 64 = y at *
    go_enter Try.func29, Try.ntmps29
    go_wp2
    go_region
    all_goals
      go_wp2
      refine bodyPost_ret (v := .agg #[.int .u64 h, .int .u64 l]) (by simp [results, Try.results29, go_sem]) rfl (hQ.out _ _ ⟨rfl, ?_⟩)
      exact (bmore (bmore (Below.refl _ _) _) _).drew
end Go.Proofs.Ytpjegpgnelfeeab

namespace Go.Proofs.Ytpjegpgnelfeeab
open Go.ChangeShapes Go.WideShapes Go.ChangeAt Go.RowKit
set_option linter.unusedVariables false

/-! ### one digit (32 bits) of a quotient, as the library's Div64 finds it -/
theorem kn_up {u t a b T : Nat} (ha : 0 < a) (ht : t < 4294967296) (hT : T * (a * 4294967296 + b) ≤ u * 4294967296 + t) : T ≤ u / a := by
  rw [Nat.le_div_iff_mul_le ha]
  rw [Nat.mul_add, ← Nat.mul_assoc] at hT
  generalize T * a = x at *
  generalize T * b = z at *
  omega
theorem kn_more {q r u t a b T : Nat} (hq : q * a + r = u) (hlt : u < a * 4294967296 + b) (ht : t < 4294967296) (hT : T * (a * 4294967296 + b) ≤ u * 4294967296 + t)
    (hc : 4294967296 ≤ q ∨ r * 4294967296 + t < q * b) : T < q := by
  by_cases h : T < q
  · exact h
  · have h1 := Nat.mul_le_mul (Nat.le_of_not_lt h) (Nat.le_refl (a * 4294967296 + b))
    rcases hc with h2 | h2
    · have h3 := Nat.mul_le_mul h2 (Nat.le_refl (a * 4294967296 + b))
      omega
    · rw [Nat.mul_add q, ← Nat.mul_assoc] at h1
      generalize q * a = x at *
      generalize q * b = z at *
      omega
theorem kn_stop {q r u t a b T : Nat} (hq : q * a + r = u) (hc : q * b ≤ r * 4294967296 + t) (hT : u * 4294967296 + t < (T + 1) * (a * 4294967296 + b)) (h : T ≤ q) : q = T := by
  have h1 : q * (a * 4294967296 + b) < (T + 1) * (a * 4294967296 + b) := by
    refine Nat.lt_of_le_of_lt ?_ hT
    rw [Nat.mul_add q, ← Nat.mul_assoc]
    generalize q * a = x at *
    generalize q * b = z at *
    omega
  have := Nat.lt_of_mul_lt_mul_right h1
  omega
theorem kn_break {q r u t a b : Nat} (hq : q * a + r = u) (hlt : u < a * 4294967296 + b) (hb : b < 4294967296) (hr : 4294967296 ≤ r) : q * b ≤ r * 4294967296 + t := by
  have h1 : q < 4294967296 := by
    by_cases h : q < 4294967296
    · exact h
    · have := Nat.mul_le_mul (Nat.le_of_not_lt h) (Nat.le_refl a)
      omega
  have h2 := Nat.mul_le_mul (Nat.le_of_lt h1) (Nat.le_of_lt hb)
  omega
theorem div_at {U y q : Nat} (h1 : q * y ≤ U) (h2 : U < (q + 1) * y) : U / y = q := by
  rw [Nat.mul_comm] at h1 h2
  exact Nat.div_eq_of_lt_le (by rw [Nat.mul_comm]; exact h1) (by rw [Nat.mul_comm]; exact h2)

theorem lz64_any (x : Nat) (hx : x ≤ 18446744073709551615) (w : World) :
    Calls Try.prog 44 #[.int .u64 x] w fun e w' => e = .returned (.int .i64 ((64 - blen x : Nat) : Int)) ∧ w' = w := by
  have r2 := fun w => len64_any x (by omega) w
  rw [bitLen_eq x hx] at r2
  have hb : blen x ≤ 64 := blen_le.2 (by omega)
  generalize blen x = L at *
  refine cps fun Q hQ => ?_
  go_enter Try.func44, Try.ntmps44
  go_wp2_with (go_at_call 54; refine (r2 _).mono ?_; rintro e w' ⟨rfl, hw⟩; rw [hw]; clear hw w')
  exact hQ.out _ _ ⟨ret_i (by omega), rfl⟩
set_option maxHeartbeats 2000000 in
set_option maxRecDepth 100000 in
theorem div64_any (hi lo y : Nat) (hh : hi < y) (hl : lo ≤ 18446744073709551615) (hy : y ≤ 18446744073709551615) (w : World) :
    Calls Try.prog 30 #[.int .u64 hi, .int .u64 lo, .int .u64 y] w fun e w' => (∃ q r : Nat, e = .returned (.tuple #[.int .u64 q, .int .u64 r]) ∧ q = (hi * 18446744073709551616 + lo) / y ∧ r = (hi * 18446744073709551616 + lo) % y) ∧ ∃ n, w' = w.drewN n := by
  refine cps fun Q hQ => ?_
  by_cases h0 : hi = 0
  · subst h0
    have e1 : (0 * 18446744073709551616 + lo) / y = lo / y := by rw [Nat.zero_mul, Nat.zero_add]
    have e2 : (0 * 18446744073709551616 + lo) % y = lo % y := by rw [Nat.zero_mul, Nat.zero_add]
    rw [e1, e2] at hQ
    have h1 : lo / y ≤ lo := Nat.div_le_self _ _
    have h2 : lo % y < y := Nat.mod_lt _ (by omega)
    clear e1 e2
    have h3 : ¬ ((y : Int) = 0) := by omega
    obtain ⟨d, hd⟩ : ∃ d, d = lo / y := ⟨_, rfl⟩
    obtain ⟨m, hm⟩ : ∃ d, d = lo % y := ⟨_, rfl⟩
    have h4 : (lo : Int) / y = d := by rw [hd]; exact (Int.natCast_ediv lo y).symm
    have h5 : (lo : Int) % y = m := by rw [hm]; exact (Int.natCast_emod lo y).symm
    have h6 : IntKind.u64.wrap (d : Int) = d := wrapU d (by omega)
    rw [← hd, ← hm] at hQ
    clear hd hm h1 h2
    go_enter Try.func30, Try.ntmps30
    go_wp2
    go_region
    all_goals
      go_wp2
      exact hQ.out _ _ ⟨⟨d, m, (by rw [← h5]; rfl), rfl, rfl⟩, 1, rfl⟩
  · obtain ⟨s, hs⟩ : ∃ s, s = 64 - blen y := ⟨_, rfl⟩
    have k1 := fun w => lz64_any y (by omega) w
    rw [← hs] at k1
    have hb : blen y ≤ 64 := blen_le.2 (by omega)
    have hb0 : ¬ blen y ≤ 0 := fun h => by have := blen_le.1 h; omega
    have hb1 : ¬ y < 2 ^ (blen y - 1) := fun h => by have := blen_le.2 h; omega
    have hb2 : y < 2 ^ blen y := blen_le.1 (Nat.le_refl _)
    have hs1 : s < 64 := by omega
    obtain ⟨P, hP⟩ : ∃ P, P = 2 ^ s := ⟨_, rfl⟩
    have e1 : 2 ^ blen y * P = 2 ^ 64 := by rw [hP, ← Nat.pow_add]; congr 1; omega
    have e2 : 2 ^ (blen y - 1) * P = 2 ^ 63 := by rw [hP, ← Nat.pow_add]; congr 1; omega
    have p0 : 0 < P := by rw [hP]; exact Nat.pow_pos (by decide)
    have y1 : y * P < 2 ^ 64 := by rw [← e1]; exact Nat.mul_lt_mul_of_pos_right hb2 p0
    have y2 : 2 ^ 63 ≤ y * P := by rw [← e2]; exact Nat.mul_le_mul_right _ (Nat.le_of_not_lt hb1)
    clear e1 e2 hb hb0 hb1 hb2 hs
    obtain ⟨Y, hY⟩ : ∃ Y, Y = y * P := ⟨_, rfl⟩
    rw [← hY] at y1 y2
    have v1 : IntKind.u64.wrap ((y : Int) * 2 ^ s) = (Y : Int) := by
      rw [show ((y : Int) * 2 ^ s) = ((y * P : Nat) : Int) by rw [hP]; simp, ← hY]; exact wrapU Y (by omega)
    obtain ⟨a, ha⟩ : ∃ a, a = Y / 4294967296 := ⟨_, rfl⟩
    obtain ⟨b, hb⟩ : ∃ b, b = Y % 4294967296 := ⟨_, rfl⟩
    have v2 : (Y : Int) / 4294967296 = a := by omega
    have v3 := maskN Y (by omega)
    rw [← hb] at v3
    have a0 : 0 < a := by omega
    have a1 : a < 4294967296 := by omega
    have b1 : b < 4294967296 := by omega
    have ut := up_near hi lo s (by omega) (by omega) hs1
    have v4 := wrapShl hi s
    have v5 := shrN lo (64 - s)
    have v6 := u64_or_nat ((hi <<< s) % 2 ^ 64) (lo >>> (64 - s)) (Nat.mod_lt _ (by decide)) (Nat.lt_of_le_of_lt (Nat.shiftRight_le _ _) (by omega))
    have v7 := wrapShl lo s
    have hU : (hi * 18446744073709551616 + lo) * P < y * P * 18446744073709551616 := by
      have h1 : hi * 18446744073709551616 + lo < y * 18446744073709551616 := by omega
      have h2 := Nat.mul_lt_mul_of_pos_right h1 p0
      rw [Nat.mul_right_comm] at h2
      exact h2
    rw [← hY] at hU
    rw [← hP, Nat.mod_eq_of_lt (by omega)] at ut
    obtain ⟨X1, hX1⟩ : ∃ X, X = (hi <<< s) % 2 ^ 64 := ⟨_, rfl⟩
    obtain ⟨X2, hX2⟩ : ∃ X, X = lo >>> (64 - s) := ⟨_, rfl⟩
    rw [← hX1] at v4 v6 ut
    rw [← hX2] at v5 v6 ut
    obtain ⟨u, hu⟩ : ∃ X, X = X1 ||| X2 := ⟨_, rfl⟩
    obtain ⟨z, hz⟩ : ∃ X, X = (lo <<< s) % 2 ^ 64 := ⟨_, rfl⟩
    rw [← hu] at v6 ut
    rw [← hz] at v7 ut
    obtain ⟨ue, u1, z1⟩ := ut
    clear hX1 hX2 hu hz
    generalize hUP : (hi * 18446744073709551616 + lo) * P = UP at *
    have huY : u < Y := by omega
    obtain ⟨t1, ht1⟩ : ∃ X, X = z / 4294967296 := ⟨_, rfl⟩
    obtain ⟨t0, ht0⟩ : ∃ X, X = z % 4294967296 := ⟨_, rfl⟩
    have v8 : (z : Int) / 4294967296 = t1 := by omega
    have v9 := maskN z (by omega)
    rw [← ht0] at v9
    have hab : Y = a * 4294967296 + b := by omega
    obtain ⟨g, hg⟩ : ∃ X, X = u / a := ⟨_, rfl⟩
    have hg2 : g * a + u % a = u := by rw [hg]; exact Nat.div_add_mod' u a
    have hg3 : u % a < a := Nat.mod_lt _ a0
    obtain ⟨r0, hr0⟩ : ∃ X, X = u % a := ⟨_, rfl⟩
    rw [← hr0] at hg2 hg3
    have v10 : (u : Int).tdiv a = g := by rw [hg]; rfl
    have hgu : g ≤ u := by rw [hg]; exact Nat.div_le_self _ _
    have v11 := wrapU g (by omega)
    obtain ⟨m, hm⟩ : ∃ X, X = g * a := ⟨_, rfl⟩
    have v12 : IntKind.u64.wrap ((g : Int) * a) = m := by rw [mulN, ← hm]; exact wrapU m (by omega)
    have v13 : IntKind.u64.wrap ((u : Int) - m) = r0 := by rw [show (u : Int) - m = r0 by omega]; exact wrapU r0 (by omega)
    have hT1 := Nat.div_add_mod' (u * 4294967296 + t1) Y
    have hT2 := Nat.mod_lt (u * 4294967296 + t1) (show 0 < Y by omega)
    obtain ⟨T1, eT1⟩ : ∃ X, X = (u * 4294967296 + t1) / Y := ⟨_, rfl⟩
    obtain ⟨R1, eR1⟩ : ∃ X, X = (u * 4294967296 + t1) % Y := ⟨_, rfl⟩
    rw [← eT1, ← eR1] at hT1
    rw [← eR1] at hT2
    have HY : Hid (Y = y * P ∧ P = 2 ^ s ∧ Y < 2 ^ 64 ∧ 2 ^ 63 ≤ Y ∧ Y = a * 4294967296 + b ∧ 0 < P) := ⟨hY, hP, y1, y2, hab, p0⟩
    have HU : Hid ((hi * 18446744073709551616 + lo) * P = u * 18446744073709551616 + z ∧ z = t1 * 4294967296 + t0 ∧ u < Y) := ⟨by omega, by omega, huY⟩
    have HT : Hid (T1 * Y + R1 = u * 4294967296 + t1 ∧ R1 < Y) := ⟨hT1, hT2⟩
    have HV : Hid (T1 * Y ≤ u * 4294967296 + t1 ∧ u * 4294967296 + t1 < T1 * Y + Y ∧ u < Y) := ⟨by omega, by omega, huY⟩
    have u64 : u ≤ 18446744073709551615 := u1
    have HG : Hid (g = u / a ∧ g * a + r0 = u ∧ r0 < a) := ⟨hg, by omega, hg3⟩
    have t1b : t1 < 4294967296 := by omega
    have t0b : t0 < 4294967296 := by omega
    clear hY hP y1 y2 ha hb ue u1 z1 huY ht1 ht0 hab hg hg2 hg3 hr0 hgu hm hT1 hT2 eT1 eR1 p0 hUP hU
    go_enter Try.func30, Try.ntmps30
    go_upto_block 0 with (go_at_call 44; refine (k1 _).mono ?_; rintro e w' ⟨rfl, hw⟩; rw [hw]; clear hw w')
    go_cut [15, 16] from 67 (fun s15 s16 wx => s15 = .int .u64 T1 ∧ (∃ r : Nat, s16 = .int .u64 r) ∧ wx = w)
    case first =>
      go_wp2_with fail
      go_loopw [15, 16] (fun s15 s16 wr => ∃ q r : Nat, s15 = .int .u64 q ∧ s16 = .int .u64 r ∧ wr = w ∧ Hid (T1 ≤ q ∧ q * a + r = u ∧ r < 4294967296)) (fun q _ _ => (intOf q).toNat)
      case atStart =>
        exact ⟨g, r0, rfl, rfl, rfl, (by
          obtain ⟨y1, y2, y3, y4, y5, y6⟩ := HY.out
          obtain ⟨g1, g2, g3⟩ := HG.out
          obtain ⟨c1, c2⟩ := HT.out
          refine ⟨?_, g2, by omega⟩
          rw [g1]
          exact kn_up a0 t1b (by rw [← y5]; omega))⟩
      case round =>
        obtain ⟨q, r, rfl, rfl, rfl, hr⟩ := hrel
        have q64 : q < 18446744073709551616 := by
          obtain ⟨e1, e2, e3⟩ := hr.out
          have := u64
          have := Nat.mul_le_mul (Nat.le_refl q) (show 1 ≤ a by omega)
          omega
        have r64 : r < 4294967296 := hr.out.2.2
        have w1 : 1 ≤ q → IntKind.u64.wrap ((q : Int) - 1) = ((q - 1 : Nat) : Int) := fun h => by rw [show (q : Int) - 1 = ((q - 1 : Nat) : Int) by omega]; exact wrapU _ (by omega)
        have w2 : IntKind.u64.wrap ((r : Int) + a) = ((r + a : Nat) : Int) := by rw [addN]; exact wrapU _ (by omega)
        obtain ⟨q', hq'⟩ : ∃ x, x = q - 1 := ⟨_, rfl⟩
        obtain ⟨r', hr'⟩ : ∃ x, x = r + a := ⟨_, rfl⟩
        rw [← hq'] at w1
        rw [← hr'] at w2
        have HE : Hid (q' = q - 1 ∧ r' = r + a) := ⟨hq', hr'⟩
        -- what holds behind one step down
        have down : Hid ((4294967296 ≤ q ∨ r * 4294967296 + t1 < q * b) → 1 ≤ q ∧ T1 ≤ q' ∧ q' * a + r' = u) := fun h => by
          obtain ⟨e1, e2, e3⟩ := hr.out
          obtain ⟨y1, y2, y3, y4, y5, y6⟩ := HY.out
          obtain ⟨k1, k2, k3⟩ := HV.out
          have g := kn_more (T := T1) e2 (by rw [← y5]; exact k3) t1b (by rw [← y5]; omega) h
          obtain ⟨i, rfl⟩ : ∃ i, q = i + 1 := ⟨q - 1, by omega⟩
          have e4 : q' = i := by omega
          subst e4
          refine ⟨by omega, by omega, ?_⟩
          rw [← e2, Nat.add_mul, Nat.one_mul]; omega
        have stop : Hid (∀ q r : Nat, T1 ≤ q → q * a + r = u → q * b ≤ r * 4294967296 + t1 → q = T1) := fun q r e1 e2 e3 => by
          obtain ⟨y1, y2, y3, y4, y5, y6⟩ := HY.out
          obtain ⟨k1, k2, k3⟩ := HV.out
          exact kn_stop e2 e3 (by rw [← y5, Nat.add_mul, Nat.one_mul]; omega) e1
        have last : Hid (4294967296 ≤ r' → T1 ≤ q' → q' * a + r' = u → q' = T1) := fun h1 h2 h3 => by
          obtain ⟨y1, y2, y3, y4, y5, y6⟩ := HY.out
          obtain ⟨k1, k2, k3⟩ := HV.out
          exact stop.out q' r' h2 h3 (kn_break h3 (by rw [← y5]; exact k3) b1 h1)
        clear hq' hr'
        by_cases c1 : 4294967296 ≤ q
        · have o1 : decide ((4294967296 : Int) ≤ (q : Int)) = true := decide_eq_true (by omega)
          obtain ⟨d1, d2, d3⟩ := down.out (.inl c1)
          have w1 := w1 d1
          have HD : Hid (T1 ≤ q' ∧ q' * a + r' = u) := ⟨d2, d3⟩
          clear d2 d3
          by_cases c3 : 4294967296 ≤ r'
          · have o3 : decide ((4294967296 : Int) ≤ (r' : Int)) = true := decide_eq_true (by omega)
            have fin : q' = T1 := last.out c3 HD.out.1 HD.out.2
            subst fin
            go_wp2
            go_meet
            case rel => exact ⟨rfl, ⟨_, rfl⟩, rfl⟩
          · have o3 : decide ((4294967296 : Int) ≤ (r' : Int)) = false := decide_eq_false (by omega)
            go_wp2
            go_roundw
            case measure => simp [intOf]; have := HE.out; omega
            case rel => exact ⟨q', r', rfl, rfl, (by first | rfl | trivial), ⟨HD.out.1, HD.out.2, by omega⟩⟩
        · have o1 : decide ((4294967296 : Int) ≤ (q : Int)) = false := decide_eq_false (by omega)
          have m0 : q * b < 18446744073709551616 := by
            have := Nat.mul_le_mul (show q ≤ 4294967295 by omega) (show b ≤ 4294967295 by omega); omega
          have n1 : IntKind.u64.wrap ((q : Int) * b) = ((q * b : Nat) : Int) := by rw [mulN]; exact wrapU _ m0
          obtain ⟨n, hn⟩ : ∃ x, x = q * b := ⟨_, rfl⟩
          rw [← hn] at n1
          obtain ⟨k, hk⟩ : ∃ x, x = r * 4294967296 := ⟨_, rfl⟩
          have n2 : IntKind.u64.wrap (4294967296 * (r : Int)) = (k : Int) := by rw [show 4294967296 * (r : Int) = (k : Int) by omega]; exact wrapU _ (by omega)
          have n3 : IntKind.u64.wrap ((k : Int) + t1) = ((k + t1 : Nat) : Int) := by rw [addN]; exact wrapU _ (by omega)
          obtain ⟨v, hv⟩ : ∃ x, x = k + t1 := ⟨_, rfl⟩
          rw [← hv] at n3
          have HN : Hid (n = q * b ∧ v = r * 4294967296 + t1) := ⟨hn, by omega⟩
          clear hn hk hv m0
          by_cases c2 : v < n
          · have o2 : decide ((v : Int) < (n : Int)) = true := decide_eq_true (by omega)
            obtain ⟨d1, d2, d3⟩ := down.out (.inr (by have := HN.out; omega))
            have w1 := w1 d1
            have HD : Hid (T1 ≤ q' ∧ q' * a + r' = u) := ⟨d2, d3⟩
            clear d2 d3
            by_cases c3 : 4294967296 ≤ r'
            · have o3 : decide ((4294967296 : Int) ≤ (r' : Int)) = true := decide_eq_true (by omega)
              have fin : q' = T1 := last.out c3 HD.out.1 HD.out.2
              subst fin
              go_wp2
              go_meet
              case rel => exact ⟨rfl, ⟨_, rfl⟩, rfl⟩
            · have o3 : decide ((4294967296 : Int) ≤ (r' : Int)) = false := decide_eq_false (by omega)
              go_wp2
              go_roundw
              case measure => simp [intOf]; have := HE.out; omega
              case rel => exact ⟨q', r', rfl, rfl, (by first | rfl | trivial), ⟨HD.out.1, HD.out.2, by omega⟩⟩
          · have o2 : decide ((v : Int) < (n : Int)) = false := decide_eq_false (by omega)
            have fin : q = T1 := stop.out q r hr.out.1 hr.out.2.1 (by have := HN.out; omega)
            subst fin
            go_wp2
            go_meet
            case rel => exact ⟨rfl, ⟨_, rfl⟩, rfl⟩
    case rest =>
      obtain ⟨rfl, ⟨r, rfl⟩, hwc⟩ := hcut; rw [hwc]; clear hwc wc
      have hT0 := Nat.div_add_mod' (R1 * 4294967296 + t0) Y
      have hY0 : 0 < Y := by obtain ⟨y1, y2, y3, y4, y5, y6⟩ := HY.out; omega
      have hT3 := Nat.mod_lt (R1 * 4294967296 + t0) hY0
      obtain ⟨T0, eT0⟩ : ∃ X, X = (R1 * 4294967296 + t0) / Y := ⟨_, rfl⟩
      obtain ⟨R0, eR0⟩ : ∃ X, X = (R1 * 4294967296 + t0) % Y := ⟨_, rfl⟩
      rw [← eT0, ← eR0] at hT0
      rw [← eR0] at hT3
      obtain ⟨ht1, ht2⟩ := HT.out
      obtain ⟨y1, y2, y3, y4, y5, y6⟩ := HY.out
      obtain ⟨c1, c2, c3⟩ := HU.out
      have lt32 : ∀ T u t R : Nat, T * Y + R = u * 4294967296 + t → u < Y → t < 4294967296 → T < 4294967296 := fun T u t R h1 h2 h3 => by
        by_cases h : T < 4294967296
        · exact h
        · have := Nat.mul_le_mul (Nat.le_of_not_lt h) (Nat.le_refl Y)
          omega
      have hT1b := lt32 T1 u t1 R1 ht1 c3 t1b
      have hT0b := lt32 T0 R1 t0 R0 hT0 ht2 t0b
      clear lt32
      -- what the code reckons
      obtain ⟨A1, eA1⟩ : ∃ X, X = u * 4294967296 % 18446744073709551616 := ⟨_, rfl⟩
      have x1 : IntKind.u64.wrap ((u : Int) * 4294967296) = A1 := by rw [IntKind.wrap_u64]; omega
      obtain ⟨A2, eA2⟩ : ∃ X, X = (A1 + t1) % 18446744073709551616 := ⟨_, rfl⟩
      have x2 : IntKind.u64.wrap ((A1 : Int) + t1) = A2 := by rw [IntKind.wrap_u64]; omega
      obtain ⟨A3, eA3⟩ : ∃ X, X = T1 * Y % 18446744073709551616 := ⟨_, rfl⟩
      have x3 : IntKind.u64.wrap ((T1 : Int) * Y) = A3 := by rw [mulN, wrapM, ← eA3]
      have x4 : IntKind.u64.wrap ((A2 : Int) - A3) = R1 := by
        generalize T1 * Y = Z at *
        rw [IntKind.wrap_u64]; omega
      obtain ⟨g0, hg⟩ : ∃ X, X = R1 / a := ⟨_, rfl⟩
      have hg2 : g0 * a + R1 % a = R1 := by rw [hg]; exact Nat.div_add_mod' R1 a
      have hg3 : R1 % a < a := Nat.mod_lt _ a0
      obtain ⟨r1, hr1⟩ : ∃ X, X = R1 % a := ⟨_, rfl⟩
      rw [← hr1] at hg2 hg3
      have x5 : (R1 : Int).tdiv a = g0 := by rw [hg]; rfl
      have hgu : g0 ≤ R1 := by rw [hg]; exact Nat.div_le_self _ _
      have x6 := wrapU g0 (by omega)
      obtain ⟨m0, hm⟩ : ∃ X, X = g0 * a := ⟨_, rfl⟩
      have x7 : IntKind.u64.wrap ((g0 : Int) * a) = m0 := by rw [mulN, ← hm]; exact wrapU m0 (by omega)
      have x8 : IntKind.u64.wrap ((R1 : Int) - m0) = r1 := by rw [show (R1 : Int) - m0 = r1 by omega]; exact wrapU r1 (by omega)
      obtain ⟨B1, eB1⟩ : ∃ X, X = T1 * 4294967296 := ⟨_, rfl⟩
      have x9 : IntKind.u64.wrap ((T1 : Int) * 4294967296) = B1 := by rw [IntKind.wrap_u64]; omega
      obtain ⟨qq, eqq⟩ : ∃ X, X = B1 + T0 := ⟨_, rfl⟩
      have x10 : IntKind.u64.wrap ((B1 : Int) + T0) = qq := by rw [IntKind.wrap_u64]; omega
      obtain ⟨C1, eC1⟩ : ∃ X, X = R1 * 4294967296 % 18446744073709551616 := ⟨_, rfl⟩
      have x11 : IntKind.u64.wrap ((R1 : Int) * 4294967296) = C1 := by rw [IntKind.wrap_u64]; omega
      obtain ⟨C2, eC2⟩ : ∃ X, X = (C1 + t0) % 18446744073709551616 := ⟨_, rfl⟩
      have x12 : IntKind.u64.wrap ((C1 : Int) + t0) = C2 := by rw [IntKind.wrap_u64]; omega
      obtain ⟨C3, eC3⟩ : ∃ X, X = T0 * Y % 18446744073709551616 := ⟨_, rfl⟩
      have x13 : IntKind.u64.wrap ((T0 : Int) * Y) = C3 := by rw [mulN, wrapM, ← eC3]
      have x14 : IntKind.u64.wrap ((C2 : Int) - C3) = R0 := by
        generalize T0 * Y = Z at *
        rw [IntKind.wrap_u64]; omega
      obtain ⟨rr, err⟩ : ∃ X, X = R0 / P := ⟨_, rfl⟩
      have x15 : (R0 : Int) / 2 ^ s = rr := by rw [err, y2]; simp
      have HW : Hid (T0 * Y ≤ R1 * 4294967296 + t0 ∧ R1 * 4294967296 + t0 < T0 * Y + Y ∧ R1 < Y) := ⟨by omega, by omega, ht2⟩
      have R164 : R1 ≤ 18446744073709551615 := by omega
      have HG0 : Hid (g0 = R1 / a ∧ g0 * a + r1 = R1 ∧ r1 < a) := ⟨hg, by omega, hg3⟩
      have HF : Hid (qq = (hi * 18446744073709551616 + lo) / y ∧ rr = (hi * 18446744073709551616 + lo) % y) := by
        have e0 : (hi * 18446744073709551616 + lo) * P = qq * Y + R0 := by
          rw [c1, eqq, eB1, Nat.add_mul, Nat.mul_right_comm]
          generalize T1 * Y = Z1 at *
          generalize T0 * Y = Z0 at *
          omega
        constructor
        · rw [← Nat.mul_div_mul_right _ y y6, e0, ← y1, Nat.add_comm, Nat.add_mul_div_right _ _ hY0, Nat.div_eq_of_lt hT3, Nat.zero_add]
        · have e2 := Nat.mul_mod_mul_right P (hi * 18446744073709551616 + lo) y
          rw [e0, ← y1, Nat.add_comm, Nat.add_mul_mod_self_right, Nat.mod_eq_of_lt hT3] at e2
          rw [err, e2, Nat.mul_div_cancel _ y6]
      clear hT0 hT3 eT0 eR0 ht1 ht2 y1 y2 y3 y4 y5 y6 c1 c2 c3 hT1b hT0b eA1 eA2 eA3 hg hg2 hg3 hr1 hgu hm eB1 eqq eC1 eC2 eC3 err hY0
      clear v1 v2 v3 v4 v5 v6 v7 v8 v9 v10 v11 v12 v13
      go_upto_block 2 with fail
      go_cut [18, 16] from 102 (fun s15 s16 wx => s15 = .int .u64 T0 ∧ (∃ r : Nat, s16 = .int .u64 r) ∧ wx = w)
      case first =>
        go_wp2_with fail
        go_loopw [18, 16] (fun s15 s16 wr => ∃ q r : Nat, s15 = .int .u64 q ∧ s16 = .int .u64 r ∧ wr = w ∧ Hid (T0 ≤ q ∧ q * a + r = R1 ∧ r < 4294967296)) (fun q _ _ => (intOf q).toNat)
        case atStart =>
          exact ⟨g0, r1, rfl, rfl, rfl, (by
            obtain ⟨y1, y2, y3, y4, y5, y6⟩ := HY.out
            obtain ⟨g1, g2, g3⟩ := HG0.out
            obtain ⟨c1, c2, c3⟩ := HW.out
            refine ⟨?_, g2, by omega⟩
            rw [g1]
            exact kn_up a0 t0b (by rw [← y5]; omega))⟩
        case round =>
          obtain ⟨q, r, rfl, rfl, rfl, hr⟩ := hrel
          have q64 : q < 18446744073709551616 := by
            obtain ⟨e1, e2, e3⟩ := hr.out
            have := R164
            have := Nat.mul_le_mul (Nat.le_refl q) (show 1 ≤ a by omega)
            omega
          have r64 : r < 4294967296 := hr.out.2.2
          have w1 : 1 ≤ q → IntKind.u64.wrap ((q : Int) - 1) = ((q - 1 : Nat) : Int) := fun h => by rw [show (q : Int) - 1 = ((q - 1 : Nat) : Int) by omega]; exact wrapU _ (by omega)
          have w2 : IntKind.u64.wrap ((r : Int) + a) = ((r + a : Nat) : Int) := by rw [addN]; exact wrapU _ (by omega)
          obtain ⟨q', hq'⟩ : ∃ x, x = q - 1 := ⟨_, rfl⟩
          obtain ⟨r', hr'⟩ : ∃ x, x = r + a := ⟨_, rfl⟩
          rw [← hq'] at w1
          rw [← hr'] at w2
          have HE : Hid (q' = q - 1 ∧ r' = r + a) := ⟨hq', hr'⟩
          -- what holds behind one step down
          have down : Hid ((4294967296 ≤ q ∨ r * 4294967296 + t0 < q * b) → 1 ≤ q ∧ T0 ≤ q' ∧ q' * a + r' = R1) := fun h => by
            obtain ⟨e1, e2, e3⟩ := hr.out
            obtain ⟨y1, y2, y3, y4, y5, y6⟩ := HY.out
            obtain ⟨k1, k2, k3⟩ := HW.out
            have g := kn_more (T := T0) e2 (by rw [← y5]; exact k3) t0b (by rw [← y5]; omega) h
            obtain ⟨i, rfl⟩ : ∃ i, q = i + 1 := ⟨q - 1, by omega⟩
            have e4 : q' = i := by omega
            subst e4
            refine ⟨by omega, by omega, ?_⟩
            rw [← e2, Nat.add_mul, Nat.one_mul]; omega
          have stop : Hid (∀ q r : Nat, T0 ≤ q → q * a + r = R1 → q * b ≤ r * 4294967296 + t0 → q = T0) := fun q r e1 e2 e3 => by
            obtain ⟨y1, y2, y3, y4, y5, y6⟩ := HY.out
            obtain ⟨k1, k2, k3⟩ := HW.out
            exact kn_stop e2 e3 (by rw [← y5, Nat.add_mul, Nat.one_mul]; omega) e1
          have last : Hid (4294967296 ≤ r' → T0 ≤ q' → q' * a + r' = R1 → q' = T0) := fun h1 h2 h3 => by
            obtain ⟨y1, y2, y3, y4, y5, y6⟩ := HY.out
            obtain ⟨k1, k2, k3⟩ := HW.out
            exact stop.out q' r' h2 h3 (kn_break h3 (by rw [← y5]; exact k3) b1 h1)
          clear hq' hr'
          by_cases c1 : 4294967296 ≤ q
          · have o1 : decide ((4294967296 : Int) ≤ (q : Int)) = true := decide_eq_true (by omega)
            obtain ⟨d1, d2, d3⟩ := down.out (.inl c1)
            have w1 := w1 d1
            have HD : Hid (T0 ≤ q' ∧ q' * a + r' = R1) := ⟨d2, d3⟩
            clear d2 d3
            by_cases c3 : 4294967296 ≤ r'
            · have o3 : decide ((4294967296 : Int) ≤ (r' : Int)) = true := decide_eq_true (by omega)
              have fin : q' = T0 := last.out c3 HD.out.1 HD.out.2
              subst fin
              go_wp2
              go_meet
              case rel => exact ⟨rfl, ⟨_, rfl⟩, rfl⟩
            · have o3 : decide ((4294967296 : Int) ≤ (r' : Int)) = false := decide_eq_false (by omega)
              go_wp2
              go_roundw
              case measure => simp [intOf]; have := HE.out; omega
              case rel => exact ⟨q', r', rfl, rfl, (by first | rfl | trivial), ⟨HD.out.1, HD.out.2, by omega⟩⟩
          · have o1 : decide ((4294967296 : Int) ≤ (q : Int)) = false := decide_eq_false (by omega)
            have m0 : q * b < 18446744073709551616 := by
              have := Nat.mul_le_mul (show q ≤ 4294967295 by omega) (show b ≤ 4294967295 by omega); omega
            have n1 : IntKind.u64.wrap ((q : Int) * b) = ((q * b : Nat) : Int) := by rw [mulN]; exact wrapU _ m0
            obtain ⟨n, hn⟩ : ∃ x, x = q * b := ⟨_, rfl⟩
            rw [← hn] at n1
            obtain ⟨k, hk⟩ : ∃ x, x = r * 4294967296 := ⟨_, rfl⟩
            have n2 : IntKind.u64.wrap (4294967296 * (r : Int)) = (k : Int) := by rw [show 4294967296 * (r : Int) = (k : Int) by omega]; exact wrapU _ (by omega)
            have n3 : IntKind.u64.wrap ((k : Int) + t0) = ((k + t0 : Nat) : Int) := by rw [addN]; exact wrapU _ (by omega)
            obtain ⟨v, hv⟩ : ∃ x, x = k + t0 := ⟨_, rfl⟩
            rw [← hv] at n3
            have HN : Hid (n = q * b ∧ v = r * 4294967296 + t0) := ⟨hn, by omega⟩
            clear hn hk hv m0
            by_cases c2 : v < n
            · have o2 : decide ((v : Int) < (n : Int)) = true := decide_eq_true (by omega)
              obtain ⟨d1, d2, d3⟩ := down.out (.inr (by have := HN.out; omega))
              have w1 := w1 d1
              have HD : Hid (T0 ≤ q' ∧ q' * a + r' = R1) := ⟨d2, d3⟩
              clear d2 d3
              by_cases c3 : 4294967296 ≤ r'
              · have o3 : decide ((4294967296 : Int) ≤ (r' : Int)) = true := decide_eq_true (by omega)
                have fin : q' = T0 := last.out c3 HD.out.1 HD.out.2
                subst fin
                go_wp2
                go_meet
                case rel => exact ⟨rfl, ⟨_, rfl⟩, rfl⟩
              · have o3 : decide ((4294967296 : Int) ≤ (r' : Int)) = false := decide_eq_false (by omega)
                go_wp2
                go_roundw
                case measure => simp [intOf]; have := HE.out; omega
                case rel => exact ⟨q', r', rfl, rfl, (by first | rfl | trivial), ⟨HD.out.1, HD.out.2, by omega⟩⟩
            · have o2 : decide ((v : Int) < (n : Int)) = false := decide_eq_false (by omega)
              have fin : q = T0 := stop.out q r hr.out.1 hr.out.2.1 (by have := HN.out; omega)
              subst fin
              go_wp2
              go_meet
              case rel => exact ⟨rfl, ⟨_, rfl⟩, rfl⟩
      case rest =>
        obtain ⟨rfl, ⟨r, rfl⟩, hwc⟩ := hcut; rw [hwc]; clear hwc wc
        go_wp2
        exact hQ.out _ _ ⟨⟨qq, rr, rfl, HF.out.1, HF.out.2⟩, 0, rfl⟩
end Go.Proofs.Ytpjegpgnelfeeab

namespace Go.Proofs.Ytpjegpgnelfeeab
open Go.ChangeShapes Go.WideShapes Go.ChangeAt Go.RowKit
set_option linter.unusedVariables false
set_option maxRecDepth 100000

theorem shr_digit (Y r : Nat) (hr : r < 24) : Y % 16777216 / 2 ^ r + Y / 16777216 % 16777216 % 2 ^ r * (16777216 / 2 ^ r) = Y / 2 ^ r % 16777216 := by
  have h : r = 0 ∨ r = 1 ∨ r = 2 ∨ r = 3 ∨ r = 4 ∨ r = 5 ∨ r = 6 ∨ r = 7 ∨ r = 8 ∨ r = 9 ∨ r = 10 ∨ r = 11 ∨ r = 12 ∨ r = 13 ∨ r = 14 ∨ r = 15 ∨ r = 16 ∨ r = 17 ∨ r = 18 ∨ r = 19 ∨ r = 20 ∨ r = 21 ∨ r = 22 ∨ r = 23 := by omega
  rcases h with h | h | h | h | h | h | h | h | h | h | h | h | h | h | h | h | h | h | h | h | h | h | h | h <;> subst h <;> simp only [Nat.reducePow, Nat.reduceDiv] <;> omega

/-- the lowest k digits, and noughts behind -/
def lowz (n k m : Nat) : List Nat := low n k ++ List.replicate (m - k) 0
theorem lowz_zero (n m : Nat) : lowz n 0 m = List.replicate m 0 := by simp [lowz, low_zero]
theorem lowz_all (n m : Nat) : lowz n m m = low n m := by simp [lowz]
theorem lowz_set (n k m : Nat) (h : k < m) : (lowz n k m).set k (top n k % 16777216) = lowz n (k + 1) m := by
  unfold lowz
  obtain ⟨j, rfl⟩ : ∃ j, m = k + 1 + j := ⟨m - k - 1, by omega⟩
  rw [show k + 1 + j - k = j + 1 by omega, show k + 1 + j - (k + 1) = j by omega, List.replicate_succ, low_snoc, List.set_append]
  simp [low_length]

theorem digit_int (v : Value) (n : Nat) (ii : Int) (i d : Nat) (hii : ii = (i : Int)) (hi : i < 4611686018427387904) (w : World) (hr : Row w v (dig n)) (hd : d = top n i % 16777216) :
    Calls Try.prog 52 #[v, .int .i64 ii] w fun e w' => e = .returned (.int .i64 d) ∧ w' = w := by
  rw [hii]; exact digit_dig v n i d hi w hr hd
theorem Row.drew {w : World} {v : Value} {l : List Nat} (h : Row w v l) : Row w.drew v l := h.below (Below.refl _ _).drew
theorem Row.cells {w : World} {b off k c n : Nat} (h : Row w (.slice (some ⟨b, off, none⟩) k c) (dig n)) : ∀ j, j < dlen n → w.cell? ⟨b, off + j, none⟩ = some (.int .i64 (top n j % 16777216 : Nat)) := by
  obtain ⟨ao, c', he, _, _, hr⟩ := h.reads
  injection he with e1 _ _
  subst e1
  intro j hj
  rcases hr with hr | ⟨b', off', e, _, hr⟩
  · omega
  · simp at e
    obtain ⟨rfl, rfl⟩ := e
    exact hr j hj

set_option maxHeartbeats 1000000 in
theorem nshr_new (va : Value) (a k : Nat) (hk : k ≤ 9223372036854775807) (hS : dlen a ≤ 1099511627776) (w : World) (ha : Row w va (dig a)) :
    Calls Try.prog 49 #[va, .int .i64 k] w fun e w' => ∃ v, e = .returned v ∧ Row w' v (dig (a / 2 ^ k)) ∧ Below w.heap.size w w' ∧ ∀ g, v.ownBlock = some g → w.heap.size ≤ g := by
  refine cps fun Q hQ => ?_
  have HA : Hid (Row w va (dig a)) := ha
  obtain ⟨aa, ca, rfl, h1, h2, hr⟩ := ha.reads
  clear ha
  obtain ⟨i0, hi, hz0, hz1, hz2⟩ := info_parts infoInt
  have e0 : a / 2 ^ k = top a (k / 24) / 2 ^ (k % 24) := by
    have h16 : (16777216 : Nat) = 2 ^ 24 := by decide
    rw [top_eq, Nat.div_div_eq_div_mul, h16, ← Nat.pow_mul, ← Nat.pow_add]; congr 2; omega
  by_cases h0 : dlen a ≤ k / 24
  · have HQ : Hid _ := hQ.out _ w ⟨.slice none 0 0, rfl, by rw [e0, top_eq_zero h0, Nat.zero_div, dig_zero]; exact row_nil w, Below.refl _ _, fun g h => by cases h⟩
    have hki : ((k : Int) / 24) = ((k / 24 : Nat) : Int) := by omega
    generalize k / 24 = q at *
    clear HA e0 hr
    go_enter Try.func49, Try.ntmps49
    go_wp2
    exact HQ.out
  · rcases hr with hr | ⟨b, off, rfl, hb, hr⟩
    · omega
    have HX := HA.out.drop (k / 24) (by omega)
    have hT := two_any (k % 24) (by omega)
    have hdig := fun Y => shr_digit Y (k % 24) (by omega)
    have hq : 0 < 2 ^ (k % 24) := Nat.pow_pos (by decide)
    have hq2 : 2 ^ (k % 24) ≤ 2 ^ 24 := Nat.pow_le_pow_right (by decide) (by omega)
    rw [e0] at hQ
    have hdl : dlen (top a (k / 24)) = dlen a - k / 24 := dlen_top _ _
    generalize hX : top a (k / 24) = X at *
    generalize hF : 2 ^ (k % 24) = F at *
    have hm0 : 0 < dlen X := by omega
    have hki : ((k : Int) / 24) = ((k / 24 : Nat) : Int) := by omega
    have hki2 : ((k : Int) % 24) = ((k % 24 : Nat) : Int) := by omega
    have hr24 : k % 24 ≤ 23 := by omega
    have hq24 : k / 24 < dlen a := by omega
    generalize k / 24 = q at *
    generalize k % 24 = r at *
    have Hdl : Hid (dlen X = dlen a - q) := hdl
    have Hd : Hid (∀ Y, Y % 16777216 / F + Y / 16777216 % 16777216 % F * (16777216 / F) = Y / F % 16777216) := hdig
    have HX' : Hid (Row w _ _) := HX
    have hmi : ((dlen a : Int) - q) = ((dlen X : Nat) : Int) := by omega
    clear e0 hX hF hdl hdig HX h0 hr
    go_enter Try.func49, Try.ntmps49
    go_wp2_with (first
      | (go_at_call 53; refine (hT _).mono ?_; rintro e w' ⟨rfl, hw⟩; rw [hw]; clear hw w')
      | (at_make; go_must (refine wpList_make_full _ rfl _ _ 60 rfl w.heap.size 3 i0 (.int .i64 0) 1 Try.underlying60 hi hz0 hz1 .i64 .i64 _ _ (dlen X) rfl rfl (by omega) (by omega) (by rw [hz2]; omega) (by unfold maxLen; omega) (Nat.le_refl _) ?_); intro w1 hown hg))
    rw [made_ints, ← lowz_zero (X / F)] at hown
    have hb0 := (Below.refl w.heap.size w).grown hg (Nat.le_refl _) (fun k hk => by cases hk)
    have hs0 : w.heap.size < w1.heap.size := by have := hown.lt w.heap.size rfl; omega
    have HC : Hid _ := HX'.out.cells
    have hF0 : 1 ≤ F := by omega
    have HF2 : Hid (F ≤ 16777216) := by show _ ≤ _; omega
    clear hg hT hq hq2 hi hz0 hz1 hz2
    go_loopw [8] (fun i wr => ∃ k : Nat, k ≤ dlen X ∧ i = .int .i64 k ∧ wr.ownsRow w.heap.size 3 1 (.slice (some ⟨w.heap.size, 0, none⟩) (dlen X) (dlen X)) (dlen X) ((lowz (X / F) k (dlen X)).map enc) ∧ Below w.heap.size w wr)
      (fun i _ => dlen X - (intOf i).toNat)
    case atStart => exact ⟨0, Nat.zero_le _, rfl, hown, hb0⟩
    case round =>
      obtain ⟨k, hk, rfl, hownr, hbel⟩ := hrel
      by_cases hlt : k < dlen X
      · have hcell := (hbel.cell (p := ⟨b, off + q + k, none⟩) hb).trans (HC.out k hlt)
        obtain ⟨D, hD⟩ : ∃ D, D = top X k % 16777216 := ⟨_, rfl⟩
        obtain ⟨N, hN⟩ : ∃ N, N = top X (k + 1) % 16777216 := ⟨_, rfl⟩
        obtain ⟨d1, hd1⟩ : ∃ d, d = D / F := ⟨_, rfl⟩
        obtain ⟨n1, hn1⟩ : ∃ d, d = N % F := ⟨_, rfl⟩
        obtain ⟨G, hG⟩ : ∃ d, d = 16777216 / F := ⟨_, rfl⟩
        obtain ⟨m1, hm1⟩ : ∃ d, d = n1 * G := ⟨_, rfl⟩
        have hz := Hd.out (top X k)
        rw [← top_div X F k, ← hD, show top X k / 16777216 = top X (k + 1) from rfl, ← hN, ← hd1, ← hn1, ← hG, ← hm1] at hz
        have hzl : top (X / F) k % 16777216 ≤ 16777215 := by omega
        have i1 : (D : Int) / (F : Int) = (d1 : Int) := by rw [hd1]; simp
        have i2 : (N : Int) % (F : Int) = (n1 : Int) := by rw [hn1]; simp
        have i3 : (16777216 : Int) / (F : Int) = (G : Int) := by rw [hG]; simp
        have i4 : (n1 : Int) * (G : Int) = (m1 : Int) := by rw [hm1]; simp
        have bd : d1 ≤ 16777215 := by omega
        have bm : m1 ≤ 16777215 := by omega
        have bD : D ≤ 16777215 := by omega
        have bN : N ≤ 16777215 := by omega
        have Hz : Hid (d1 + m1 = top (X / F) k % 16777216) := hz
        have HN : Hid (N = top X (k + 1) % 16777216) := hN
        have HR : Hid (Row wr _ _) := HX'.out.below hbel
        rw [← hD] at hcell
        have hfr := hownr.frozenAt k
        obtain ⟨y, hy⟩ : ∃ y, ((lowz (X / F) k (dlen X)).map enc)[k]? = some y := ⟨_, List.getElem?_eq_getElem (by simp [lowz, low_length]; omega)⟩
        have hce := hownr.cellAt k (by omega)
        rw [hy] at hce
        have j2 : (N : Int).tmod (F : Int) = (n1 : Int) := by rw [Int.tmod_eq_emod_of_nonneg (by omega)]; exact i2
        have j3 : Int.tdiv 16777216 (F : Int) = (G : Int) := by rw [Int.tdiv_eq_ediv_of_nonneg (by omega)]; exact i3
        have j1 : (D : Int).tdiv (F : Int) = (d1 : Int) := by rw [Int.tdiv_eq_ediv_of_nonneg (by omega)]; exact i1
        have jk : IntKind.i64.wrap ((k : Int) + 1) = (k : Int) + 1 := wrapI (by omega)
        have bG : G ≤ 16777216 := by rw [hG]; exact Nat.div_le_self _ _
        have jd : IntKind.i64.wrap (d1 : Int) = (d1 : Int) := wrapI (by omega)
        have jG : IntKind.i64.wrap (G : Int) = (G : Int) := wrapI (by omega)
        have jm : IntKind.i64.wrap (m1 : Int) = (m1 : Int) := wrapI (by omega)
        have js : IntKind.i64.wrap ((d1 : Int) + (m1 : Int)) = (d1 : Int) + (m1 : Int) := wrapI (by omega)
        have hst := hownr.stored k (enc (top (X / F) k % 16777216))
        rw [← List.map_set, lowz_set _ _ _ hlt] at hst
        have Hst : Hid _ := hst
        clear hst hownr hy hz hzl hN hD hd1 hn1 hG hm1 hown hb0
        go_wp2
        go_region_with (go_at_call 52; refine (digit_int _ X ((k : Int) + 1) (k + 1) N (by omega) (by omega) _ HR.out.drew HN.out).mono ?_; rintro e w' ⟨rfl, hw⟩; rw [hw]; clear hw w')
        all_goals
          go_wp2
          go_roundw
          case measure => simp [intOf]; omega
          case rel =>
            have ev : ((d1 : Int) + (m1 : Int)) = ((top (X / F) k % 16777216 : Nat) : Int) := by have := Hz.out; omega
            refine ⟨k + 1, by omega, by go_num, ?_⟩
            rw [ev]
            exact ⟨owns_drewN Hst.out.1 1, (hbel.setCell (Nat.le_refl _) _).drew⟩
      · have hk1 : k = dlen X := by omega
        subst hk1
        rw [lowz_all] at hownr
        have hrw := row_own hownr
        have hle : dlen (X / F) ≤ dlen X := dlen_mono (Nat.div_le_self _ _)
        rw [low_ge hle] at hrw
        have HRW : Hid (Row wr _ _) := hrw
        clear hrw hown hownr
        go_wp2_with (go_at_call 47; refine (cut_own _ _ (X / F) _ rfl _ HRW.out).mono ?_; rintro e w' ⟨v', rfl, hv, hw, hob⟩; rw [hw]; clear hw w')
        exact hQ.out _ _ ⟨v', rfl, hv, hbel, fun g h => by rw [hob] at h; cases h; exact Nat.le_refl _⟩
theorem nshr_any (va : Value) (a k : Nat) (hk : k ≤ 9223372036854775807) (hS : dlen a ≤ 1099511627776) (w : World) (ha : Row w va (dig a)) :
    Calls Try.prog 49 #[va, .int .i64 k] w fun e w' => ∃ v, e = .returned v ∧ Row w' v (dig (a / 2 ^ k)) ∧ Below w.heap.size w w' := by
  refine (nshr_new va a k hk hS w ha).mono ?_
  rintro e w' ⟨v, h1, h2, h3, _⟩
  exact ⟨v, h1, h2, h3⟩
end Go.Proofs.Ytpjegpgnelfeeab

namespace Go.Proofs.Ytpjegpgnelfeeab
open Go.ChangeShapes Go.WideShapes Go.ChangeAt Go.RowKit
set_option linter.unusedVariables false
set_option maxRecDepth 100000

/-- what the lowest k digits are -/
def lo (a k : Nat) : Nat := val (low a k)
theorem lo_zero (a : Nat) : lo a 0 = 0 := rfl
theorem lo_succ (a k : Nat) : lo a (k + 1) = lo a k + 16777216 ^ k * (top a k % 16777216) := by
  unfold lo; rw [low_snoc, val_append, low_length]; simp [val]
theorem lo_all (a : Nat) : lo a (dlen a) = a := by unfold lo; rw [low_dlen, val_dig]
theorem val_set (l : List Nat) (j d : Nat) (h : j < l.length) : val (l.set j d) + 16777216 ^ j * l.getD j 0 = val l + 16777216 ^ j * d := by
  induction l generalizing j with
  | nil => simp at h
  | cons x l ih =>
    cases j with
    | zero => simp [val_cons]; omega
    | succ j =>
      have := ih j (by simpa using h)
      simp only [List.set_cons_succ, val_cons, List.getD_cons_succ, Nat.pow_succ]
      have e1 : 16777216 ^ j * 16777216 * l.getD j 0 = 16777216 * (16777216 ^ j * l.getD j 0) := by rw [Nat.mul_comm (16777216 ^ j) 16777216, Nat.mul_assoc]
      have e2 : 16777216 ^ j * 16777216 * d = 16777216 * (16777216 ^ j * d) := by rw [Nat.mul_comm (16777216 ^ j) 16777216, Nat.mul_assoc]
      rw [e1, e2]; omega
theorem val_zeros (n : Nat) : val (List.replicate n 0) = 0 := by
  induction n with
  | zero => rfl
  | succ n ih => rw [List.replicate_succ, val_cons, ih]
theorem getD_set (l : List Nat) (j d i : Nat) (h : j < l.length) : (l.set j d).getD i 0 = if j = i then d else l.getD i 0 := by
  rw [List.getD_eq_getElem?_getD, List.getElem?_set]
  by_cases e : j = i
  · subst e; simp [h]
  · simp [e]
theorem mul_step {V V' O c t P p R : Nat} (h1 : V + P * c = R) (h2 : V' + P * O = V + P * (t % 16777216)) (ht : t = O + p + c) : V' + P * 16777216 * (t / 16777216) = R + P * p := by
  have e1 : P * t = P * 16777216 * (t / 16777216) + P * (t % 16777216) := by
    conv => lhs; rw [← Nat.div_add_mod t 16777216]
    rw [Nat.mul_add, Nat.mul_assoc]
  have e2 : P * t = P * O + P * p + P * c := by rw [ht, Nat.mul_add, Nat.mul_add]
  omega
/-- the row of a product under way -/
structure MulAt (a b i k c : Nat) (O : List Nat) : Prop where
  len : O.length = dlen a + dlen b
  digs : ∀ d ∈ O, d < 16777216
  sum : val O + 16777216 ^ (i + k) * c = lo a i * b + 16777216 ^ i * ((top a i % 16777216) * lo b k)
  up : ∀ j, i + dlen b ≤ j → O.getD j 0 = 0
theorem MulAt.start (a b : Nat) : MulAt a b 0 0 0 (List.replicate (dlen a + dlen b) 0) :=
  ⟨by simp, by simp, by rw [val_zeros, lo_zero, lo_zero]; simp, fun j _ => by rw [List.getD_eq_getElem?_getD, List.getElem?_replicate]; split <;> rfl⟩
theorem MulAt.step {a b i k c x t : Nat} {O : List Nat} (h : MulAt a b i k c O) (hi : i < dlen a) (hk : k < dlen b) (hx : x = O.getD (i + k) 0) (ht : t = x + (top a i % 16777216) * (top b k % 16777216) + c) :
    MulAt a b i (k + 1) (t / 16777216) (O.set (i + k) (t % 16777216)) := by
  have hl := h.len
  refine ⟨by simp [hl], ?_, ?_, ?_⟩
  · intro d hd
    rcases List.mem_or_eq_of_mem_set hd with h1 | h1
    · exact h.digs d h1
    · omega
  · have h2 := val_set O (i + k) (t % 16777216) (by omega)
    rw [← hx] at h2
    have h3 := mul_step h.sum h2 ht
    rw [show i + (k + 1) = (i + k) + 1 by omega, Nat.pow_succ, h3, lo_succ, Nat.mul_add, Nat.mul_add, Nat.add_assoc, Nat.pow_add, Nat.mul_assoc, Nat.mul_left_comm (top a i % 16777216)]
  · intro j hj
    rw [getD_set _ _ _ _ (by omega), if_neg (by omega)]
    exact h.up j hj
theorem MulAt.next {a b i c : Nat} {O : List Nat} (h : MulAt a b i (dlen b) c O) (hi : i < dlen a) (hc : c < 16777216) : MulAt a b (i + 1) 0 0 (O.set (i + dlen b) c) := by
  have hl := h.len
  refine ⟨by simp [hl], ?_, ?_, ?_⟩
  · intro d hd
    rcases List.mem_or_eq_of_mem_set hd with h1 | h1
    · exact h.digs d h1
    · omega
  · have h2 := val_set O (i + dlen b) c (by omega)
    rw [h.up _ (Nat.le_refl _), Nat.mul_zero, Nat.add_zero, h.sum, lo_all] at h2
    rw [h2, lo_zero, lo_succ, Nat.mul_zero, Nat.mul_zero, Nat.mul_zero, Nat.add_zero, Nat.add_zero, Nat.add_mul, Nat.mul_assoc]
  · intro j hj
    rw [getD_set _ _ _ _ (by omega), if_neg (by omega)]
    exact h.up j (by omega)
theorem MulAt.done {a b : Nat} {O : List Nat} (h : MulAt a b (dlen a) 0 0 O) : ∃ z, O = dig (a * b) ++ List.replicate z 0 := by
  have hs := h.sum
  rw [lo_zero, lo_all, Nat.mul_zero, Nat.mul_zero, Nat.mul_zero, Nat.add_zero, Nat.add_zero] at hs
  have hv := val_low O h.digs
  have hlt := val_lt O h.digs
  rw [hs] at hv hlt
  exact ⟨_, by rw [← low_ge (dlen_le_of_lt hlt), hv]⟩

set_option maxHeartbeats 4000000 in
theorem nmul_any (va vb : Value) (a b : Nat) (hA : dlen a ≤ 1099511627776) (hB : dlen b ≤ 1099511627776) (w : World) (ha : Row w va (dig a)) (hb : Row w vb (dig b)) :
    Calls Try.prog 40 #[va, vb] w fun e w' => ∃ v, e = .returned v ∧ Row w' v (dig (a * b)) ∧ Below w.heap.size w w' := by
  refine cps fun Q hQ => ?_
  obtain ⟨aa, ca, rfl, h1, h2, hra⟩ := ha.reads
  obtain ⟨ab, cb, rfl, h3, h4, hrb⟩ := hb.reads
  obtain ⟨i0, hi, hz0, hz1, hz2⟩ := info_parts infoInt
  clear ha hb
  have za := @dlen_eq_zero a
  have zb := @dlen_eq_zero b
  by_cases h0 : dlen a = 0 ∨ dlen b = 0
  · have hn : a * b = 0 := by
      rcases h0 with h | h
      · rw [za.1 h, Nat.zero_mul]
      · rw [zb.1 h, Nat.mul_zero]
    have HQ : Hid _ := hQ.out _ w ⟨.slice none 0 0, rfl, by rw [hn, dig_zero]; exact row_nil w, Below.refl _ _⟩
    have h0' : dlen a = 0 ∨ (dlen a ≠ 0 ∧ dlen b = 0) := by omega
    clear za zb hra hrb hn h0
    rcases h0' with h | ⟨h, h'⟩
    · go_enter Try.func40, Try.ntmps40
      go_wp2
      exact HQ.out
    · go_enter Try.func40, Try.ntmps40
      go_wp2
      exact HQ.out
  · have hna : 0 < dlen a := by omega
    have hnb : 0 < dlen b := by omega
    obtain ⟨ba, oa, rfl, hba, hra⟩ := hra.resolve_left (by omega)
    obtain ⟨bb, ob, rfl, hbb, hrb⟩ := hrb.resolve_left (by omega)
    clear za zb h0
    have ea : ((dlen a : Int) == 0) = false := by simp; omega
    have eb : ((dlen b : Int) == 0) = false := by simp; omega
    go_enter Try.func40, Try.ntmps40
    go_wp2_with (at_make; go_must (refine wpList_make_full _ rfl _ _ 60 rfl w.heap.size 3 i0 (.int .i64 0) 1 Try.underlying60 hi hz0 hz1 .i64 .i64 _ _ (dlen a + dlen b) rfl rfl (by omega) (by omega) (by rw [hz2]; omega) (by unfold maxLen; omega) (Nat.le_refl _) ?_); intro w1 hown hg)
    rw [made_ints] at hown
    have hb0 := (Below.refl w.heap.size w).grown hg (Nat.le_refl _) (fun k hk => by cases hk)
    have hs0 : w.heap.size < w1.heap.size := by have := hown.lt w.heap.size rfl; omega
    clear hg hi hz0 hz1 hz2 ea eb
    go_loopw [6] (fun iv wr => ∃ (i : Nat) (O : List Nat), i ≤ dlen a ∧ iv = .int .i64 i ∧ MulAt a b i 0 0 O ∧ wr.ownsRow w.heap.size 3 1 (.slice (some ⟨w.heap.size, 0, none⟩) (dlen a + dlen b) (dlen a + dlen b)) (dlen a + dlen b) (O.map enc) ∧ Below w.heap.size w wr) (fun iv _ => dlen a - (intOf iv).toNat)
    case atStart => exact ⟨0, _, Nat.zero_le _, rfl, MulAt.start a b, hown, hb0⟩
    case round =>
      obtain ⟨i, O, hi, rfl, hP, hown, hbel⟩ := hrel
      by_cases hlt : i < dlen a
      · clear hb0
        go_wp2
        go_loopw [7, 8] (fun cv kv wr => ∃ (k c : Nat) (O : List Nat), k ≤ dlen b ∧ c ≤ 16777215 ∧ kv = .int .i64 k ∧ cv = .int .i64 c ∧ MulAt a b i k c O ∧ wr.ownsRow w.heap.size 3 1 (.slice (some ⟨w.heap.size, 0, none⟩) (dlen a + dlen b) (dlen a + dlen b)) (dlen a + dlen b) (O.map enc) ∧ Below w.heap.size w wr) (fun _ kv _ => dlen b - (intOf kv).toNat)
        case atStart => exact ⟨0, 0, O, Nat.zero_le _, by decide, rfl, rfl, hP, hown, hbel⟩
        case round =>
          rename_i wr0
          clear hown hbel hP
          obtain ⟨k, c, O, hk, hc, rfl, rfl, hP, hown, hbel⟩ := hrel
          by_cases hlk : k < dlen b
          · have c1 := (hbel.cell (p := ⟨ba, oa + i, none⟩) hba).trans (hra i hlt)
            have c2 := (hbel.cell (p := ⟨bb, ob + k, none⟩) hbb).trans (hrb k hlk)
            have hl := hP.len
            have c3 := hown.cellAt (i + k) (by omega)
            have c3' : wr.cell? ⟨w.heap.size, i + k, none⟩ = some (.int .i64 (O.getD (i + k) 0 : Nat)) := by
              rw [c3, List.getElem?_map, List.getD_eq_getElem?_getD, List.getElem?_eq_getElem (by omega)]; rfl
            have hf := hown.frozenAt (i + k)
            obtain ⟨x, hx⟩ : ∃ x, x = O.getD (i + k) 0 := ⟨_, rfl⟩
            have hx1 : x < 16777216 := by
              rw [hx, List.getD_eq_getElem?_getD, List.getElem?_eq_getElem (by omega)]
              exact hP.digs _ (List.getElem_mem _)
            obtain ⟨p, hp⟩ : ∃ p, p = (top a i % 16777216) * (top b k % 16777216) := ⟨_, rfl⟩
            have hp1 : p ≤ 16777215 * 16777215 := by rw [hp]; exact Nat.mul_le_mul (by omega) (by omega)
            obtain ⟨A, hA'⟩ : ∃ A, A = top a i % 16777216 := ⟨_, rfl⟩
            obtain ⟨C, hC'⟩ : ∃ C, C = top b k % 16777216 := ⟨_, rfl⟩
            rw [← hA'] at c1
            rw [← hC'] at c2
            rw [← hx] at c3'
            have hpi : (A : Int) * (C : Int) = (p : Int) := by rw [hp, hA', hC']; simp
            have hst : ∀ q, ((wr.drewN q).setCell ⟨w.heap.size, i + k, none⟩ (enc ((x + p + c) % 16777216))).ownsRow w.heap.size 3 1 (.slice (some ⟨w.heap.size, 0, none⟩) (dlen a + dlen b) (dlen a + dlen b)) (dlen a + dlen b) ((O.set (i + k) ((x + p + c) % 16777216)).map enc) := fun q => by
              rw [List.map_set]; exact ((owns_drewN hown q).stored (i + k) (enc ((x + p + c) % 16777216))).1
            have hP2 := hP.step (t := x + p + c) hlt hlk hx (by rw [hp])
            have Hst : Hid _ := hst
            have HP2 : Hid _ := hP2
            have hA2 : A ≤ 16777215 := by omega
            have hC2 : C ≤ 16777215 := by omega
            clear hst hP2 c3 hl hx hp hA' hC' hown hP hra hrb
            go_wp2
            go_quiet (fail)
            go_wp2
            go_roundw
            case rel =>
              refine ⟨k + 1, (x + p + c) / 16777216, _, by omega, by omega, by go_num, by go_num, HP2.out, ?_⟩
              have ev : ((x : Int) + p + c) % 16777216 = (((x + p + c) % 16777216 : Nat) : Int) := by omega
              rw [ev]
              exact ⟨Hst.out _, (below_drewN hbel _).setCell (Nat.le_refl _) _⟩
            case measure => simp [intOf]; omega
          · have e : k = dlen b := by omega
            subst e
            have hl := hP.len
            have c3 := hown.cellAt (i + dlen b) (by omega)
            have c3' : wr.cell? ⟨w.heap.size, i + dlen b, none⟩ = some (.int .i64 (O.getD (i + dlen b) 0 : Nat)) := by
              rw [c3, List.getElem?_map, List.getD_eq_getElem?_getD, List.getElem?_eq_getElem (by omega)]; rfl
            have hf := hown.frozenAt (i + dlen b)
            have hst := hown.stored (i + dlen b) (enc c)
            rw [← List.map_set] at hst
            have hP2 := hP.next hlt (by omega)
            have Hst : Hid _ := hst
            have HP2 : Hid _ := hP2
            generalize O.getD (i + dlen b) 0 = x at *
            clear hst hP2 c3 hl hown hP hra hrb
            go_wp2
            go_roundw
            case rel => exact ⟨i + 1, _, by omega, by go_num, HP2.out, Hst.out.1, hbel.setCell (Nat.le_refl _) _⟩
            case measure => simp [intOf]; omega
      · have e : i = dlen a := by omega
        subst e
        obtain ⟨z, hz⟩ := hP.done
        have hrw := row_own hown
        have HRW : Hid (Row wr _ _) := hrw
        clear hrw hown hb0 hra hrb
        go_wp2_with (go_at_call 47; refine (cut_any _ _ (a * b) z hz _ HRW.out).mono ?_; rintro e w' ⟨v', rfl, hv, hw⟩; rw [hw]; clear hw w')
        exact hQ.out _ _ ⟨_, rfl, hv, hbel⟩
end Go.Proofs.Ytpjegpgnelfeeab

namespace Go.Proofs.Ytpjegpgnelfeeab
open Go.ChangeShapes Go.WideShapes Go.ChangeAt Go.RowKit
set_option linter.unusedVariables false

theorem Row.alloc {w : World} {v : Value} {l : List Nat} (h : Row w v l) (o : Obj) : Row (w.alloc o) v l := h.below (bmore (Below.refl _ _) _)
theorem dlen_small {n : Nat} (h : n < 22300745198530623141535718272648361505980416) : dlen n ≤ 6 := dlen_le_of_lt (by rw [show (16777216 : Nat) ^ 6 = 22300745198530623141535718272648361505980416 by decide]; exact h)

/-- a one-digit row laid out -/
theorem rof_any {n h l : Nat} (hn : Tw n h l) (w : World) :
    Calls Try.prog 34 #[.agg #[.int .u64 h, .int .u64 l]] w fun e w' => ∃ v, e = .returned v ∧ Row w' v (dig n) ∧ Below w.heap.size w w' := by
  refine cps fun Q hQ => ?_
  obtain ⟨en, hh, hl⟩ := hn
  have d1 : dlen h ≤ 1099511627776 := Nat.le_trans (dlen_small (by omega)) (by decide)
  have d2 : dlen (h * 2 ^ 64 + l) ≤ 1099511627776 := Nat.le_trans (dlen_small (by omega)) (by decide)
  have en2 : n = h * 2 ^ 64 + l := by omega
  have HN : Hid (n = h * 2 ^ 64 + l) := en2
  rw [en2] at hQ
  clear en en2
  have k1 := of_any h (by omega)
  have k2 := of_any l (by omega)
  have k3 := fun v w hr => nshl_any v h 64 (by decide) d1 w hr
  have k4 := fun va vb w ha hb => nadd_any va vb (h * 2 ^ 64) l d2 w ha hb
  generalize h * 2 ^ 64 = hs at *
  clear d1 d2
  go_enter Try.func34, Try.ntmps34
  go_wp2_with (first
    | (go_at_call_of 46 h; refine (k1 _).mono ?_; rintro e w1 ⟨v1, rfl, hr1, hb1⟩)
    | (go_at_call 39; refine (k3 _ _ hr1).mono ?_; rintro e w2 ⟨v2, rfl, hr2, hb2⟩; have hb12 := bthen hb1 hb2; obtain ⟨hc, hf⟩ := bcell hb12; have hz : w.heap.size < w2.heap.size := by have := hb12.size; simp at this; omega)
    | (go_at_call_of 46 l; refine (k2 _).mono ?_; rintro e w3 ⟨v3, rfl, hr3, hb3⟩)
    | (go_at_call 38; refine (k4 _ _ _ (hr2.below hb3) hr3).mono ?_; rintro e w4 ⟨v4, rfl, hr4, hb4⟩))
  exact hQ.out _ _ ⟨_, rfl, hr4, bthen (bthen (bthen (bmore (Below.refl _ _) _) hb12) hb3) hb4⟩

theorem told_any {n h l : Nat} (hd : dlen n ≤ 1099511627776) (hn : Tw (n % 340282366920938463463374607431768211456) h l) (v : Value) (w : World) (hr : Row w v (dig n)) :
    Calls Try.prog 36 #[v] w fun e w' => e = .returned (.agg #[.int .u64 h, .int .u64 l]) ∧ Below w.heap.size w w' := by
  refine cps fun Q hQ => ?_
  obtain ⟨en, hh, hl⟩ := hn
  have e1 : n / 2 ^ 64 % 2 ^ 64 = h := by omega
  have e2 : n % 2 ^ 64 = l := by omega
  have k1 := fun v w hr => nshr_any v n 64 (by decide) hd w hr
  have k2 := fun v w hr => nword_any v (n / 2 ^ 64) w hr
  have k3 := fun v w hr => nword_any v n w hr
  rw [e1] at k2
  rw [e2] at k3
  generalize n / 2 ^ 64 = m at *
  have hr0 := hr.alloc (.cells #[.int .u64 0, .int .u64 0] 24)
  have HR : Hid (Row w v (dig n)) := hr
  have HR0 : Hid (Row _ v (dig n)) := hr0
  clear hr hr0 e1 e2 en
  go_enter Try.func36, Try.ntmps36
  go_wp2_with (first
    | (go_at_call 49; refine (k1 _ _ HR0.out).mono ?_; rintro e w1 ⟨v1, rfl, hr1, hb1⟩; obtain ⟨hc, hf⟩ := bcell hb1; have hz : w.heap.size < w1.heap.size := by have := hb1.size; simp at this; omega)
    | (go_at_call_of 43 v1; refine (k2 _ _ hr1).mono ?_; rintro e w' ⟨rfl, hw⟩; rw [hw]; clear hw w')
    | (go_at_call_of 43 v; refine (k3 _ _ (HR0.out.below hb1)).mono ?_; rintro e w' ⟨rfl, hw⟩; rw [hw]; clear hw w'))
  refine bodyPost_ret (v := .agg #[.int .u64 h, .int .u64 l]) (by simp [results, Try.results36, go_sem, hc]) rfl (hQ.out _ _ ⟨rfl, ?_⟩)
  exact bset (bset (bthen (bmore (Below.refl _ _) _) hb1) (Nat.le_refl _) _ _) (Nat.le_refl _) _ _

theorem cmpN_ge {x y : Nat} : decide (y ≤ x) = decide (0 ≤ cmpN x y) := by
  refine decide_eq_decide.2 ?_
  rcases Nat.lt_trichotomy x y with h | h | h
  · rw [cmpN_lt h]; omega
  · subst h; rw [cmpN_eq]; omega
  · rw [cmpN_gt h]; omega
theorem cmpN_less {x y : Nat} : decide (x < y) = decide (cmpN x y < 0) := by
  refine decide_eq_decide.2 ?_
  rcases Nat.lt_trichotomy x y with h | h | h
  · rw [cmpN_lt h]; omega
  · subst h; rw [cmpN_eq]; omega
  · rw [cmpN_gt h]; omega
theorem dlen_ok {n : Nat} (h : n < 22300745198530623141535718272648361505980416) : dlen n ≤ 1099511627776 := Nat.le_trans (dlen_small h) (by decide)

end Go.Proofs.Ytpjegpgnelfeeab

namespace Go.Proofs.Ytpjegpgnelfeeab
open Go.ChangeShapes Go.WideShapes Go.ChangeAt Go.RowKit
set_option linter.unusedVariables false

/-! ### shifts -/
theorem clamp_shl (a k : Nat) (ha : a < 340282366920938463463374607431768211456) : (a * 2 ^ k) % 340282366920938463463374607431768211456 = (a * 2 ^ (min k 128)) % 340282366920938463463374607431768211456 ∧
    decide (340282366920938463463374607431768211456 ≤ a * 2 ^ k) = decide (340282366920938463463374607431768211456 ≤ a * 2 ^ (min k 128)) := by
  have h128 : (340282366920938463463374607431768211456 : Nat) = 2 ^ 128 := by decide
  by_cases h : k ≤ 128
  · rw [Nat.min_eq_left h]; exact ⟨rfl, rfl⟩
  · rw [Nat.min_eq_right (by omega)]
    have e : 2 ^ k = 2 ^ (k - 128) * 2 ^ 128 := by rw [← Nat.pow_add]; congr 1; omega
    rw [e, ← Nat.mul_assoc, ← h128]
    have hp : 0 < 2 ^ (k - 128) := Nat.pow_pos (by decide)
    have hX : 0 < a * 2 ^ (k - 128) ↔ 0 < a := ⟨fun h => Nat.pos_of_mul_pos_right h, fun h => Nat.mul_pos h hp⟩
    generalize a * 2 ^ (k - 128) = X at *
    clear e hp
    refine ⟨by omega, decide_eq_decide.2 (by omega)⟩
theorem clamp_shr (a k : Nat) (ha : a < 340282366920938463463374607431768211456) : a / 2 ^ k = a / 2 ^ (min k 128) ∧ decide (a % 2 ^ k ≠ 0) = decide (a % 2 ^ (min k 128) ≠ 0) := by
  by_cases h : k ≤ 128
  · rw [Nat.min_eq_left h]; exact ⟨rfl, rfl⟩
  · rw [Nat.min_eq_right (by omega)]
    have h1 : a < 2 ^ 128 := ha
    have h2 : 2 ^ 128 ≤ 2 ^ k := Nat.pow_le_pow_right (by decide) (by omega)
    have h3 : a < 2 ^ k := by omega
    rw [Nat.div_eq_of_lt h1, Nat.div_eq_of_lt h3, Nat.mod_eq_of_lt h1, Nat.mod_eq_of_lt h3]
    exact ⟨rfl, rfl⟩
theorem shl_dlen (a k : Nat) (ha : a < 340282366920938463463374607431768211456) (hk : k ≤ 128) : dlen (a * 2 ^ k) ≤ 1099511627776 := by
  refine Nat.le_trans (dlen_le_of_lt (k := 12) ?_) (by decide)
  have h1 : 2 ^ k ≤ 2 ^ 128 := Nat.pow_le_pow_right (by decide) hk
  exact Nat.lt_of_lt_of_le (Nat.mul_lt_mul_of_lt_of_le ha h1 (Nat.pow_pos (by decide))) (by decide)

end Go.Proofs.Ytpjegpgnelfeeab

namespace Go.Proofs.Ytpjegpgnelfeeab
open Go.ChangeShapes Go.WideShapes Go.ChangeAt Go.RowKit
set_option linter.unusedVariables false

theorem tshl_no (k : Int) (hk : k < 0) (h1 l1 : Nat) (w : World) :
    Calls Try.prog 13 #[.agg #[.int .u64 h1, .int .u64 l1], .int .i64 k] w fun e w' => e = .returned (.tuple #[.agg #[.int .u64 0, .int .u64 0], .bool false, .iface 56 (.int .i64 1)]) ∧ Below w.heap.size w w' := by
  refine cps fun Q hQ => ?_
  go_enter Try.func13, Try.ntmps13
  go_wp2
  refine bodyPost_ret (v := .tuple #[.agg #[.int .u64 0, .int .u64 0], .bool false, .iface 56 (.int .i64 1)]) (by simp [results, Try.results13, go_sem]) rfl (hQ.out _ _ ⟨rfl, ?_⟩)
  exact bmore (bmore (Below.refl _ _) _) _
set_option maxHeartbeats 1000000 in
theorem tshl_any {a h1 l1 h l : Nat} {c : Bool} (k : Nat) (hk : k ≤ 9223372036854775807) (ha : Tw a h1 l1) (hs : Tw ((a * 2 ^ k) % 340282366920938463463374607431768211456) h l) (hc : c = decide (340282366920938463463374607431768211456 ≤ a * 2 ^ k)) (w : World) :
    Calls Try.prog 13 #[.agg #[.int .u64 h1, .int .u64 l1], .int .i64 k] w fun e w' => e = .returned (.tuple #[.agg #[.int .u64 h, .int .u64 l], .bool c, .nilIface]) ∧ Below w.heap.size w w' := by
  refine cps fun Q hQ => ?_
  have k1 := fun w => up_any k hk ha hs w
  obtain ⟨T, hT⟩ : ∃ T, T = (a * 2 ^ k) % 340282366920938463463374607431768211456 / 2 ^ k := ⟨_, rfl⟩
  have hTlt : T < 340282366920938463463374607431768211456 := by rw [hT]; exact Nat.lt_of_le_of_lt (Nat.div_le_self _ _) (Nat.mod_lt _ (by decide))
  have hq : (!decide (T = a)) = decide (340282366920938463463374607431768211456 ≤ a * 2 ^ k) := by
    have hp : 0 < 2 ^ k := Nat.pow_pos (by decide)
    by_cases h0 : 340282366920938463463374607431768211456 ≤ a * 2 ^ k
    · have : T ≠ a := by
        intro h1
        rw [hT] at h1
        have h2 := Nat.div_mul_le_self ((a * 2 ^ k) % 340282366920938463463374607431768211456) (2 ^ k)
        rw [h1] at h2
        have h3 := Nat.mod_lt (a * 2 ^ k) (show 0 < 340282366920938463463374607431768211456 by decide)
        omega
      simp [this, h0]
    · have : T = a := by rw [hT, Nat.mod_eq_of_lt (by omega), Nat.mul_div_cancel _ hp]
      simp [this, h0]
  obtain ⟨h3, l3, ht⟩ : ∃ h3 l3, Tw T h3 l3 := ⟨T / 18446744073709551616, T % 18446744073709551616, by omega, by omega, by omega⟩
  have hTT : Tw ((a * 2 ^ k) % 340282366920938463463374607431768211456 / 2 ^ k) h3 l3 := hT ▸ ht
  have k2 := fun w => down_any k hk hs hTT w
  have hc2 : c = !(decide (h3 = h1) && decide (l3 = l1)) := by
    rw [hc, ← hq]
    by_cases hh : h3 = h1 ∧ l3 = l1
    · rw [hh.1, hh.2] at ht ⊢
      simp
      have := ht.eq.trans ha.eq.symm
      exact this
    · have : ¬ T = a := fun h => hh (by rw [h] at ht; exact ht.one ha)
      rw [decide_eq_false this]
      by_cases h5 : h3 = h1
      · have : l3 ≠ l1 := fun h6 => hh ⟨h5, h6⟩
        simp [this]
      · simp [h5]
  have hcase : (h1 = h3 ∧ l1 = l3 ∧ c = false) ∨ (h1 = h3 ∧ ¬ (l3 : Int) = l1 ∧ c = true) ∨ (¬ (h3 : Int) = h1 ∧ c = true) := by
    by_cases g1 : h3 = h1
    · by_cases g2 : l3 = l1
      · exact .inl ⟨g1.symm, g2.symm, by rw [hc2]; simp [g1, g2]⟩
      · exact .inr (.inl ⟨g1.symm, by omega, by rw [hc2]; simp [g2]⟩)
    · exact .inr (.inr ⟨by omega, by rw [hc2]; simp [g1]⟩)
  clear hc hc2 ht hs ha hq hTT hT hTlt
  rcases hcase with ⟨rfl, rfl, rfl⟩ | ⟨rfl, g2, rfl⟩ | ⟨g1, rfl⟩
  all_goals
    go_enter Try.func13, Try.ntmps13
    go_wp2_with (go_at_call 28; refine (k1 _).mono ?_; rintro e w1 ⟨rfl, hb1⟩; obtain ⟨hc1, hf1⟩ := bcell hb1; have hz : w.heap.size + 1 < w1.heap.size := by have := hb1.size; simp at this; omega)
    have hz0 : w.heap.size < w1.heap.size := by omega
    refine wpC_region (fun W => W.cell? ⟨w.heap.size, 0, none⟩ = some (.int .u64 h1) ∧ W.cell? ⟨w.heap.size, 1, none⟩ = some (.int .u64 l1) ∧ W.cell? ⟨w1.heap.size, 0, none⟩ = some (.int .u64 h) ∧ W.cell? ⟨w1.heap.size, 1, none⟩ = some (.int .u64 l)) (by kernel_rfl) ?_
    refine wpC_take 0 (v := ?_) rfl (by kernel_rfl) (fun _ _ _ h => h) (by kernel_rfl) ?_ ?_; rotate_left; · (intro wC hC; obtain ⟨c1, c2, c3, c4⟩ := hC; go_simp <;> with_reducible rfl)
    refine wpC_take 1 (v := ?_) rfl (by kernel_rfl) (fun _ _ _ h => h) (by kernel_rfl) ?_ ?_; rotate_left; · (intro wC hC; obtain ⟨c1, c2, c3, c4⟩ := hC; go_simp <;> with_reducible rfl)
    refine wpC_take 2 (v := ?_) rfl (by kernel_rfl) (fun _ _ _ h => h) (by kernel_rfl) ?_ ?_; rotate_left; · (intro wC hC; obtain ⟨c1, c2, c3, c4⟩ := hC; go_simp <;> with_reducible rfl)
    refine wpC_take 4 (v := ?_) rfl (by kernel_rfl) (fun _ _ _ h => h) (by kernel_rfl) ?_ ?_; rotate_left; · (intro wC hC; obtain ⟨c1, c2, c3, c4⟩ := hC; go_simp <;> with_reducible rfl)
    refine wpC_step 3 rfl (by kernel_rfl) (by kernel_rfl) (by simp [go_sem, hc1, hz0]) (fun K hK => ?_)
    go_simp
    go_wp2_with ((go_at_call 29; refine (k2 _).mono ?_; rintro e w2 ⟨rfl, hb2⟩; obtain ⟨hc2, hf2⟩ := bcell hb2; have hz2 : w1.heap.size < w2.heap.size := by have := hb2.size; simp at this; omega))
    try (refine hK _ _ ?_; clear hK K)
    refine wpC_take 5 (v := ?_) rfl (by kernel_rfl) (fun _ _ _ h => h) (by kernel_rfl) ?_ ?_; rotate_left; · (intro wC hC; obtain ⟨c1, c2, c3, c4⟩ := hC; go_simp <;> with_reducible rfl)
    refine wpC_step 6 rfl (by kernel_rfl) (by kernel_rfl) (by simp [go_sem, hc1, hc2, hz0]) (fun K hK => ?_)
    go_simp
    try (refine hK _ _ ?_; clear hK K)
    refine wpC_step 7 rfl (by kernel_rfl) (by kernel_rfl) (by simp [go_sem, hc1, hc2, hz0]) (fun K hK => ?_)
    go_simp
    try (refine hK _ _ ?_; clear hK K)
    refine wpC_step 8 rfl (by kernel_rfl) (by kernel_rfl) (by simp [go_sem, hc1, hc2, hz0]) (fun K hK => ?_)
    go_simp
    try (refine hK _ _ ?_; clear hK K)
    refine wpC_done (by kernel_rfl) (by simp [go_sem, hc1, hc2, hz0]) ?_
    go_wp2
    refine bodyPost_ret (v := .tuple #[.agg #[.int .u64 h, .int .u64 l], .bool _, .nilIface]) (by simp [results, Try.results13, go_sem, hc1, hc2, hz, hz0]) rfl (hQ.out _ _ ⟨rfl, ?_⟩)
    exact bset (bset (bthen (bdrew (bmore (bthen (bmore (bmore (Below.refl _ _) _) _) hb1) _)) hb2) (by omega) _ _) (by omega) _ _

theorem tshr_no (k : Int) (hk : k < 0) (h1 l1 : Nat) (w : World) :
    Calls Try.prog 14 #[.agg #[.int .u64 h1, .int .u64 l1], .int .i64 k] w fun e w' => e = .returned (.tuple #[.agg #[.int .u64 0, .int .u64 0], .bool false, .iface 56 (.int .i64 1)]) ∧ Below w.heap.size w w' := by
  refine cps fun Q hQ => ?_
  go_enter Try.func14, Try.ntmps14
  go_wp2
  refine bodyPost_ret (v := .tuple #[.agg #[.int .u64 0, .int .u64 0], .bool false, .iface 56 (.int .i64 1)]) (by simp [results, Try.results14, go_sem]) rfl (hQ.out _ _ ⟨rfl, ?_⟩)
  exact bmore (bmore (Below.refl _ _) _) _
set_option maxHeartbeats 1000000 in
theorem tshr_any {a h1 l1 h l : Nat} {c : Bool} (k : Nat) (hk : k ≤ 9223372036854775807) (ha : Tw a h1 l1) (hs : Tw (a / 2 ^ k) h l) (hc : c = decide (a % 2 ^ k ≠ 0)) (w : World) :
    Calls Try.prog 14 #[.agg #[.int .u64 h1, .int .u64 l1], .int .i64 k] w fun e w' => e = .returned (.tuple #[.agg #[.int .u64 h, .int .u64 l], .bool c, .nilIface]) ∧ Below w.heap.size w w' := by
  refine cps fun Q hQ => ?_
  have k1 := fun w => down_any k hk ha hs w
  obtain ⟨T, hT⟩ : ∃ T, T = (a / 2 ^ k * 2 ^ k) % 340282366920938463463374607431768211456 := ⟨_, rfl⟩
  have hTlt : T < 340282366920938463463374607431768211456 := by rw [hT]; exact Nat.mod_lt _ (by decide)
  have hq : (!decide (T = a)) = decide (a % 2 ^ k ≠ 0) := by
    have h1 := Nat.div_add_mod a (2 ^ k)
    have h2 := ha.lt
    rw [Nat.mul_comm] at h1
    have h3 : T = a / 2 ^ k * 2 ^ k := by rw [hT, Nat.mod_eq_of_lt (by omega)]
    rw [← h3] at h1
    by_cases h0 : a % 2 ^ k = 0
    · have : T = a := by omega
      simp [this, h0]
    · have : T ≠ a := by omega
      simp [this, h0]
  obtain ⟨h3, l3, ht⟩ : ∃ h3 l3, Tw T h3 l3 := ⟨T / 18446744073709551616, T % 18446744073709551616, by omega, by omega, by omega⟩
  have hTT : Tw ((a / 2 ^ k * 2 ^ k) % 340282366920938463463374607431768211456) h3 l3 := hT ▸ ht
  have k2 := fun w => up_any k hk hs hTT w
  have hc2 : c = !(decide (h3 = h1) && decide (l3 = l1)) := by
    rw [hc, ← hq]
    by_cases hh : h3 = h1 ∧ l3 = l1
    · rw [hh.1, hh.2] at ht ⊢
      simp
      have := ht.eq.trans ha.eq.symm
      exact this
    · have : ¬ T = a := fun h => hh (by rw [h] at ht; exact ht.one ha)
      rw [decide_eq_false this]
      by_cases h5 : h3 = h1
      · have : l3 ≠ l1 := fun h6 => hh ⟨h5, h6⟩
        simp [this]
      · simp [h5]
  have hcase : (h1 = h3 ∧ l1 = l3 ∧ c = false) ∨ (h1 = h3 ∧ ¬ (l3 : Int) = l1 ∧ c = true) ∨ (¬ (h3 : Int) = h1 ∧ c = true) := by
    by_cases g1 : h3 = h1
    · by_cases g2 : l3 = l1
      · exact .inl ⟨g1.symm, g2.symm, by rw [hc2]; simp [g1, g2]⟩
      · exact .inr (.inl ⟨g1.symm, by omega, by rw [hc2]; simp [g2]⟩)
    · exact .inr (.inr ⟨by omega, by rw [hc2]; simp [g1]⟩)
  clear hc hc2 ht hs ha hq hTT hT hTlt
  rcases hcase with ⟨rfl, rfl, rfl⟩ | ⟨rfl, g2, rfl⟩ | ⟨g1, rfl⟩
  all_goals
    go_enter Try.func14, Try.ntmps14
    go_wp2_with (go_at_call 29; refine (k1 _).mono ?_; rintro e w1 ⟨rfl, hb1⟩; obtain ⟨hc1, hf1⟩ := bcell hb1; have hz : w.heap.size + 1 < w1.heap.size := by have := hb1.size; simp at this; omega)
    have hz0 : w.heap.size < w1.heap.size := by omega
    refine wpC_region (fun W => W.cell? ⟨w.heap.size, 0, none⟩ = some (.int .u64 h1) ∧ W.cell? ⟨w.heap.size, 1, none⟩ = some (.int .u64 l1) ∧ W.cell? ⟨w1.heap.size, 0, none⟩ = some (.int .u64 h) ∧ W.cell? ⟨w1.heap.size, 1, none⟩ = some (.int .u64 l)) (by kernel_rfl) ?_
    refine wpC_take 0 (v := ?_) rfl (by kernel_rfl) (fun _ _ _ h => h) (by kernel_rfl) ?_ ?_; rotate_left; · (intro wC hC; obtain ⟨c1, c2, c3, c4⟩ := hC; go_simp <;> with_reducible rfl)
    refine wpC_take 1 (v := ?_) rfl (by kernel_rfl) (fun _ _ _ h => h) (by kernel_rfl) ?_ ?_; rotate_left; · (intro wC hC; obtain ⟨c1, c2, c3, c4⟩ := hC; go_simp <;> with_reducible rfl)
    refine wpC_take 2 (v := ?_) rfl (by kernel_rfl) (fun _ _ _ h => h) (by kernel_rfl) ?_ ?_; rotate_left; · (intro wC hC; obtain ⟨c1, c2, c3, c4⟩ := hC; go_simp <;> with_reducible rfl)
    refine wpC_take 4 (v := ?_) rfl (by kernel_rfl) (fun _ _ _ h => h) (by kernel_rfl) ?_ ?_; rotate_left; · (intro wC hC; obtain ⟨c1, c2, c3, c4⟩ := hC; go_simp <;> with_reducible rfl)
    refine wpC_step 3 rfl (by kernel_rfl) (by kernel_rfl) (by simp [go_sem, hc1, hz0]) (fun K hK => ?_)
    go_simp
    go_wp2_with ((go_at_call 28; refine (k2 _).mono ?_; rintro e w2 ⟨rfl, hb2⟩; obtain ⟨hc2, hf2⟩ := bcell hb2; have hz2 : w1.heap.size < w2.heap.size := by have := hb2.size; simp at this; omega))
    try (refine hK _ _ ?_; clear hK K)
    refine wpC_take 5 (v := ?_) rfl (by kernel_rfl) (fun _ _ _ h => h) (by kernel_rfl) ?_ ?_; rotate_left; · (intro wC hC; obtain ⟨c1, c2, c3, c4⟩ := hC; go_simp <;> with_reducible rfl)
    refine wpC_step 6 rfl (by kernel_rfl) (by kernel_rfl) (by simp [go_sem, hc1, hc2, hz0]) (fun K hK => ?_)
    go_simp
    try (refine hK _ _ ?_; clear hK K)
    refine wpC_step 7 rfl (by kernel_rfl) (by kernel_rfl) (by simp [go_sem, hc1, hc2, hz0]) (fun K hK => ?_)
    go_simp
    try (refine hK _ _ ?_; clear hK K)
    refine wpC_step 8 rfl (by kernel_rfl) (by kernel_rfl) (by simp [go_sem, hc1, hc2, hz0]) (fun K hK => ?_)
    go_simp
    try (refine hK _ _ ?_; clear hK K)
    refine wpC_done (by kernel_rfl) (by simp [go_sem, hc1, hc2, hz0]) ?_
    go_wp2
    refine bodyPost_ret (v := .tuple #[.agg #[.int .u64 h, .int .u64 l], .bool _, .nilIface]) (by simp [results, Try.results14, go_sem, hc1, hc2, hz, hz0]) rfl (hQ.out _ _ ⟨rfl, ?_⟩)
    exact bset (bset (bthen (bdrew (bmore (bthen (bmore (bmore (Below.refl _ _) _) _) hb1) _)) hb2) (by omega) _ _) (by omega) _ _
end Go.Proofs.Ytpjegpgnelfeeab

namespace Go.Proofs.Ytpjegpgnelfeeab
open Go.ChangeShapes Go.WideShapes Go.ChangeAt Go.RowKit
set_option linter.unusedVariables false

theorem tnorm_zero (w : World) :
    Calls Try.prog 45 #[.agg #[.int .u64 0, .int .u64 0]] w fun e w' => e = .returned (.tuple #[.agg #[.int .u64 0, .int .u64 0], .int .i64 0]) ∧ Below w.heap.size w w' := by
  refine cps fun Q hQ => ?_
  go_enter Try.func45, Try.ntmps45
  go_wp2
  refine bodyPost_ret (v := .tuple #[.agg #[.int .u64 0, .int .u64 0], .int .i64 0]) (by simp [results, Try.results45, go_sem]) rfl (hQ.out _ _ ⟨rfl, ?_⟩)
  exact bmore (bmore (Below.refl _ _) _) _
set_option maxHeartbeats 1000000 in
theorem tnorm_any {a h1 l1 h l k : Nat} (ha : Tw a h1 l1) (h0 : a ≠ 0) (hk : k + blen a = 128) (hs : Tw ((a * 2 ^ k) % 340282366920938463463374607431768211456) h l) (w : World) :
    Calls Try.prog 45 #[.agg #[.int .u64 h1, .int .u64 l1]] w fun e w' => e = .returned (.tuple #[.agg #[.int .u64 h, .int .u64 l], .int .i64 k]) ∧ Below w.heap.size w w' := by
  refine cps fun Q hQ => ?_
  have k1 := fun w => tlen_any ha w
  have k2 := fun w => up_any k (by omega) ha hs w
  have hne : (¬ (h1 : Int) = 0) ∨ (h1 = 0 ∧ ¬ (l1 : Int) = 0) := by have := ha.eq; omega
  clear ha hs h0
  generalize blen a = L at *
  have hkk : (128 : Int) - L = k := by omega
  have hL : L ≤ 128 := by omega
  clear hk
  rcases hne with hne | ⟨rfl, hne⟩
  all_goals
    go_enter Try.func45, Try.ntmps45
    go_wp2_with (first
      | (go_at_call 55; refine (k1 _).mono ?_; rintro e w1 ⟨rfl, hb1⟩; obtain ⟨hc1, hf1⟩ := bcell hb1)
      | (go_at_call 28; refine (k2 _).mono ?_; rintro e w2 ⟨rfl, hb2⟩; have hb12 := bthen hb1 hb2; obtain ⟨hc2, hf2⟩ := bcell hb12))
    refine bodyPost_ret (v := .tuple #[.agg #[.int .u64 h, .int .u64 l], .int .i64 k]) (by simp [results, Try.results45, go_sem, hc2]) rfl (hQ.out _ _ ⟨rfl, ?_⟩)
    exact bset (bset (bthen (bmore (bmore (Below.refl _ _) _) _) hb12) (by omega) _ _) (by omega) _ _
end Go.Proofs.Ytpjegpgnelfeeab

namespace Go.Proofs.Ytpjegpgnelfeeab
open Go.ChangeShapes Go.WideShapes Go.ChangeAt Go.RowKit
set_option linter.unusedVariables false

theorem div64_q {a hi lo y q r : Nat} (ha : a = hi * 18446744073709551616 + lo) (hh : hi < y) (hl : lo ≤ 18446744073709551615) (hy : y ≤ 18446744073709551615) (hq : q = a / y) (hr : r = a % y) (w : World) :
    Calls Try.prog 30 #[.int .u64 hi, .int .u64 lo, .int .u64 y] w fun e w' => e = .returned (.tuple #[.int .u64 q, .int .u64 r]) ∧ ∃ n, w' = w.drewN n := by
  refine (div64_any hi lo y hh hl hy w).mono ?_
  rintro e w' ⟨⟨q', r', rfl, h1, h2⟩, hw⟩
  refine ⟨?_, hw⟩
  rw [h1, h2, hq, hr, ha]
theorem pdiv_zero (h1 l1 : Nat) (w : World) :
    Calls Try.prog 16 #[.agg #[.int .u64 h1, .int .u64 l1], .int .u64 0] w fun e w' => e = .returned (.tuple #[.int .u64 0, .int .u64 0, .iface 56 (.int .i64 4)]) ∧ Below w.heap.size w w' := by
  refine cps fun Q hQ => ?_
  go_enter Try.func16, Try.ntmps16
  go_wp2
  go_ret3
  exact hQ.out _ _ ⟨rfl, bmore (Below.refl _ _) _⟩
theorem pdiv_big (h1 l1 d : Nat) (hd : 0 < d) (hb : d ≤ h1) (w : World) :
    Calls Try.prog 16 #[.agg #[.int .u64 h1, .int .u64 l1], .int .u64 d] w fun e w' => e = .returned (.tuple #[.int .u64 0, .int .u64 0, .iface 56 (.int .i64 5)]) ∧ Below w.heap.size w w' := by
  refine cps fun Q hQ => ?_
  go_enter Try.func16, Try.ntmps16
  go_wp2
  go_ret3
  exact hQ.out _ _ ⟨rfl, bmore (Below.refl _ _) _⟩
theorem pdiv_any {a h1 l1 d q r : Nat} (ha : Tw a h1 l1) (hd : d ≤ 18446744073709551615) (hb : h1 < d) (hq : q = a / d) (hr : r = a % d) (w : World) :
    Calls Try.prog 16 #[.agg #[.int .u64 h1, .int .u64 l1], .int .u64 d] w fun e w' => e = .returned (.tuple #[.int .u64 q, .int .u64 r, .nilIface]) ∧ Below w.heap.size w w' := by
  refine cps fun Q hQ => ?_
  have k1 := fun w => div64_q ha.eq hb ha.lo hd hq hr w
  clear ha hq hr
  go_enter Try.func16, Try.ntmps16
  go_wp2_with (go_at_call 30; refine (k1 _).mono ?_; rintro e w' ⟨rfl, n, rfl⟩)
  go_ret3
  exact hQ.out _ _ ⟨rfl, bdrewN (bmore (Below.refl _ _) _) _⟩
theorem plong_zero (h1 l1 : Nat) (w : World) :
    Calls Try.prog 19 #[.agg #[.int .u64 h1, .int .u64 l1], .int .u64 0] w fun e w' => e = .returned (.tuple #[.agg #[.int .u64 0, .int .u64 0], .int .u64 0, .iface 56 (.int .i64 4)]) ∧ Below w.heap.size w w' := by
  refine cps fun Q hQ => ?_
  go_enter Try.func19, Try.ntmps19
  go_wp2
  refine bodyPost_ret (v := .tuple #[.agg #[.int .u64 0, .int .u64 0], .int .u64 0, .iface 56 (.int .i64 4)]) (by simp [results, Try.results19, go_sem]) rfl (hQ.out _ _ ⟨rfl, ?_⟩)
  exact bmore (bmore (Below.refl _ _) _) _
theorem plong_any {a h1 l1 d h l r : Nat} (ha : Tw a h1 l1) (hd : d ≤ 18446744073709551615) (h0 : 0 < d) (hq : Tw (a / d) h l) (hr : r = a % d) (w : World) :
    Calls Try.prog 19 #[.agg #[.int .u64 h1, .int .u64 l1], .int .u64 d] w fun e w' => e = .returned (.tuple #[.agg #[.int .u64 h, .int .u64 l], .int .u64 r, .nilIface]) ∧ Below w.heap.size w w' := by
  refine cps fun Q hQ => ?_
  obtain ⟨ea, hh, hl⟩ := ha
  obtain ⟨m, hm⟩ : ∃ m, m = h1 % d := ⟨_, rfl⟩
  obtain ⟨t, ht⟩ : ∃ t, t = h1 / d := ⟨_, rfl⟩
  have hmd : m < d := by rw [hm]; exact Nat.mod_lt _ h0
  have e1 : h1 = t * d + m := by rw [hm, ht]; exact (Nat.div_add_mod' h1 d).symm
  have e2 : a = (m * 18446744073709551616 + l1) + t * 18446744073709551616 * d := by
    rw [ea, e1, Nat.add_mul, Nat.mul_right_comm]
    omega
  have e3 : a / d = (m * 18446744073709551616 + l1) / d + t * 18446744073709551616 := by rw [e2, Nat.add_mul_div_right _ _ h0]
  have e4 : a % d = (m * 18446744073709551616 + l1) % d := by rw [e2, Nat.add_mul_mod_self_right]
  have e5 : (m * 18446744073709551616 + l1) / d < 18446744073709551616 := by
    refine Nat.div_lt_of_lt_mul ?_
    have := Nat.mul_le_mul (show m + 1 ≤ d by omega) (Nat.le_refl 18446744073709551616)
    omega
  have et : t ≤ h1 := by rw [ht]; exact Nat.div_le_self _ _
  have hq' : h = t ∧ l = (m * 18446744073709551616 + l1) / d := by
    rw [e3] at hq
    obtain ⟨q1, q2, q3⟩ := hq
    generalize (m * 18446744073709551616 + l1) / d = X at *
    omega
  have k1 := fun w => div64_q (a := m * 18446744073709551616 + l1) rfl hmd hl hd hq'.2 (hr.trans e4) w
  have v1 : (h1 : Int) % d = m := by rw [hm]; exact (Int.natCast_emod h1 d).symm
  have v2 : (h1 : Int) / d = h := by rw [hq'.1, ht]; exact (Int.natCast_ediv h1 d).symm
  have v3 : IntKind.u64.wrap (h : Int) = h := wrapU h (by omega)
  have h3 : ¬ ((d : Int) = 0) := by omega
  clear e1 e2 e3 e4 e5 hq hr hq' et ht hm ea
  go_enter Try.func19, Try.ntmps19
  go_wp2
  go_quiet ((go_at_call 30; exact Calls.quiet_of (k1 _)))
  go_wp2
  refine bodyPost_ret (v := .tuple #[.agg #[.int .u64 h, .int .u64 l], .int .u64 r, .nilIface]) (by simp [results, Try.results19, go_sem]) rfl (hQ.out _ _ ⟨rfl, ?_⟩)
  exact bset (bset (bdrewN (bmore (bmore (Below.refl _ _) _) _) _) (by omega) _ _) (by omega) _ _
theorem ptimes_any {d h2 l2 q h l : Nat} (hd : Tw d h2 l2) (hq : q ≤ 18446744073709551615) (hs : Tw (d * q) h l) (w : World) :
    Calls Try.prog 33 #[.agg #[.int .u64 h2, .int .u64 l2], .int .u64 q] w fun e w' => e = .returned (.agg #[.int .u64 h, .int .u64 l]) ∧ Below w.heap.size w w' := by
  refine cps fun Q hQ => ?_
  obtain ⟨ed, e1, e2⟩ := hd
  have lp := Nat.mul_le_mul e2 hq
  obtain ⟨hm, lm, hp⟩ : ∃ h l, Tw (l2 * q) h l := ⟨l2 * q / 18446744073709551616, l2 * q % 18446744073709551616, by omega, by omega, by omega⟩
  have k1 := fun w => tmul_any e2 hq hp w
  obtain ⟨es, s1, s2⟩ := hs
  obtain ⟨ep, p1, p2⟩ := hp
  obtain ⟨M, hM⟩ : ∃ M, M = h2 * q := ⟨_, rfl⟩
  have ex : d * q = M * 18446744073709551616 + l2 * q := by rw [ed, Nat.add_mul, hM, Nat.mul_right_comm]
  rw [ex, ep] at es
  have f1 : lm = l := by omega
  have f2 : hm + M = h := by omega
  have v1 : IntKind.u64.wrap ((h2 : Int) * q) = M := by rw [mulN, ← hM]; exact wrapU M (by omega)
  have v2 : IntKind.u64.wrap ((hm : Int) + M) = h := by rw [addN, f2]; exact wrapU h (by omega)
  clear ed lp es ep ex hM f2
  subst f1
  go_enter Try.func33, Try.ntmps33
  go_wp2_with (go_at_call 12; refine (k1 _).mono ?_; rintro e w1 ⟨rfl, hb1⟩; obtain ⟨hc1, hf1⟩ := bcell hb1; have z0 : w.heap.size + 1 < w1.heap.size := (by have := hb1.size; simp at this; omega); have z1 : w.heap.size < w1.heap.size := (by omega))
  refine bodyPost_ret (v := .agg #[.int .u64 h, .int .u64 lm]) (by simp [results, Try.results33, go_sem, hc1, z0]) rfl (hQ.out _ _ ⟨rfl, ?_⟩)
  exact bmore (bset (bset (bthen (bmore (bmore (Below.refl _ _) _) _) hb1) (by omega) _ _) (by omega) _ _) _
/-- the guess that leaves room for one more -/
theorem pguess_math {a d j T v q : Nat} (ha : a < 340282366920938463463374607431768211456) (hT : T = 2 ^ (j + 1)) (hv : v = d / T) (hv2 : 9223372036854775808 ≤ v)
    (hq : q = a / 2 / v / 2 ^ j) : (q - min q 1) * d ≤ a ∧ a < (q - min q 1 + 2) * d := by
  have hT2 : T = 2 ∨ 4 ≤ T := by
    rcases Nat.eq_zero_or_pos j with h | h
    · left; rw [hT, h]
    · right; rw [hT]; exact Nat.le_trans (show 4 ≤ 2 ^ 2 by decide) (Nat.pow_le_pow_right (by decide) (by omega))
  have hT0 : 0 < T := by omega
  have hD : v * T ≤ d := by rw [hv]; exact Nat.div_mul_le_self d T
  have hD2 : d < v * T + T := by
    have := Nat.mod_lt d hT0
    have h2 := Nat.div_add_mod' d T
    rw [← hv] at h2
    omega
  have hD3 : 9223372036854775808 * T ≤ v * T := Nat.mul_le_mul_right T hv2
  have hq2 : q = a / (v * T) := by
    rw [hq, Nat.div_div_eq_div_mul, Nat.div_div_eq_div_mul]
    congr 1
    rw [hT, Nat.pow_succ, Nat.mul_left_comm, Nat.mul_comm 2]
  obtain ⟨D, eD⟩ : ∃ D, D = v * T := ⟨_, rfl⟩
  rw [← eD] at hD hD2 hD3 hq2
  have hD0 : 0 < D := by omega
  have q1 : q * D ≤ a := by rw [hq2]; exact Nat.div_mul_le_self a D
  have q2 : a < (q + 1) * D := by
    have := Nat.lt_div_mul_add (a := a) hD0
    rw [← hq2] at this
    rw [Nat.add_mul, Nat.one_mul]
    exact this
  clear hq hq2 hv eD hT
  by_cases h0 : q = 0
  · subst h0
    simp only [Nat.zero_min, Nat.sub_self, Nat.zero_mul, Nat.zero_add]
    refine ⟨Nat.zero_le _, ?_⟩
    omega
  · obtain ⟨i, rfl⟩ : ∃ i, q = i + 1 := ⟨q - 1, by omega⟩
    rw [show min (i + 1) 1 = 1 by omega, Nat.add_sub_cancel]
    constructor
    · have h1 : (i + 1) * (9223372036854775808 * T) ≤ (i + 1) * D := Nat.mul_le_mul_left _ hD3
      have h2 : i * d ≤ i * (D + (T - 1)) := Nat.mul_le_mul_left _ (by omega)
      have h3 : i * (T - 1) ≤ D := by
        rcases hT2 with h | h
        · subst h; omega
        · have h4 : i * (T - 1) ≤ (i + 1) * T := Nat.mul_le_mul (by omega) (by omega)
          have h5 : (i + 1) * (9223372036854775808 * T) = 9223372036854775808 * ((i + 1) * T) := Nat.mul_left_comm _ _ _
          rw [h5] at h1
          generalize (i + 1) * T = X at *
          omega
      rw [Nat.mul_add] at h2
      rw [Nat.add_mul, Nat.one_mul] at q1
      generalize i * D = Y at *
      omega
    · have h1 : (i + 1 + 1) * D ≤ (i + 2) * d := Nat.mul_le_mul (by omega) hD
      omega
set_option maxHeartbeats 1000000 in
theorem pguess_any {a h1 l1 d h2 l2 : Nat} (ha : Tw a h1 l1) (hd : Tw d h2 l2) (hn : 0 < h2) (w : World) :
    Calls Try.prog 32 #[.agg #[.int .u64 h1, .int .u64 l1], .agg #[.int .u64 h2, .int .u64 l2]] w fun e w' => (∃ q : Nat, e = .returned (.int .u64 q) ∧ q ≤ 18446744073709551615 ∧ q * d ≤ a ∧ a < (q + 2) * d) ∧ Below w.heap.size w w' := by
  refine cps fun Q hQ => ?_
  have la := ha.lt
  have ld := hd.lt
  have bd : blen d ≤ 128 := blen_le.2 ld
  have bd2 : ¬ blen d ≤ 64 := fun h => by have := blen_le.1 h; have := hd.eq; omega
  obtain ⟨j, hj⟩ : ∃ j, j = blen d - 65 := ⟨_, rfl⟩
  obtain ⟨k, hk⟩ : ∃ k, k = 63 - j := ⟨_, rfl⟩
  have hkb : k + blen d = 128 := by omega
  have b1 : d < 2 ^ blen d := blen_le.1 (Nat.le_refl _)
  have b2 : 2 ^ (blen d - 1) ≤ d := Nat.le_of_not_lt fun h => by have := blen_le.2 h; omega
  have p0 : 0 < 2 ^ k := Nat.pow_pos (by decide)
  have e1 : 2 ^ blen d * 2 ^ k = 2 ^ 128 := by rw [← Nat.pow_add]; congr 1; omega
  have e2 : 2 ^ (blen d - 1) * 2 ^ k = 2 ^ 127 := by rw [← Nat.pow_add]; congr 1; omega
  have d1 : d * 2 ^ k < 2 ^ 128 := by rw [← e1]; exact Nat.mul_lt_mul_of_pos_right b1 p0
  have d2 : 2 ^ 127 ≤ d * 2 ^ k := by rw [← e2]; exact Nat.mul_le_mul_right _ b2
  have e3 : d / 2 ^ (j + 1) = d * 2 ^ k / 2 ^ 64 := by
    rw [show (64 : Nat) = (j + 1) + k by omega, Nat.pow_add 2 (j + 1) k, Nat.mul_div_mul_right _ _ p0]
  obtain ⟨D, hD⟩ : ∃ D, D = d * 2 ^ k := ⟨_, rfl⟩
  rw [← hD] at d1 d2 e3
  obtain ⟨hh, ll, th⟩ : ∃ h l, Tw D h l := ⟨D / 18446744073709551616, D % 18446744073709551616, by omega, by omega, by omega⟩
  have hne : d ≠ 0 := by have := hd.eq; omega
  have k1 := fun w => tnorm_any hd hne hkb (by rw [← hD, Nat.mod_eq_of_lt (by omega)]; exact th) w
  obtain ⟨h3, l3, t3⟩ : ∃ h l, Tw (a / 2 ^ 1) h l := ⟨a / 2 ^ 1 / 18446744073709551616, a / 2 ^ 1 % 18446744073709551616, by omega, by omega, by omega⟩
  have k2 := fun w => tshr_any 1 (by decide) ha t3 rfl w
  have hh2 : 9223372036854775808 ≤ hh := by have := th.eq; have := th.lo; omega
  have h3b : h3 < hh := by have := t3.eq; omega
  obtain ⟨q0, hq0⟩ : ∃ q, q = a / 2 / hh := ⟨_, rfl⟩
  have k3 := fun w => div64_q (a := a / 2) (q := q0) t3.eq h3b t3.lo th.hi hq0 rfl w
  obtain ⟨q1, hq1⟩ : ∃ q, q = q0 / 2 ^ j := ⟨_, rfl⟩
  have fin := pguess_math (a := a) (d := d) (j := j) (v := hh) (q := q1) la rfl (by rw [e3]; have := th.eq; have := th.lo; omega) hh2 (by rw [hq1, hq0])
  have q0b : q0 ≤ 18446744073709551615 := by
    have : q0 < 18446744073709551616 := by
      rw [hq0]
      refine Nat.div_lt_of_lt_mul ?_
      have := Nat.mul_le_mul (show h3 + 1 ≤ hh by omega) (Nat.le_refl 18446744073709551616)
      have := t3.eq
      have := t3.lo
      omega
    omega
  have q1b : q1 ≤ q0 := by rw [hq1]; exact Nat.div_le_self _ _
  have v1 : (63 : Int) - k = j := by omega
  have v2 : (q0 : Int) / 2 ^ j = q1 := by rw [hq1]; simp
  obtain ⟨q, hq⟩ : ∃ q, q = q1 - min q1 1 := ⟨_, rfl⟩
  rw [← hq] at fin
  have HF : Hid (q ≤ 18446744073709551615 ∧ q * d ≤ a ∧ a < (q + 2) * d) := ⟨by omega, fin.1, fin.2⟩
  have HM : Hid (q = q1 - min q1 1 ∧ q1 ≤ 18446744073709551615) := ⟨hq, by omega⟩
  have k63 : k ≤ 63 := by omega
  generalize decide (a % 2 ^ 1 ≠ 0) = c at *
  generalize a / 2 % hh = r3 at *
  clear la ld bd bd2 hkb b1 b2 p0 e1 e2 d1 d2 e3 hD th hne t3 hh2 h3b hq0 hq1 fin hq hj hk q0b q1b ha hd
  go_enter Try.func32, Try.ntmps32
  go_wp2_with (first
    | (go_at_call 45; refine (k1 _).mono ?_; rintro e w1 ⟨rfl, hb1⟩; obtain ⟨hc1, hf1⟩ := bcell hb1; have z0 : w.heap.size + 1 < w1.heap.size := (by have := hb1.size; simp at this; omega); have z1 : w.heap.size < w1.heap.size := (by omega))
    | (go_at_call 14; refine (k2 _).mono ?_; rintro e w2 ⟨rfl, hb2⟩; obtain ⟨hc2, hf2⟩ := bcell hb2; have z2 : w1.heap.size < w2.heap.size := (by have := hb2.size; simp at this; omega))
    | (go_at_call 30; refine (k3 _).mono ?_; rintro e w' ⟨rfl, n, rfl⟩))
  all_goals
    refine hQ.out _ _ ⟨⟨q, congrArg (fun x => Ending.returned (Value.int .u64 x)) (by have := HM.out; rw [IntKind.wrap_u64]; omega), HF.out⟩, ?_⟩
    exact bdrewN (bmore (bthen (bmore (bthen (bmore (bmore (Below.refl _ _) _) _) hb1) _) hb2) _) _
end Go.Proofs.Ytpjegpgnelfeeab
