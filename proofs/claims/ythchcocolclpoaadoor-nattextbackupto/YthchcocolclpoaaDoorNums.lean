import Derived.Test.YthchcocolclpoaaDoorKit
import Derived.Test.YthchcocolclpoaaDoorDig
import Derived.Test.YthchcocolclpoaaDoorProg
import Derived.OwnWalk
import Derived.Lib.SmallJoins
namespace Go.Proofs.YthchcocolclpoaaDoor
open Go.ChangeShapes Go.WideShapes Go.ChangeAt Go.RowKit
set_option linter.unusedVariables false
set_option maxRecDepth 100000

/-! ### rows of ints that are read -/
def enc (d : Nat) : Value := .int .i64 (d : Int)
/-- v is a slice of ints that reads as l in w -/
def Row (w : World) (v : Value) (l : List Nat) : Prop :=
  ∃ ao c, v = .slice ao l.length c ∧ c ≤ 9223372036854775807 ∧ l.length ≤ c ∧
    ((ao = none ∧ l = [] ∧ c = 0) ∨ ∃ b off, ao = some ⟨b, off, none⟩ ∧ b < w.heap.size ∧ ∀ j, j < l.length → w.cell? ⟨b, off + j, none⟩ = some (.int .i64 (l.getD j 0 : Nat)))
theorem Row.below {w w' : World} {v : Value} {l : List Nat} (h : Row w v l) (hb : Below w.heap.size w w') : Row w' v l := by
  obtain ⟨ao, c, rfl, hc, hl, h⟩ := h
  refine ⟨ao, c, rfl, hc, hl, ?_⟩
  rcases h with h | ⟨b, off, rfl, hlt, h⟩
  · exact .inl h
  · exact .inr ⟨b, off, rfl, Nat.lt_of_lt_of_le hlt hb.size, fun j hj => (hb.cell (p := ⟨b, off + j, none⟩) hlt).trans (h j hj)⟩
theorem row_nil (w : World) : Row w (.slice none 0 0) [] := ⟨none, 0, rfl, by decide, by decide, .inl ⟨rfl, rfl, rfl⟩⟩
theorem row_own {w : World} {base n : Nat} {e : TypeId} {v : Value} {l : List Nat} (h : w.ownsRow base e 1 v n (l.map enc)) : Row w v l := by
  obtain ⟨h1, h2⟩ := h
  rcases h2 with ⟨rfl, rfl⟩ | ⟨g, cap, cur, rfl, _, hg, hn, hcap, hsz, ht⟩
  · have : l = [] := by simpa using h1
    subst this; exact row_nil w
  · have hl : l.length = n := by simpa using h1
    subst hl
    unfold maxLen at hcap
    refine ⟨_, cap, rfl, by omega, hn, .inr ⟨g, 0, rfl, ?_, ?_⟩⟩
    · exact (Array.getElem?_eq_some_iff.1 hg).1
    · intro j hj
      have hc : cur[j]? = some (.int .i64 (l.getD j 0 : Nat)) := by
        have e1 : (cur.toList.take (l.length * 1))[j]? = (l.map enc)[j]? := by rw [ht]
        rw [List.getElem?_take_of_lt (by omega)] at e1
        simpa [hj, enc] using e1
      simp [World.cell?, hg, hc]
/-- how a row goes into a walk -/
theorem Row.out {w : World} {v : Value} {l : List Nat} (h : Row w v l) : ∃ ao c, v = .slice ao l.length c ∧ c ≤ 9223372036854775807 ∧ l.length ≤ c ∧
    (l.length = 0 ∨ ∃ b off, ao = some ⟨b, off, none⟩ ∧ ∀ j, j < l.length → w.cell? ⟨b, off + j, none⟩ = some (.int .i64 (l.getD j 0 : Nat))) := by
  obtain ⟨ao, c, rfl, hc, hl, h⟩ := h
  refine ⟨ao, c, rfl, hc, hl, ?_⟩
  rcases h with ⟨_, rfl, _⟩ | ⟨b, off, rfl, _, h⟩
  · exact .inl rfl
  · exact .inr ⟨b, off, rfl, h⟩

theorem infoInt : (Tryd.prog.info? 3).map (fun i => (i.zero, i.size, i.bytes)) = some (some (.int .i64 0), 1, 8) := by kernel_rfl

theorem digit_any (v : Value) (l : List Nat) (i : Nat) (hi : i < 4611686018427387904) (w : World) (hr : Row w v l) :
    Calls Tryd.prog 51 #[v, .int .i64 i] w fun e w' => e = .returned (.int .i64 (l.getD i 0 : Nat)) ∧ w' = w := by
  obtain ⟨ao, c, rfl, hc, hl, h⟩ := hr.out
  clear hr
  refine cps fun Q hQ => ?_
  by_cases hlt : i < l.length
  · rcases h with h | ⟨b, off, rfl, h⟩
    · omega
    have hcell := h i hlt
    generalize l.getD i 0 = d at *
    generalize l.length = n at *
    go_enter Tryd.func51, Tryd.ntmps51
    go_wp2
    exact hQ.out _ _ ⟨rfl, rfl⟩
  · have hz : l.getD i 0 = 0 := by rw [List.getD_eq_getElem?_getD, List.getElem?_eq_none (by omega)]; rfl
    rw [hz] at hQ
    generalize l.length = n at *
    go_enter Tryd.func51, Tryd.ntmps51
    go_wp2
    exact hQ.out _ _ ⟨rfl, rfl⟩

theorem digit_dig (v : Value) (n i d : Nat) (hi : i < 4611686018427387904) (w : World) (hr : Row w v (dig n)) (hd : d = top n i % 16777216) :
    Calls Tryd.prog 51 #[v, .int .i64 i] w fun e w' => e = .returned (.int .i64 d) ∧ w' = w := by
  rw [hd, ← dig_get]; exact digit_any v _ i hi w hr
/-- a number's slice, as the walk wants it -/
theorem Row.num {w : World} {v : Value} {n : Nat} (h : Row w v (dig n)) : ∃ ao c, v = .slice ao (dlen n) c ∧ c ≤ 9223372036854775807 ∧ dlen n ≤ c := by
  obtain ⟨ao, c, rfl, hc, hl, _⟩ := h
  exact ⟨ao, c, rfl, hc, hl⟩

/-- 'l[:n]' of a row -/
theorem Row.take {w : World} {ao : Option Addr} {c k : Nat} {l : List Nat} (h : Row w (.slice ao k c) l) (n : Nat) (hn : n ≤ l.length) : Row w (.slice ao n c) (l.take n) := by
  obtain ⟨ao', c', he, hc, hl, h⟩ := h
  injection he with e1 e2 e3
  subst e1 e2 e3
  have e : (l.take n).length = n := by rw [List.length_take]; omega
  refine ⟨ao, c, by rw [e], hc, by omega, ?_⟩
  rcases h with ⟨h1, h2, h3⟩ | ⟨b, off, h1, h2, h3⟩
  · exact .inl ⟨h1, by rw [h2]; simp, h3⟩
  · refine .inr ⟨b, off, h1, h2, fun j hj => ?_⟩
    rw [e] at hj
    rw [h3 j (by omega), List.getD_eq_getElem?_getD, List.getD_eq_getElem?_getD, List.getElem?_take_of_lt hj]

set_option maxHeartbeats 1000000 in
theorem cut_own (v : Value) (l : List Nat) (D z : Nat) (hD : l = dig D ++ List.replicate z 0) (w : World) (hr : Row w v l) :
    Calls Tryd.prog 69 #[v] w fun e w' => ∃ v', e = .returned v' ∧ Row w v' (dig D) ∧ w' = w ∧ v'.ownBlock = v.ownBlock := by
  have HT : Hid (l.take (dlen D) = dig D) := by rw [hD]; exact List.take_left' rfl
  have hlen : l.length = dlen D + z := by rw [hD]; simp [dlen]
  have hget : ∀ j, j < l.length → l.getD j 0 = (dig D).getD j 0 := by
    intro j hj
    rw [hD, List.getD_eq_getElem?_getD, List.getElem?_append]
    split
    · rw [List.getD_eq_getElem?_getD]
    · rename_i h
      rw [List.getElem?_replicate, List.getD_eq_getElem?_getD, List.getElem?_eq_none (by omega)]
      split <;> rfl
  have HR : Hid (Row w v l) := hr
  obtain ⟨ao, c, rfl, hc, hl, h⟩ := hr.out
  clear hr
  refine cps fun Q hQ => ?_
  have HG : Hid (∀ j, j < l.length → l.getD j 0 = (dig D).getD j 0) := hget
  clear hget hD
  have hle : dlen D ≤ l.length := by omega
  have HL : Hid (l.length = dlen D + z) := hlen
  clear hlen
  generalize hdD : dlen D = m at *
  have HM : Hid (dlen D = m) := hdD
  clear hdD
  go_enter Tryd.func69, Tryd.ntmps69
  go_wp2
  go_loop [3] (fun a => ∃ n : Nat, m ≤ n ∧ n ≤ l.length ∧ a = .int .i64 n) (fun a => (intOf a).toNat)
  case atStart => exact ⟨l.length, by omega, by omega, rfl⟩
  case round =>
    obtain ⟨n, hn1, hn2, rfl⟩ := hrel
    by_cases h0 : 0 < n
    · rcases h with h | ⟨b, off, rfl, h⟩
      · omega
      have hcell := h (n - 1) (by omega)
      have hg := HG.out (n - 1) (by omega)
      rw [hg] at hcell
      clear hg
      by_cases hlt : m < n
      · have hz : (dig D).getD (n - 1) 0 = 0 := by
          rw [dig_get, top_eq_zero (by have := HM.out; omega)]
        rw [hz] at hcell
        clear hz h
        go_wp2
        go_round
        case rel => exact ⟨n - 1, by omega, by omega, by go_num⟩
        case measure => simp [intOf]; omega
      · have hnm : n = m := by omega
        subst hnm
        have hne : (dig D).getD (n - 1) 0 ≠ 0 := by
          rw [dig_get]
          have := HM.out
          have hD0 : D ≠ 0 := by intro h; rw [h, dlen_zero] at this; omega
          have := (dig_last hD0).1
          rw [HM.out] at this
          exact this
        generalize (dig D).getD (n - 1) 0 = d at *
        clear h
        have hne' : 0 < d := by omega
        go_wp2
        have HT' := HR.out.take n (by omega)
        rw [HT.out] at HT'
        exact hQ.out _ _ ⟨_, rfl, HT', rfl, rfl⟩
    · have hn0 : n = 0 := by omega
      subst hn0
      go_wp2
      have HT' := HR.out.take 0 (by omega)
      have e0 : 0 = m := by omega
      rw [e0, HT.out] at HT'
      rw [e0]
      exact hQ.out _ _ ⟨_, rfl, HT', rfl, by cases ao <;> rfl⟩

theorem cut_any (v : Value) (l : List Nat) (D z : Nat) (hD : l = dig D ++ List.replicate z 0) (w : World) (hr : Row w v l) :
    Calls Tryd.prog 69 #[v] w fun e w' => ∃ v', e = .returned v' ∧ Row w v' (dig D) ∧ w' = w :=
  (cut_own v l D z hD w hr).mono fun _ _ ⟨v', h1, h2, h3, _⟩ => ⟨v', h1, h2, h3⟩

end Go.Proofs.YthchcocolclpoaaDoor
