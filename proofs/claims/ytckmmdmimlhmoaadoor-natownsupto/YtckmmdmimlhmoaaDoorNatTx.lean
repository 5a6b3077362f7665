import Derived.Test.YtckmmdmimlhmoaaDoorNatZ
namespace Go.Proofs.YtckmmdmimlhmoaaDoor
open Go.ChangeShapes Go.WideShapes Go.ChangeAt Go.RowKit
set_option linter.unusedVariables false
set_option linter.unusedSimpArgs false
set_option maxRecDepth 100000

/-! ### slices.Reverse of a row of bytes of the call's own -/
def encB (b : UInt8) : Value := .int .u8 (b.toNat : Int)
structure RevAt (B : List UInt8) (i : Nat) (L : List UInt8) : Prop where
  len : L.length = B.length
  get : ∀ k, k < B.length → L[k]? = if k < i ∨ B.length - 1 - k < i then B[B.length - 1 - k]? else B[k]?
theorem RevAt.start (B : List UInt8) : RevAt B 0 B := ⟨rfl, fun k _ => by simp⟩
theorem RevAt.step {B L : List UInt8} {i j : Nat} {x y : UInt8} (h : RevAt B i L) (hj : j = B.length - 1 - i) (hij : i < j) (hx : L[i]? = some x) (hy : L[j]? = some y) : RevAt B (i + 1) ((L.set i y).set j x) := by
  have hl := h.len
  refine ⟨by simp [hl], fun k hk => ?_⟩
  have gi := h.get i (by omega)
  have gj := h.get j (by omega)
  rw [if_neg (by omega), hx] at gi
  rw [if_neg (by omega), hy] at gj
  rw [List.getElem?_set, List.length_set]
  by_cases e1 : j = k
  · subst e1
    rw [if_pos rfl, if_pos (by omega), if_pos (by omega), show B.length - 1 - j = i by omega]
    exact gi
  · rw [if_neg e1, List.getElem?_set]
    by_cases e2 : i = k
    · subst e2
      rw [if_pos rfl, if_pos (by omega), if_pos (by omega), ← hj]
      exact gj
    · rw [if_neg e2, h.get k hk]
      by_cases e3 : k < i ∨ B.length - 1 - k < i
      · rw [if_pos e3, if_pos (by omega)]
      · rw [if_neg e3, if_neg (by omega)]
theorem RevAt.done {B L : List UInt8} {i : Nat} (h : RevAt B i L) (hi : B.length ≤ 2 * i + 1) : L = B.reverse := by
  apply List.ext_getElem?
  intro k
  have hl := h.len
  by_cases hk : k < B.length
  · rw [h.get k hk, List.getElem?_reverse hk]
    split
    · rfl
    · congr 1; omega
  · rw [List.getElem?_eq_none (by omega), List.getElem?_eq_none (by simp; omega)]
set_option maxHeartbeats 2000000 in
theorem rev_any (base n : Nat) (v : Value) (B : List UInt8) (hn : n ≤ 1099511627776) (w : World) (hown : w.ownsRow base 5 1 v n (B.map encB)) (hb : base ≤ w.heap.size) :
    Calls Tryd.prog 34 #[v] w fun e w' => e = .returned (.tuple #[]) ∧ w'.ownsRow base 5 1 v n (B.reverse.map encB) ∧ Below base w w' := by
  have hBl : B.length = n := by have := hown.1; simpa using this
  obtain ⟨ao, c, rfl, hc, hnc, hsh⟩ : ∃ ao c, v = .slice ao n c ∧ c ≤ 9223372036854775807 ∧ n ≤ c ∧ (n = 0 ∨ ∃ g, ao = some ⟨g, 0, none⟩ ∧ base ≤ g) := by
    rcases hown.2 with ⟨rfl, hn0⟩ | ⟨g, cap, cur, rfl, hb, hg, hcap, hmax, _⟩
    · exact ⟨none, 0, by rw [hn0], by decide, by omega, .inl hn0⟩
    · exact ⟨_, cap, rfl, by unfold maxLen at hmax; omega, hcap, .inr ⟨g, rfl, hb⟩⟩
  refine cps fun Q hQ => ?_
  have HBL : Hid (B.length = n) := hBl
  have HO : Hid (w.ownsRow base 5 1 (.slice ao n c) n (B.map encB)) := hown
  clear hBl hown
  go_enter Tryd.func34, Tryd.ntmps34
  go_wp2
  go_loopw [2, 3] (fun iv jv wr => ∃ (i : Nat) (L : List UInt8), i ≤ n ∧ iv = .int .i64 i ∧ jv = .int .i64 ((n : Int) - 1 - i) ∧ Hid (RevAt B i L) ∧ Hid (wr.ownsRow base 5 1 (.slice ao n c) n (L.map encB)) ∧ Hid (Below base w wr)) (fun iv _ _ => n - (intOf iv).toNat)
  case atStart => exact ⟨0, B, Nat.zero_le _, rfl, by simp, RevAt.start B, HO.out, Below.refl _ _⟩
  case round =>
    obtain ⟨i, L, hi, rfl, rfl, hst, hown, hbel⟩ := hrel
    by_cases hlt : (i : Int) < (n : Int) - 1 - i
    · obtain ⟨j, hj⟩ : ∃ j, j = n - 1 - i := ⟨_, rfl⟩
      have hjj : (n : Int) - 1 - i = (j : Int) := by omega
      rw [hjj] at hlt ⊢
      have hij : i < j := by omega
      have hjn : j < n := by omega
      rcases hsh with h | ⟨g, rfl, hbg⟩
      · omega
      have hlen := hst.out.len
      rw [HBL.out] at hlen
      obtain ⟨x, hx⟩ : ∃ x, L[i]? = some x := ⟨_, List.getElem?_eq_getElem (by omega)⟩
      obtain ⟨y, hy⟩ : ∃ x, L[j]? = some x := ⟨_, List.getElem?_eq_getElem (by omega)⟩
      have ci : wr.cell? ⟨g, i, none⟩ = some (.int .u8 (x.toNat : Int)) := by
        rw [hown.out.cellAt i (by omega), List.getElem?_map, hx]; rfl
      have cj : wr.cell? ⟨g, j, none⟩ = some (.int .u8 (y.toNat : Int)) := by
        rw [hown.out.cellAt j (by omega), List.getElem?_map, hy]; rfl
      have fi := hown.out.frozenAt i
      have fj := hown.out.frozenAt j
      have hstep := hst.out.step (by rw [HBL.out]; exact hj) hij hx hy
      have s1 := (hown.out.stored i (encB y)).1
      have s2 := (s1.stored j (encB x)).1
      rw [← List.map_set, ← List.map_set] at s2
      have HS : Hid (RevAt B (i + 1) ((L.set i y).set j x)) := hstep
      have HS2 : Hid (((wr.setCell ⟨g, i, none⟩ (encB y)).setCell ⟨g, j, none⟩ (encB x)).ownsRow base 5 1 (.slice (some ⟨g, 0, none⟩) n c) n (((L.set i y).set j x).map encB)) := s2
      have HJ : Hid (j = n - 1 - i) := hj
      clear hj hjj hx hy hstep s1 s2 hlen hst hown
      go_wp2
      go_region
      go_wp2
      go_roundw
      case rel =>
        refine ⟨i + 1, (L.set i y).set j x, by omega, by simp, ?_, HS, ?_, ?_⟩
        · have hJ := HJ.out
          simp only [Value.int.injEq, true_and]
          omega
        · exact HS2.out.drew
        · exact ((hbel.out.setCell (p := ⟨g, i, none⟩) hbg _).setCell (p := ⟨g, j, none⟩) hbg _).drew
      all_goals
        simp [intOf]
        have hJ := HJ.out
        omega
    · have hdone := hst.out.done (by rw [HBL.out]; omega)
      subst hdone
      go_wp2
      refine bodyPost_ret (results_none rfl _ _ _) rfl (hQ _ _ ⟨rfl, hown.out, hbel.out⟩)
end Go.Proofs.YtckmmdmimlhmoaaDoor
