import Derived.Test.YtajlgpamcpgalaaCodI
namespace Go.Proofs.Ytajlgpamcpgalaa
open Go.ChangeShapes Go.WideShapes Go.ChangeAt Go.RowKit
set_option linter.unusedVariables false
set_option linter.unusedSimpArgs false
set_option maxRecDepth 100000

/-! ### Join: the string that parts seem to write -/
def wrExp (eb ex : Int) : List Bool := if 0 ≤ eb ∧ eb ≤ 2 ∧ 0 ≤ ex ∧ ex ≤ 3 then (bitsOf ex.toNat 2).take eb.toNat else []
def wrFrac (fb : Int) (fr : Nat) : List Bool := if 0 ≤ fb ∧ fb ≤ 64 then bitsOf fr fb.toNat else []
def wrRun (ones : Bool) (run : Int) : List Bool := List.replicate (min run.toNat 63) ones ++ [!ones]
def writtenL (ones : Bool) (run eb ex fb : Int) (fr : Nat) : List Bool := wrRun ones run ++ wrExp eb ex ++ wrFrac fb fr
theorem written_parts (t : List Bool) (ht : t ≠ []) (hl : t.length ≤ 63) :
    ∃ z, writtenL (onesL t) (runL t) (min (restL t).length 2 : Nat) (expL t) ((restL t).length - 2 : Nat) (fracL t) = t ++ z := by
  have key : ∀ u, restL t = u → u.length ≤ 62 → wrExp (min (restL t).length 2 : Nat) (expL t) ++ wrFrac ((restL t).length - 2 : Nat) (fracL t) = u := by
    rintro u hu hul
    have hex : expL t < 4 := by
      have := numOf_lt ((restL t ++ noughts 2).take 2)
      rw [show ((restL t ++ noughts 2).take 2).length = 2 by simp] at this
      exact this
    have e1 : wrExp (min (restL t).length 2 : Nat) (expL t) = u.take 2 := by
      unfold wrExp
      rw [if_pos (by omega), Int.toNat_natCast, Int.toNat_natCast]
      have : bitsOf (expL t) 2 = (u ++ noughts 2).take 2 := by
        have h := bitsOf_numOf ((restL t ++ noughts 2).take 2)
        rw [show ((restL t ++ noughts 2).take 2).length = 2 by simp] at h
        rw [← hu]; exact h
      rw [this, hu]
      match u with
      | [] => rfl
      | [a] => rfl
      | a :: b :: v => simp
    have e2 : wrFrac ((restL t).length - 2 : Nat) (fracL t) = u.drop 2 := by
      unfold wrFrac
      rw [hu, if_pos (by omega), Int.toNat_natCast]
      have h := bitsOf_numOf (u.drop 2)
      rw [List.length_drop] at h
      rw [show fracL t = numOf (u.drop 2) by rw [← hu]; rfl]; exact h
    rw [e1, e2, List.take_append_drop]
  obtain ⟨b, r, tl, rfl, htl⟩ := split_run t ht
  have hr : r + 1 ≤ 63 := by rw [List.length_append, List.length_replicate] at hl; omega
  rcases htl with rfl | ⟨u, rfl⟩
  · rw [List.append_nil] at *
    have h1 := runL_rep b r [] (.inl rfl)
    have h2 := onesL_rep b r []
    rw [List.append_nil] at h1 h2
    refine ⟨[!b], ?_⟩
    rw [writtenL, List.append_assoc, key [] (restL_end b r) (by decide), List.append_nil, h1, h2, wrRun, Int.toNat_natCast, Nat.min_eq_left (by omega)]
  · have h1 := runL_rep b r ((!b) :: u) (.inr ⟨u, rfl⟩)
    have h2 := onesL_rep b r ((!b) :: u)
    refine ⟨[], ?_⟩
    rw [writtenL, List.append_assoc, key u (restL_rep b r u) (by simp at hl; omega), List.append_nil, h1, h2, wrRun, Int.toNat_natCast, Nat.min_eq_left (by omega)]
    simp
theorem writtenL_length (ones : Bool) (run eb ex fb : Int) (fr : Nat) : (writtenL ones run eb ex fb fr).length ≤ 130 := by
  unfold writtenL wrRun wrExp wrFrac
  rw [List.length_append, List.length_append, List.length_append, List.length_replicate]
  have h1 : (if 0 ≤ eb ∧ eb ≤ 2 ∧ 0 ≤ ex ∧ ex ≤ 3 then (bitsOf ex.toNat 2).take eb.toNat else []).length ≤ 2 := by
    split
    · rw [List.length_take, bitsOf_length]; omega
    · simp
  have h2 : (if 0 ≤ fb ∧ fb ≤ 64 then bitsOf fr fb.toNat else []).length ≤ 64 := by
    split
    · rw [bitsOf_length]; omega
    · simp
  simp only [List.length_singleton]
  omega
theorem chars_text {base n : Nat} {v : Value} {w5 : World} {L : List Bool} (h : w5.ownsRow base 5 1 v n (chars L)) (wx : World) (hb : Below w5.heap.size w5 wx) :
    (convert 103 9 v).run Try.prog wx = .ok (.string ⟨(L.map bitByte).toArray⟩) wx := by
  refine run_convert_own (P := Try.prog) (n := n) (base := base) (L.map bitByte) ?_ Try.underlying103 Try.underlying5 Try.underlying9
  have e : (L.map bitByte).map (fun b => Value.int .u8 b.toNat) = chars L := by simp [chars, Function.comp_def]
  rw [e]
  obtain ⟨h1, h2⟩ := h
  refine ⟨h1, ?_⟩
  rcases h2 with hn | ⟨g, cap, cur, rfl, hb1, hg, rest⟩
  · exact .inl hn
  · exact .inr ⟨g, cap, cur, rfl, hb1, (hb.block g (Array.getElem?_eq_some_iff.1 hg).1).trans hg, rest⟩
def fdI (neg ones : Bool) (run reg eb ex fb : Int) (fr : Nat) : Value := .agg #[.bool neg, .bool ones, .int .i64 run, .int .i64 reg, .int .i64 eb, .int .i64 ex, .int .i64 fb, .int .u64 fr]
end Go.Proofs.Ytajlgpamcpgalaa
