import Derived.Test.YtldoinokiipidaaDoorLeadD
import Derived.Test.YtldoinokiipidaaDoorCode
namespace Go.Proofs.YtldoinokiipidaaDoor
open Go.ChangeShapes Go.WideShapes Go.ChangeAt Go.RowKit

theorem isRun14 : IsRun 14 4 true 3 := ⟨by decide, by omega, by omega, by intro j hj; match j, hj with | 0, _ => decide | 1, _ => decide | 2, _ => decide, by decide⟩
theorem isBits_eq {s : ByteArray} {l : List Bool} (h : IsBits s l) : s = ⟨(l.map bitByte).toArray⟩ := by
  cases s with
  | mk d => unfold IsBits at h; congr 1; exact Array.ext' (by simpa using h)
theorem shown5 {s : ByteArray} (h : IsBits s (bitsOf 5 4)) : s = ⟨#[48, 49, 48, 49]⟩ := by
  rw [isBits_eq h]; decide
/-- the head of all laws of this layer -/
theorem up_any (w : World) : Calls Tryd.prog 4 #[] w fun e w' => e = .returned (.bool true) ∧ Below w.heap.size w w' := by
  refine cps fun Q hQ => ?_
  go_enter Tryd.func4, Tryd.ntmps4
  go_wp2_with first
    | (go_at_call 9; go_must (refine (lrun_ok 14 4 (by omega) (by omega) _).mono ?_); rintro e w' ⟨b, k, rfl, hr, rfl⟩; obtain ⟨e1, e2⟩ := hr.one isRun14; subst e1 e2)
    | (go_at_call 10; go_must (refine (lshow_ok 5 4 (by omega) (by omega) _).mono ?_); rintro e w1 ⟨s, rfl, hs, hb⟩; have hs' := shown5 hs; subst hs')
  exact hQ.out _ _ ⟨rfl, hb⟩
end Go.Proofs.YtldoinokiipidaaDoor
