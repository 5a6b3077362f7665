import Derived.Test.YtajlgpamcpgalaaRndG
namespace Go.Proofs.Ytajlgpamcpgalaa
open Go.ChangeShapes Go.WideShapes Go.ChangeAt Go.RowKit
set_option linter.unusedVariables false
set_option linter.unusedSimpArgs false
set_option maxRecDepth 100000

/-! ### the document's order of exact numbers -/
def sgnX (k : Int) (neg : Bool) : Int := if k = 1 then (if neg then -1 else 1) else 0
theorem sign7_any (k : Int) (neg : Bool) (s : Int) (hi lo : Nat) (rest : Bool) (w : World) :
    Calls Try.prog 46 #[exV k neg s hi lo rest] w fun e w' => e = .returned (.int .i64 (sgnX k neg)) ∧ Below w.heap.size w w' := by
  unfold exV sgnX
  refine cps fun Q hQ => ?_
  by_cases h1 : k = 1
  · subst h1
    cases neg
    all_goals
      go_enter Try.func46, Try.ntmps46
      go_wp2
      exact hQ.out _ _ ⟨rfl, cmore (Below.refl _ _) _⟩
  · have d1 : (k == 1) = false := beq_eq_false_iff_ne.2 h1
    rw [if_neg h1] at hQ
    clear h1
    go_enter Try.func46, Try.ntmps46
    go_wp2
    exact hQ.out _ _ ⟨rfl, cmore (Below.refl _ _) _⟩
set_option maxHeartbeats 2000000 in
theorem cmp7_sgn (k k' : Int) (neg neg' : Bool) (s s' : Int) (hi lo hi' lo' : Nat) (rest rest' : Bool) (hne : sgnX k neg ≠ sgnX k' neg') (w : World) :
    Calls Try.prog 23 #[exV k neg s hi lo rest, exV k' neg' s' hi' lo' rest'] w fun e w' => e = .returned (.int .i64 (if sgnX k neg < sgnX k' neg' then -1 else 1)) ∧ Below w.heap.size w w' := by
  have k1 := sign7_any k neg s hi lo rest
  have k2 := sign7_any k' neg' s' hi' lo' rest'
  unfold exV at *
  generalize sgnX k neg = a at *
  generalize sgnX k' neg' = b at *
  refine cps fun Q hQ => ?_
  rcases Int.lt_or_gt_of_ne hne with hlt | hlt
  · rw [if_pos hlt] at hQ
    have d1 : decide (a < b) = true := decide_eq_true hlt
    clear hne
    go_enter Try.func23, Try.ntmps23
    go_wp2_with (first
      | (have chk := T1; clear chk; go_at_call 46; refine (k2 _).mono ?_; rintro e w3 ⟨rfl, hb3⟩; have RX3 := (hb3.block w.heap.size z2).trans RX2.out; have RY3 := (hb3.block (w.heap.size + 1) z2').trans RY2.out; have x0 := rowcell RX3 0; have x1 := rowcell RX3 1; have x2 := rowcell RX3 2; have x3 := rowcell RX3 3; have x4 := rowcell RX3 4; have x5 := rowcell RX3 5; have xf := rowfree RX3; simp only [List.getElem?_toArray, List.getElem?_cons_zero, List.getElem?_cons_succ] at x0 x1 x2 x3 x4 x5; have y0 := rowcell RY3 0; have y1 := rowcell RY3 1; have y2 := rowcell RY3 2; have y3 := rowcell RY3 3; have y4 := rowcell RY3 4; have y5 := rowcell RY3 5; have yf := rowfree RY3; simp only [List.getElem?_toArray, List.getElem?_cons_zero, List.getElem?_cons_succ] at y0 y1 y2 y3 y4 y5; have HB3 : Hid (Below _ _ _) := cthen B2.out hb3; clear hb3 RX3 RY3)
      | (go_at_call 46; refine (k1 _).mono ?_; rintro e w2 ⟨rfl, hb2⟩; have RX2 : Hid _ := (hb2.block w.heap.size (by simp; omega)).trans ((Below.heap_alloc (w.alloc _) _ _ (by simp)).trans (rownew w _ _)); have RY2 : Hid _ := (hb2.block (w.heap.size + 1) (by simp)).trans (rownew' _ _ _ _ (by simp)); have z2 : w.heap.size < w2.heap.size := (by have := hb2.size; simp at this; omega); have z2' : w.heap.size + 1 < w2.heap.size := (by have := hb2.size; simp at this; omega); have NX := rowcell RX2.out 0; have B2 : Hid (Below _ _ _) := cthen (cmore (cmore (Below.refl _ _) _) _) hb2; have T1 : True := trivial; have p0 := rowcell RX2.out 0; have p1 := rowcell RX2.out 1; have p2 := rowcell RX2.out 2; have p3 := rowcell RX2.out 3; have p4 := rowcell RX2.out 4; have p5 := rowcell RX2.out 5; have pf := rowfree RX2.out; simp only [List.getElem?_toArray, List.getElem?_cons_zero, List.getElem?_cons_succ] at p0 p1 p2 p3 p4 p5; have q0 := rowcell RY2.out 0; have q1 := rowcell RY2.out 1; have q2 := rowcell RY2.out 2; have q3 := rowcell RY2.out 3; have q4 := rowcell RY2.out 4; have q5 := rowcell RY2.out 5; have qf := rowfree RY2.out; simp only [List.getElem?_toArray, List.getElem?_cons_zero, List.getElem?_cons_succ] at q0 q1 q2 q3 q4 q5; clear hb2 NX))
    all_goals exact hQ.out _ _ ⟨rfl, HB3.out⟩
  · rw [if_neg (by omega)] at hQ
    have d1 : decide (a < b) = false := decide_eq_false (by omega)
    have d2 : decide (b < a) = true := decide_eq_true hlt
    clear hne
    go_enter Try.func23, Try.ntmps23
    go_wp2_with (first
      | (have chk := T1; clear chk; go_at_call 46; refine (k2 _).mono ?_; rintro e w3 ⟨rfl, hb3⟩; have RX3 := (hb3.block w.heap.size z2).trans RX2.out; have RY3 := (hb3.block (w.heap.size + 1) z2').trans RY2.out; have x0 := rowcell RX3 0; have x1 := rowcell RX3 1; have x2 := rowcell RX3 2; have x3 := rowcell RX3 3; have x4 := rowcell RX3 4; have x5 := rowcell RX3 5; have xf := rowfree RX3; simp only [List.getElem?_toArray, List.getElem?_cons_zero, List.getElem?_cons_succ] at x0 x1 x2 x3 x4 x5; have y0 := rowcell RY3 0; have y1 := rowcell RY3 1; have y2 := rowcell RY3 2; have y3 := rowcell RY3 3; have y4 := rowcell RY3 4; have y5 := rowcell RY3 5; have yf := rowfree RY3; simp only [List.getElem?_toArray, List.getElem?_cons_zero, List.getElem?_cons_succ] at y0 y1 y2 y3 y4 y5; have HB3 : Hid (Below _ _ _) := cthen B2.out hb3; clear hb3 RX3 RY3)
      | (go_at_call 46; refine (k1 _).mono ?_; rintro e w2 ⟨rfl, hb2⟩; have RX2 : Hid _ := (hb2.block w.heap.size (by simp; omega)).trans ((Below.heap_alloc (w.alloc _) _ _ (by simp)).trans (rownew w _ _)); have RY2 : Hid _ := (hb2.block (w.heap.size + 1) (by simp)).trans (rownew' _ _ _ _ (by simp)); have z2 : w.heap.size < w2.heap.size := (by have := hb2.size; simp at this; omega); have z2' : w.heap.size + 1 < w2.heap.size := (by have := hb2.size; simp at this; omega); have NX := rowcell RX2.out 0; have B2 : Hid (Below _ _ _) := cthen (cmore (cmore (Below.refl _ _) _) _) hb2; have T1 : True := trivial; have p0 := rowcell RX2.out 0; have p1 := rowcell RX2.out 1; have p2 := rowcell RX2.out 2; have p3 := rowcell RX2.out 3; have p4 := rowcell RX2.out 4; have p5 := rowcell RX2.out 5; have pf := rowfree RX2.out; simp only [List.getElem?_toArray, List.getElem?_cons_zero, List.getElem?_cons_succ] at p0 p1 p2 p3 p4 p5; have q0 := rowcell RY2.out 0; have q1 := rowcell RY2.out 1; have q2 := rowcell RY2.out 2; have q3 := rowcell RY2.out 3; have q4 := rowcell RY2.out 4; have q5 := rowcell RY2.out 5; have qf := rowfree RY2.out; simp only [List.getElem?_toArray, List.getElem?_cons_zero, List.getElem?_cons_succ] at q0 q1 q2 q3 q4 q5; clear hb2 NX))
    all_goals exact hQ.out _ _ ⟨rfl, HB3.out⟩
theorem cmp7_zero (k k' : Int) (neg neg' : Bool) (s s' : Int) (hi lo hi' lo' : Nat) (rest rest' : Bool) (h1 : sgnX k neg = 0) (h2 : sgnX k' neg' = 0) (w : World) :
    Calls Try.prog 23 #[exV k neg s hi lo rest, exV k' neg' s' hi' lo' rest'] w fun e w' => e = .returned (.int .i64 0) ∧ Below w.heap.size w w' := by
  have k1 := sign7_any k neg s hi lo rest
  have k2 := sign7_any k' neg' s' hi' lo' rest'
  rw [h1] at k1
  rw [h2] at k2
  clear h1 h2
  unfold exV at *
  refine cps fun Q hQ => ?_
  go_enter Try.func23, Try.ntmps23
  go_wp2_with (first
    | (have chk := T1; clear chk; go_at_call 46; refine (k2 _).mono ?_; rintro e w3 ⟨rfl, hb3⟩; have RX3 := (hb3.block w.heap.size z2).trans RX2.out; have RY3 := (hb3.block (w.heap.size + 1) z2').trans RY2.out; have x0 := rowcell RX3 0; have x1 := rowcell RX3 1; have x2 := rowcell RX3 2; have x3 := rowcell RX3 3; have x4 := rowcell RX3 4; have x5 := rowcell RX3 5; have xf := rowfree RX3; simp only [List.getElem?_toArray, List.getElem?_cons_zero, List.getElem?_cons_succ] at x0 x1 x2 x3 x4 x5; have y0 := rowcell RY3 0; have y1 := rowcell RY3 1; have y2 := rowcell RY3 2; have y3 := rowcell RY3 3; have y4 := rowcell RY3 4; have y5 := rowcell RY3 5; have yf := rowfree RY3; simp only [List.getElem?_toArray, List.getElem?_cons_zero, List.getElem?_cons_succ] at y0 y1 y2 y3 y4 y5; have HB3 : Hid (Below _ _ _) := cthen B2.out hb3; clear hb3 RX3 RY3)
    | (go_at_call 46; refine (k1 _).mono ?_; rintro e w2 ⟨rfl, hb2⟩; have RX2 : Hid _ := (hb2.block w.heap.size (by simp; omega)).trans ((Below.heap_alloc (w.alloc _) _ _ (by simp)).trans (rownew w _ _)); have RY2 : Hid _ := (hb2.block (w.heap.size + 1) (by simp)).trans (rownew' _ _ _ _ (by simp)); have z2 : w.heap.size < w2.heap.size := (by have := hb2.size; simp at this; omega); have z2' : w.heap.size + 1 < w2.heap.size := (by have := hb2.size; simp at this; omega); have NX := rowcell RX2.out 0; have B2 : Hid (Below _ _ _) := cthen (cmore (cmore (Below.refl _ _) _) _) hb2; have T1 : True := trivial; have p0 := rowcell RX2.out 0; have p1 := rowcell RX2.out 1; have p2 := rowcell RX2.out 2; have p3 := rowcell RX2.out 3; have p4 := rowcell RX2.out 4; have p5 := rowcell RX2.out 5; have pf := rowfree RX2.out; simp only [List.getElem?_toArray, List.getElem?_cons_zero, List.getElem?_cons_succ] at p0 p1 p2 p3 p4 p5; have q0 := rowcell RY2.out 0; have q1 := rowcell RY2.out 1; have q2 := rowcell RY2.out 2; have q3 := rowcell RY2.out 3; have q4 := rowcell RY2.out 4; have q5 := rowcell RY2.out 5; have qf := rowfree RY2.out; simp only [List.getElem?_toArray, List.getElem?_cons_zero, List.getElem?_cons_succ] at q0 q1 q2 q3 q4 q5; clear hb2 NX))
  all_goals exact hQ.out _ _ ⟨rfl, HB3.out⟩
end Go.Proofs.Ytajlgpamcpgalaa
