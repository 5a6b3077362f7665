import Derived.Test.YtckmmdmimlhmoaaDoorNatStub
import Derived.Lib.IfaceEq
import Derived.Deep.CutRange
namespace Go.Proofs.YtckmmdmimlhmoaaDoor
open Go.ChangeShapes Go.WideShapes Go.ChangeAt Go.RowKit
set_option linter.unusedVariables false
set_option maxRecDepth 100000

/-! ### the reference's contracts, all in one form -/
/-! ### slices written out -/
theorem rowU_lit1 (w : World) (e : TypeId) (d : Nat) : RowU (w.alloc (.cells #[.int .u64 (d : Int)] e)) (.slice (some ⟨w.heap.size, 0, none⟩) 1 1) [d] := by
  refine ⟨_, 1, rfl, by decide, Nat.le_refl _, .inr ⟨_, 0, rfl, by simp, fun j hj => ?_⟩⟩
  have : j = 0 := by simpa using hj
  subst this
  exact World.cell?_alloc_at _ _ _ _ rfl
theorem rowU_lit2 (w : World) (e : TypeId) (c d : Nat) : RowU (w.alloc (.cells #[.int .u64 (c : Int), .int .u64 (d : Int)] e)) (.slice (some ⟨w.heap.size, 0, none⟩) 2 2) [c, d] := by
  refine ⟨_, 2, rfl, by decide, Nat.le_refl _, .inr ⟨_, 0, rfl, by simp, fun j hj => ?_⟩⟩
  have : j = 0 ∨ j = 1 := by simp at hj; omega
  rcases this with rfl | rfl <;> exact World.cell?_alloc_at _ _ _ _ rfl
theorem rowUU_own {w : World} {vs : Array Value} {e : TypeId} {L : List (List Nat)} (hn : vs.size = L.length) (hs : L.length ≤ 9223372036854775807) (h : ∀ j (hj : j < vs.size), RowU w vs[j] (L.getD j [])) :
    RowUU (w.alloc (.cells vs e)) (.slice (some ⟨w.heap.size, 0, none⟩) L.length L.length) L := by
  refine ⟨_, _, rfl, hs, Nat.le_refl _, .inr ⟨_, 0, rfl, by simp, fun j hj => ?_⟩⟩
  refine ⟨vs[j], ?_, (h j (by omega)).below ((Below.refl _ _).alloc (Nat.le_refl _) _)⟩
  refine (World.cell?_alloc_at _ _ _ _ rfl).trans ?_
  rw [Nat.zero_add]
  exact Array.getElem?_eq_getElem (by omega)
theorem rowUU_two (w : World) (e : TypeId) {va vb : Value} {l m : List Nat} (ha : RowU w va l) (hb : RowU w vb m) : RowUU (w.alloc (.cells #[va, vb] e)) (.slice (some ⟨w.heap.size, 0, none⟩) 2 2) [l, m] :=
  rowUU_own (w := w) (vs := #[va, vb]) (L := [l, m]) rfl (by simp) fun j hj => by
    have : j = 0 ∨ j = 1 := by simp at hj; omega
    rcases this with rfl | rfl
    · exact ha
    · exact hb
theorem lim_one {x : Nat} (h0 : x ≠ 0) (h : x < 18446744073709551616) : lim x = [x] := by rw [lim_pos h0, show x / 18446744073709551616 = 0 by omega, lim_zero, Nat.mod_eq_of_lt h]
theorem lim_two {x y : Nat} (h0 : x ≠ 0) (h : x < 18446744073709551616) (hy : y < 18446744073709551616) : lim (x * 18446744073709551616 + y) = [y, x] := by
  rw [lim_pos (by omega), show (x * 18446744073709551616 + y) / 18446744073709551616 = x by omega, lim_one h0 h, show (x * 18446744073709551616 + y) % 18446744073709551616 = y by omega]
set_option maxHeartbeats 2000000 in
theorem shown_any (w : World) : Calls Tryd.prog 4 #[] w fun e w' => e = .returned (.bool true) ∧ Below w.heap.size w w' := by
  refine cps fun Q hQ => ?_
  have he := fun w a b => Lib.run_eql_iface_int (P := Tryd.prog) w (t := 31) (tx := 44) (k := .i64) a b Tryd.underlying31 (by kernel_rfl) Tryd.underlying44
  have l1 : Limbs [18446744073709551615] := fun x hx => by simp at hx; omega
  have r1 : lim (([[18446744073709551615], [1]] : List (List Nat)).map uval).sum = [0, 1] := (lim_two (x := 1) (y := 0) (by decide) (by decide) (by decide))
  have r2 : lim (([[9223372036854775808], [2], [3]] : List (List Nat)).map uval).prod = [0, 3] := (lim_two (x := 3) (y := 0) (by decide) (by decide) (by decide))
  have k1 := fun v w x => natadd_any v [[18446744073709551615], [1]] (by intro l hl x hx; simp at hl; rcases hl with rfl | rfl <;> simp at hx <;> omega) (by decide) w x
  have k2 := fun v w x => natmul_any v [[9223372036854775808], [2], [3]] (by intro l hl x hx; simp at hl; rcases hl with rfl | rfl | rfl <;> simp at hx <;> omega) (by decide) w x
  rw [r1] at k1
  rw [r2] at k2
  have k3 := fun va vb w x y => natsub_lt va vb [3] [5] (by intro x hx; simp at hx; omega) (by intro x hx; simp at hx; omega) (by decide) (by decide) (by decide) w x y
  have k4 := fun v w x => nattext_any v [0] (by intro x hx; simp at hx; omega) (by decide) w x
  have e4 : decS (uval [0]) = ⟨#[48]⟩ := rfl
  rw [e4] at k4
  have k5 := fun va vb w x y => same_any va vb [0, 1] [0, 1] true (by decide) w x y
  have k6 := fun va vb w x y => same_any va vb [0, 3] [0, 3] true (by decide) w x y
  clear r1 r2 e4 l1
  go_enter Tryd.func4, Tryd.ntmps4
  have m1 : ∀ W : World, RowUU (((W.alloc (.cells #[.int .u64 18446744073709551615] 42)).alloc (.cells #[.int .u64 1] 42)).alloc (.cells #[.slice (some ⟨W.heap.size, 0, none⟩) 1 1, .slice (some ⟨W.heap.size + 1, 0, none⟩) 1 1] 23)) (.slice (some ⟨W.heap.size + 1 + 1, 0, none⟩) 2 2) [[18446744073709551615], [1]] := fun W => by
    have a1 := rowU_lit1 W 42 18446744073709551615
    have a2 := rowU_lit1 (W.alloc (.cells #[.int .u64 18446744073709551615] 42)) 42 1
    have := rowUU_own (w := (W.alloc (.cells #[.int .u64 18446744073709551615] 42)).alloc (.cells #[.int .u64 1] 42)) (vs := #[.slice (some ⟨W.heap.size, 0, none⟩) 1 1, .slice (some ⟨W.heap.size + 1, 0, none⟩) 1 1]) (e := 23) (L := [[18446744073709551615], [1]]) rfl (by decide) (fun j hj => by
      have : j = 0 ∨ j = 1 := by simp at hj; omega
      rcases this with rfl | rfl
      · exact a1.below ((Below.refl _ _).alloc (Nat.le_refl _) _)
      · simpa using a2)
    simpa using this
  have m2 : ∀ W : World, RowUU ((((W.alloc (.cells #[.int .u64 9223372036854775808] 42)).alloc (.cells #[.int .u64 2] 42)).alloc (.cells #[.int .u64 3] 42)).alloc (.cells #[.slice (some ⟨W.heap.size, 0, none⟩) 1 1, .slice (some ⟨W.heap.size + 1, 0, none⟩) 1 1, .slice (some ⟨W.heap.size + 1 + 1, 0, none⟩) 1 1] 23)) (.slice (some ⟨W.heap.size + 1 + 1 + 1, 0, none⟩) 3 3) [[9223372036854775808], [2], [3]] := fun W => by
    have a1 := rowU_lit1 W 42 9223372036854775808
    have a2 := rowU_lit1 (W.alloc (.cells #[.int .u64 9223372036854775808] 42)) 42 2
    have a3 := rowU_lit1 ((W.alloc (.cells #[.int .u64 9223372036854775808] 42)).alloc (.cells #[.int .u64 2] 42)) 42 3
    have := rowUU_own (w := ((W.alloc (.cells #[.int .u64 9223372036854775808] 42)).alloc (.cells #[.int .u64 2] 42)).alloc (.cells #[.int .u64 3] 42)) (vs := #[.slice (some ⟨W.heap.size, 0, none⟩) 1 1, .slice (some ⟨W.heap.size + 1, 0, none⟩) 1 1, .slice (some ⟨W.heap.size + 1 + 1, 0, none⟩) 1 1]) (e := 23) (L := [[9223372036854775808], [2], [3]]) rfl (by decide) (fun j hj => by
      have : j = 0 ∨ j = 1 ∨ j = 2 := by simp at hj; omega
      rcases this with rfl | rfl | rfl
      · exact (a1.below ((Below.refl _ _).alloc (Nat.le_refl _) _)).below ((Below.refl _ _).alloc (Nat.le_refl _) _)
      · simpa using a2.below ((Below.refl _ _).alloc (Nat.le_refl _) _)
      · simpa using a3)
    simpa using this
  have m3 := fun W : World => rowU_lit1 W 42 3
  have m4 := fun W : World => rowU_lit1 W 42 5
  go_upto_region 5 with (first
    | (go_at_call 6; refine (k1 _ _ (m1 _)).mono ?_; rintro e w1 ⟨v1, rfl, hr1, hb1⟩; have H1 := bthen0 (bmore0 (bmore0 (bmore0 (Below.refl _ _) _) _) _) hb1)
    | (go_at_call 8; refine (k2 _ _ (m2 _)).mono ?_; rintro e w2 ⟨v2, rfl, hr2, hb2⟩; have H2 := bthen0 (bmore0 (bmore0 (bmore0 (bmore0 (Below.refl w1.heap.size w1) _) _) _) _) hb2)
    | (go_at_call 9; refine (k3 _ _ _ ((m3 _).below ((Below.refl _ _).alloc (Nat.le_refl _) _)) (by simpa using m4 (w2.alloc _))).mono ?_; rintro e w3 ⟨rfl, hb3⟩; have H3 := bthen0 (bmore0 (bmore0 (Below.refl w2.heap.size w2) _) _) hb3)
    | (go_at_call 17; have y4 := rowU_lit1 w3 42 0; have z4 := k4 _ _ y4; refine z4.mono ?_; rintro e w4 ⟨rfl, hb4⟩; have H4 := bthen0 (bmore0 (Below.refl w3.heap.size w3) _) hb4; have s1 := ((hr1.below H2).below H3).below H4; have s2 := (hr2.below H3).below H4))
  have r5 := rowU_lit2 w4 42 0 1
  have s5 := s1.below (bmore0 (Below.refl _ _) (.cells #[.int .u64 0, .int .u64 1] 42))
  have z5 := k5 _ _ _ s5 r5
  go_upto_region 6 with (go_at_call 15; refine z5.mono ?_; rintro e w' ⟨rfl, q1, rfl⟩)
  have H5 := below_drewN (bmore0 (Below.refl w4.heap.size w4) (.cells #[.int .u64 0, .int .u64 1] 42)) q1
  obtain ⟨W5, hW5⟩ : ∃ W, W = (w4.alloc (.cells #[.int .u64 0, .int .u64 1] 42)).drewN q1 := ⟨_, rfl⟩
  rw [← hW5] at H5 ⊢
  clear hW5 z5 s5 r5
  have r6 := rowU_lit2 W5 42 0 3
  have s6 := (s2.below H5).below (bmore0 (Below.refl _ _) (.cells #[.int .u64 0, .int .u64 3] 42))
  have z6 := k6 _ _ _ s6 r6
  go_wp2_with (go_at_call 15; refine z6.mono ?_; rintro e w' ⟨rfl, q2, rfl⟩)
  refine hQ.out _ _ ⟨by simp, ?_⟩
  exact below_drewN (bmore0 (bthen0 (bthen0 (bthen0 (bthen0 H1 H2) H3) H4) H5) _) q2
end Go.Proofs.YtckmmdmimlhmoaaDoor
