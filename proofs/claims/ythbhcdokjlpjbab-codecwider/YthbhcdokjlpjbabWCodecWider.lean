import Derived.Test.YthbhcdokjlpjbabCodN
import Derived.Test.YthbhcdokjlpjbabCode
namespace Go.Proofs.Ythbhcdokjlpjbab
open Go.ChangeShapes Go.WideShapes Go.ChangeAt Go.RowKit
set_option linter.unusedVariables false
set_option linter.unusedSimpArgs false
set_option maxRecDepth 100000

theorem cdecode_any (n x : Nat) (hn : Wd n) (hx : x < 2 ^ 64) (w : World) :
    Calls Try.prog 5 #[.int .i64 n, .int .u64 x] w fun e w' => e = .returned (.tuple #[.agg #[.int .i64 (decK n x), .bool (decB n x), .int .i64 (decS n x), .int .u64 (decF n x)], .nilIface]) ∧ Below w.heap.size w w' := by
  by_cases hk : kindOf n (x % 2 ^ n) = 1
  · have h := cdecode_real n x hn hx hk w
    unfold decK decB decS decF
    rw [hk]
    exact h
  · have h := cdecode_other n x hn hx hk w
    unfold decK decB decS decF
    simp only [hk, if_false]
    exact h
/-- the same, the shifted number by a name -/
theorem wide_by (n d x : Nat) (hn : Wd n) (hm : Wd (n + d)) (hx : x < 2 ^ 64) : ∃ y : Nat, (IntKind.u64.wrap ((x : Int) * 2 ^ d) = (y : Int)) ∧
    ∀ w, Calls Try.prog 5 #[.int .i64 (n + d : Nat), .int .u64 y] w fun e w' => e = .returned (.tuple #[.agg #[.int .i64 (decK n x), .bool (decB n x), .int .i64 (decS n x), .int .u64 (decF n x)], .nilIface]) ∧ Below w.heap.size w w' := by
  refine ⟨x * 2 ^ d % 2 ^ 64, ?_, fun w => ?_⟩
  · rw [IntKind.wrap_u64]; simp
  · obtain ⟨a1, a2, a3, a4⟩ := wider_all n d x hn hm hx
    have k := cdecode_any (n + d) (x * 2 ^ d % 2 ^ 64) hm (Nat.mod_lt _ (by decide)) w
    rw [a1, a2, a3, a4] at k
    exact k
set_option maxHeartbeats 2000000 in
theorem codecWider_walk (p : Int) (wp : (Lit.int .u64 p).wf = true) (w : World) :
    Calls Try.prog 3 #[.int .u64 p] w fun e w' => e = .returned (.bool true) ∧ Below w.heap.size w w' := by
  obtain ⟨x, rfl, hx⟩ := nat_of_u64 wp
  have h8 : Wd 8 := .inl rfl
  have h16 : Wd 16 := .inr (.inl rfl)
  have h32 : Wd 32 := .inr (.inr (.inl rfl))
  have h64 : Wd 64 := .inr (.inr (.inr rfl))
  obtain ⟨x2, e2, k2⟩ := wide_by 8 8 x h8 h16 hx
  obtain ⟨x3, e3, k3⟩ := wide_by 8 24 x h8 h32 hx
  obtain ⟨x4, e4, k4⟩ := wide_by 8 56 x h8 h64 hx
  obtain ⟨x6, e6, k6⟩ := wide_by 32 32 x h32 h64 hx
  rw [show ((8 + 8 : Nat) : Int) = 16 from rfl] at k2
  rw [show ((8 + 24 : Nat) : Int) = 32 from rfl] at k3
  rw [show ((8 + 56 : Nat) : Int) = 64 from rfl] at k4
  rw [show ((32 + 32 : Nat) : Int) = 64 from rfl] at k6
  rw [show (2 : Int) ^ 8 = 256 from rfl] at e2
  rw [show (2 : Int) ^ 24 = 16777216 from rfl] at e3
  rw [show (2 : Int) ^ 56 = 72057594037927936 from rfl] at e4
  rw [show (2 : Int) ^ 32 = 4294967296 from rfl] at e6
  have k1 := fun w => cdecode_any 8 x h8 hx w
  have k5 := fun w => cdecode_any 32 x h32 hx w
  clear h8 h16 h32 h64 wp hx
  generalize decK 8 x = K at *
  generalize decB 8 x = B at *
  generalize decS 8 x = S at *
  generalize decF 8 x = F at *
  generalize decK 32 x = K2 at *
  generalize decB 32 x = B2 at *
  generalize decS 32 x = S2 at *
  generalize decF 32 x = F2 at *
  refine cps fun Q hQ => ?_
  go_enter Try.func3, Try.ntmps3
  go_wp2_with (first
    | (have chk := T5; clear chk; go_at_call 5; refine (k6 _).mono ?_; rintro e w7 ⟨rfl, hb⟩; have z6 : w6.heap.size < w7.heap.size := (by have := hb.size; simp at this; omega); have R5_7 : Hid _ := (hb.block w6.heap.size (by simp)).trans (rownew w6 _ _); have R1_7 : Hid _ := (hb.block w2.heap.size (by simp; omega)).trans ((Below.heap_alloc w6 _ _ (by omega)).trans R1_6.out); have R2_7 : Hid _ := (hb.block w3.heap.size (by simp; omega)).trans ((Below.heap_alloc w6 _ _ (by omega)).trans R2_6.out); have R3_7 : Hid _ := (hb.block w4.heap.size (by simp; omega)).trans ((Below.heap_alloc w6 _ _ (by omega)).trans R3_6.out); have R4_7 : Hid _ := (hb.block w5.heap.size (by simp; omega)).trans ((Below.heap_alloc w6 _ _ (by omega)).trans R4_6.out); have B7 : Hid (Below _ _ _) := cthen (cmore B6.out _) hb; have T6 : True := trivial; have x10 := rowcell (R1_7.out) 0; have x11 := rowcell (R1_7.out) 1; have x12 := rowcell (R1_7.out) 2; have x13 := rowcell (R1_7.out) 3; have x1f := rowfree (R1_7.out); simp only [List.getElem?_toArray, List.getElem?_cons_zero, List.getElem?_cons_succ] at x10 x11 x12 x13; have x20 := rowcell (R2_7.out) 0; have x21 := rowcell (R2_7.out) 1; have x22 := rowcell (R2_7.out) 2; have x23 := rowcell (R2_7.out) 3; have x2f := rowfree (R2_7.out); simp only [List.getElem?_toArray, List.getElem?_cons_zero, List.getElem?_cons_succ] at x20 x21 x22 x23; have x30 := rowcell (R3_7.out) 0; have x31 := rowcell (R3_7.out) 1; have x32 := rowcell (R3_7.out) 2; have x33 := rowcell (R3_7.out) 3; have x3f := rowfree (R3_7.out); simp only [List.getElem?_toArray, List.getElem?_cons_zero, List.getElem?_cons_succ] at x30 x31 x32 x33; have x40 := rowcell (R4_7.out) 0; have x41 := rowcell (R4_7.out) 1; have x42 := rowcell (R4_7.out) 2; have x43 := rowcell (R4_7.out) 3; have x4f := rowfree (R4_7.out); simp only [List.getElem?_toArray, List.getElem?_cons_zero, List.getElem?_cons_succ] at x40 x41 x42 x43; have x50 := rowcell (R5_7.out) 0; have x51 := rowcell (R5_7.out) 1; have x52 := rowcell (R5_7.out) 2; have x53 := rowcell (R5_7.out) 3; have x5f := rowfree (R5_7.out); simp only [List.getElem?_toArray, List.getElem?_cons_zero, List.getElem?_cons_succ] at x50 x51 x52 x53; have n23 : ¬ w2.heap.size = w3.heap.size := (by omega); have n32 : ¬ w3.heap.size = w2.heap.size := (by omega); have n24 : ¬ w2.heap.size = w4.heap.size := (by omega); have n42 : ¬ w4.heap.size = w2.heap.size := (by omega); have n25 : ¬ w2.heap.size = w5.heap.size := (by omega); have n52 : ¬ w5.heap.size = w2.heap.size := (by omega); have n26 : ¬ w2.heap.size = w6.heap.size := (by omega); have n62 : ¬ w6.heap.size = w2.heap.size := (by omega); have n27 : ¬ w2.heap.size = w7.heap.size := (by omega); have n72 : ¬ w7.heap.size = w2.heap.size := (by omega); have l2 : w2.heap.size < w7.heap.size := (by omega); have n34 : ¬ w3.heap.size = w4.heap.size := (by omega); have n43 : ¬ w4.heap.size = w3.heap.size := (by omega); have n35 : ¬ w3.heap.size = w5.heap.size := (by omega); have n53 : ¬ w5.heap.size = w3.heap.size := (by omega); have n36 : ¬ w3.heap.size = w6.heap.size := (by omega); have n63 : ¬ w6.heap.size = w3.heap.size := (by omega); have n37 : ¬ w3.heap.size = w7.heap.size := (by omega); have n73 : ¬ w7.heap.size = w3.heap.size := (by omega); have l3 : w3.heap.size < w7.heap.size := (by omega); have n45 : ¬ w4.heap.size = w5.heap.size := (by omega); have n54 : ¬ w5.heap.size = w4.heap.size := (by omega); have n46 : ¬ w4.heap.size = w6.heap.size := (by omega); have n64 : ¬ w6.heap.size = w4.heap.size := (by omega); have n47 : ¬ w4.heap.size = w7.heap.size := (by omega); have n74 : ¬ w7.heap.size = w4.heap.size := (by omega); have l4 : w4.heap.size < w7.heap.size := (by omega); have n56 : ¬ w5.heap.size = w6.heap.size := (by omega); have n65 : ¬ w6.heap.size = w5.heap.size := (by omega); have n57 : ¬ w5.heap.size = w7.heap.size := (by omega); have n75 : ¬ w7.heap.size = w5.heap.size := (by omega); have l5 : w5.heap.size < w7.heap.size := (by omega); have n67 : ¬ w6.heap.size = w7.heap.size := (by omega); have n76 : ¬ w7.heap.size = w6.heap.size := (by omega); have l6 : w6.heap.size < w7.heap.size := (by omega); clear hb)
    | (have chk := T4; clear chk; go_at_call 5; refine (k5 _).mono ?_; rintro e w6 ⟨rfl, hb⟩; have z5 : w5.heap.size < w6.heap.size := (by have := hb.size; simp at this; omega); have R4_6 : Hid _ := (hb.block w5.heap.size (by simp)).trans (rownew w5 _ _); have R1_6 : Hid _ := (hb.block w2.heap.size (by simp; omega)).trans ((Below.heap_alloc w5 _ _ (by omega)).trans R1_5.out); have R2_6 : Hid _ := (hb.block w3.heap.size (by simp; omega)).trans ((Below.heap_alloc w5 _ _ (by omega)).trans R2_5.out); have R3_6 : Hid _ := (hb.block w4.heap.size (by simp; omega)).trans ((Below.heap_alloc w5 _ _ (by omega)).trans R3_5.out); have B6 : Hid (Below _ _ _) := cthen (cmore B5.out _) hb; have T5 : True := trivial; clear hb)
    | (have chk := T3; clear chk; go_at_call 5; refine (k4 _).mono ?_; rintro e w5 ⟨rfl, hb⟩; have z4 : w4.heap.size < w5.heap.size := (by have := hb.size; simp at this; omega); have R3_5 : Hid _ := (hb.block w4.heap.size (by simp)).trans (rownew w4 _ _); have R1_5 : Hid _ := (hb.block w2.heap.size (by simp; omega)).trans ((Below.heap_alloc w4 _ _ (by omega)).trans R1_4.out); have R2_5 : Hid _ := (hb.block w3.heap.size (by simp; omega)).trans ((Below.heap_alloc w4 _ _ (by omega)).trans R2_4.out); have B5 : Hid (Below _ _ _) := cthen (cmore B4.out _) hb; have T4 : True := trivial; clear hb)
    | (have chk := T2; clear chk; go_at_call 5; refine (k3 _).mono ?_; rintro e w4 ⟨rfl, hb⟩; have z3 : w3.heap.size < w4.heap.size := (by have := hb.size; simp at this; omega); have R2_4 : Hid _ := (hb.block w3.heap.size (by simp)).trans (rownew w3 _ _); have R1_4 : Hid _ := (hb.block w2.heap.size (by simp; omega)).trans ((Below.heap_alloc w3 _ _ (by omega)).trans R1_3.out); have B4 : Hid (Below _ _ _) := cthen (cmore B3.out _) hb; have T3 : True := trivial; clear hb)
    | (have chk := T1; clear chk; go_at_call 5; refine (k2 _).mono ?_; rintro e w3 ⟨rfl, hb⟩; have z2 : w2.heap.size < w3.heap.size := (by have := hb.size; simp at this; omega); have R1_3 : Hid _ := (hb.block w2.heap.size (by simp)).trans (rownew w2 _ _); have B3 : Hid (Below _ _ _) := cthen (cmore B2.out _) hb; have T2 : True := trivial; clear hb)
    | (go_at_call 5; refine (k1 _).mono ?_; rintro e w2 ⟨rfl, hb⟩; have B2 : Hid (Below _ _ _) := cthen HB1.out hb; have T1 : True := trivial; clear hb)
    | (go_at_call 4; refine (cup_any _).mono ?_; rintro e w1 ⟨rfl, hb1⟩; have HB1 : Hid (Below _ _ _) := hb1; clear hb1))
  exact hQ.out _ _ ⟨by simp, cmore B7.out _⟩
end Go.Proofs.Ythbhcdokjlpjbab
