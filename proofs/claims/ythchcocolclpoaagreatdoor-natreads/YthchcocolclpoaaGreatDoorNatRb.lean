import Derived.Test.YthchcocolclpoaaGreatDoorNatRa
import Derived.Test.YthchcocolclpoaaGreatDoorNatC
import Derived.Lib.ConvBytes
import Derived.Lib.AtoiErrMem
namespace Go.Proofs.YthchcocolclpoaaGreatDoor
open Go.ChangeShapes Go.WideShapes Go.ChangeAt Go.RowKit
set_option linter.unusedVariables false
set_option linter.unusedSimpArgs false
set_option maxRecDepth 100000

/-! ### strconv.ParseUint of a few digits -/
set_option maxHeartbeats 8000000 in
theorem iparse_any (s : ByteArray) (h0 : 0 < s.size) (h19 : s.size ≤ 19) (hd : ∀ j (hj : j < s.size), 48 ≤ (s[j]'hj).toNat ∧ (s[j]'hj).toNat ≤ 57) (w : World) :
    Calls Tryz.prog 37 #[.string s, .int .i64 10, .int .i64 64] w fun e w' => e = .returned (.tuple #[.int .u64 (dnum s s.size : Nat), .nilIface]) ∧ Below w.heap.size w w' := by
  have hemps : s.toList.isEmpty = false := by
    rw [Lib.toList_data]
    cases h : s.data.toList with
    | nil => have := Lib.size_eq s; rw [h, List.length_nil] at this; omega
    | cons _ _ => rfl
  have hcv := Lib.run_convert_string_bytes (P := Tryz.prog) w 9 63 5 s (u := .string) Tryz.underlying9 Tryz.underlying63 Tryz.underlying5
  have hB : ∀ j, j < s.size → (Lib.bytesWorld w 5 s).cell? ⟨w.heap.size, j, none⟩ = some (.int .u8 (s.data.toList.getD j 0).toNat) := fun j hj => Lib.bytesWorld_cell w 5 s j hj
  have hbel := Lib.bytesWorld_below w 5 s
  have hmv : IntKind.u64.wrap (IntKind.u64.wrap 18446744073709551616 - 1) = 18446744073709551615 := by
    rw [IntKind.wrap_u64, IntKind.wrap_u64]
    decide
  have HS : Hid (∀ i, i < s.size → ∃ d : Nat, s.data.toList.getD i 0 = UInt8.ofNat (48 + d) ∧ (s.data.toList.getD i 0).toNat = 48 + d ∧ d ≤ 9 ∧ dnum s (i + 1) = dnum s i * 10 + d ∧ dnum s i < 1000000000000000000) := by
    intro i hi
    have h1 := hd i hi
    have h2 : s.data.toList.getD i 0 = s[i]'hi := by
      rw [List.getD_eq_getElem?_getD, List.getElem?_eq_getElem (by simpa using hi)]; rfl
    have h3 := dnum_succ s i hi
    have h4 := dnum_lt s i hd (by omega)
    have h5 : 10 ^ i ≤ 10 ^ 18 := Nat.pow_le_pow_right (by decide) (by omega)
    refine ⟨(s[i]'hi).toNat - 48, ?_, by rw [h2]; omega, by omega, h3, Nat.lt_of_lt_of_le h4 h5⟩
    rw [h2, show 48 + ((s[i]'hi).toNat - 48) = (s[i]'hi).toNat by omega]
    simp
  clear hd
  refine cps fun Q hQ => ?_
  have HQ : Hid (∀ a : Int, a = (dnum s s.size : Nat) → Q (.returned (.tuple #[.int .u64 a, .nilIface])) (Lib.bytesWorld w 5 s)) := fun a ha => hQ.out _ _ ⟨by rw [ha], hbel⟩
  clear hQ hbel
  obtain ⟨W1, hW1⟩ : ∃ W1, W1 = Lib.bytesWorld w 5 s := ⟨_, rfl⟩
  rw [← hW1] at hcv hB HQ
  clear hW1
  go_enter Tryz.func37, Tryz.ntmps37
  go_wp2
  go_loop [12, 13, 101] (fun vu vn vi => ∃ (k : Nat) (a : Int), vu = .bool false ∧ vn = .int .u64 a ∧ vi = .int .i64 k ∧ k ≤ s.size ∧ Hid (a = (dnum s k : Nat))) (fun _ _ vi => s.size - (intOf vi).toNat)
  case atStart => exact ⟨0, 0, rfl, rfl, rfl, by omega, rfl⟩
  case round =>
    obtain ⟨k, a, rfl, rfl, rfl, hk, ha⟩ := hrel
    by_cases hkn : k < s.size
    · have hc := hB k hkn
      obtain ⟨d, e1, e2, e3, e4, e5⟩ := HS.out k hkn
      rw [e2] at hc
      have hcc : ((48 + d : Nat) : Int) = 48 + (d : Int) := by omega
      rw [hcc] at hc
      have a0 : 0 ≤ a := by rw [ha.out]; omega
      have a1 : a < 1000000000000000000 := by rw [ha.out]; omega
      have HN : Hid (a * 10 + (d : Int) = (dnum s (k + 1) : Nat)) := by show _ = _; rw [ha.out, e4]; omega
      clear hB e1 e2 e4 e5 hcc ha
      go_wp2
      refine ⟨⟨k + 1, a * 10 + (d : Int), rfl, (by first | rfl | (congr 1; omega)), (by first | rfl | (congr 1; omega)), by omega, HN.out⟩, by simp [intOf]; omega⟩
    · have hkk : k = s.size := by omega
      subst hkk
      clear hB
      go_wp2
      exact HQ.out _ ha.out
theorem parse_any (s : ByteArray) (h0 : 0 < s.size) (h19 : s.size ≤ 19) (hd : ∀ j (hj : j < s.size), 48 ≤ (s[j]'hj).toNat ∧ (s[j]'hj).toNat ≤ 57) (w : World) :
    Calls Tryz.prog 15 #[.string s, .int .i64 10, .int .i64 64] w fun e w' => e = .returned (.tuple #[.int .u64 (dnum s s.size : Nat), .nilIface]) ∧ Below w.heap.size w w' := by
  have k := iparse_any s h0 h19 hd w
  generalize dnum s s.size = D at *
  have K : Hid (Calls _ _ _ _ _) := k
  clear k hd
  refine cps fun Q hQ => ?_
  go_enter Tryz.func15, Tryz.ntmps15
  go_wp2_with (go_at_call 37; refine K.out.mono ?_; rintro e w1 ⟨rfl, hb1⟩)
  exact hQ.out _ _ ⟨rfl, hb1⟩
end Go.Proofs.YthchcocolclpoaaGreatDoor
