import Derived.Test.YtajlgpamcpgalaaRows
import Derived.Test.YtajlgpamcpgalaaKit
import Derived.Lib.BitFns
import Derived.Lib.Tables
set_option maxRecDepth 100000
namespace Go.Proofs.Ytajlgpamcpgalaa
open Go.ChangeShapes Go.WideShapes Go.ChangeAt Go.RowKit

theorem infoU8 : (Try.prog.info? 5).map (fun i => (i.zero, i.size, i.bytes)) = some (some (.int .u8 0), 1, 1) := by kernel_rfl

def chars (l : List Bool) : List Value := l.map fun b => .int .u8 (bitByte b).toNat
theorem bit_char (x k : Nat) : ((48 + ((x : Int) / 2 ^ k).tmod 2) % 256) = ((bitByte (x.testBit k)).toNat : Int) := by
  rw [shrN, Nat.testBit_eq_decide_div_mod_eq, Nat.shiftRight_eq_div_pow]
  generalize x / 2 ^ k = y
  rw [Int.tmod_eq_emod_of_nonneg (by omega)]
  rcases Nat.mod_two_eq_zero_or_one y with h | h
  · have : ((y:Int)) % 2 = 0 := by omega
    rw [this]; simp [bitByte, h]
  · have : ((y:Int)) % 2 = 1 := by omega
    rw [this]; simp [bitByte, h]

theorem bitsOf_step (x n k : Nat) (h : k < n) : (bitsOf x n).take (k + 1) = (bitsOf x n).take k ++ [x.testBit (n - 1 - k)] := by
  rw [List.take_add_one, bitsOf_get x n k h]; rfl

theorem text_any (x : Nat) (n : Nat) (hn : n ≤ 64) (w : World) :
    Calls Try.prog 36 #[.int .u64 x, .int .i64 n] w fun e w' => ∃ s, e = .returned (.string s) ∧ IsBits s (bitsOf x n) ∧ Below w.heap.size w w' := by
  obtain ⟨i0, hi, hz0, hz1, hz2⟩ := info_parts infoU8
  refine cps fun Q hQ => ?_
  go_enter Try.func36, Try.ntmps36
  go_wp2
  go_loopw [5, 6] (fun v i wr => ∃ k : Nat, k ≤ n ∧ i = .int .i64 ((n : Int) - 1 - k) ∧ wr.ownsRow w.heap.size 5 1 v k (chars ((bitsOf x n).take k)) ∧ Below w.heap.size w wr)
    (fun _ i _ => (intOf i + 1).toNat)
  case atStart => exact ⟨0, Nat.zero_le _, by simp, World.ownsRow_nil _ _ _ _, Below.refl _ _⟩
  case round =>
    obtain ⟨k, hk, rfl, hown, hb⟩ := hrel
    have hs := hb.size
    by_cases hlt : k < n
    · go_wp2_with (at_builtin; go_must (refine append1 rfl _ _ 103 rfl w.heap.size 5 i0 (.int .u8 0) 1 Try.underlying103 hi hz0 hz1 hz2 rfl _ _ _ hown rfl rfl rfl (by omega) (by omega) hs ?_); intro v' w1 hown1 hb1 hne1 _)
      go_roundw
      case rel => exact ⟨k + 1, by omega, by go_num, by rw [bitsOf_step x n k hlt]; simpa [chars, bit_char] using hown1, hb.trans hb1⟩
      case measure => simp [intOf]; omega
    · have hkn : k = n := by omega
      subst hkn
      have hcv := run_convert_own (P := Try.prog) ((bitsOf x k).map bitByte) (by simpa [chars, bitsOf_length, List.take_of_length_le, Function.comp_def] using hown) Try.underlying103 Try.underlying5 Try.underlying9
      go_wp2
      exact hQ.out _ _ ⟨_, rfl, by simp [IsBits], hb⟩

theorem numOf_step (l : List Bool) (k : Nat) (h : k < l.length) : numOf (l.take (k + 1)) = 2 * numOf (l.take k) + (l.getD k false).toNat := by
  rw [List.take_add_one, List.getElem?_eq_getElem h, List.getD_eq_getElem?_getD, List.getElem?_eq_getElem h]
  exact numOf_snoc _ _
theorem num_char (b : Bool) (m : Nat) : IntKind.u64.wrap (IntKind.u64.wrap (2 * (m : Int)) + (((bitByte b).toNat : Int) - 48) % 256) = (((2 * m + b.toNat) % 2^64 : Nat) : Int) := by
  rw [IntKind.wrap_u64, IntKind.wrap_u64]
  cases b <;> simp [bitByte] <;> omega
theorem number_any (s : ByteArray) (l : List Bool) (hs : IsBits s l) (hl : l.length ≤ 64) (w : World) :
    Calls Try.prog 39 #[.string s] w fun e w' => e = .returned (.int .u64 (numOf l : Nat)) ∧ w' = w := by
  have hsz := isBits_size hs
  refine cps fun Q hQ => ?_
  go_enter Try.func39, Try.ntmps39
  go_wp2
  go_loop [3, 4] (fun v i => ∃ k : Nat, k ≤ s.size ∧ i = .int .i64 k ∧ v = .int .u64 (numOf (l.take k) : Nat)) (fun _ i => s.size - (intOf i).toNat)
  case atStart => exact ⟨0, Nat.zero_le _, rfl, rfl⟩
  case round =>
    obtain ⟨k, hk, rfl, rfl⟩ := hrel
    by_cases hlt : k < s.size
    · go_wp2
      go_round
      case rel =>
        have h2 : numOf (l.take (k + 1)) < 2 ^ 64 := Nat.lt_of_lt_of_le (numOf_lt _) (Nat.pow_le_pow_right (by decide) (by rw [List.length_take]; omega))
        refine ⟨k + 1, by omega, by go_num, ?_⟩
        rw [isBits_get hs k hlt, num_char, ← numOf_step l k (by omega), Nat.mod_eq_of_lt h2]
      case measure => simp [intOf]; omega
    · go_wp2
      have hkn : k = s.size := by omega
      subst hkn
      exact hQ.out _ _ ⟨by rw [List.take_of_length_le (by omega)], rfl⟩

/-! ### the library's Len64, LeadingZeros64 -/
set_option maxRecDepth 100000 in
theorem len8tab_size : (Lib.len8tab.size : Int) = 256 := by
  have : Lib.len8tab.size = 256 := by decide
  omega
theorem len8_get (y : Int) (h : y.toNat < Lib.len8tab.size) : ((Lib.len8tab[y.toNat]'h).toNat : Int) = Lib.len8 y := by
  unfold Lib.len8
  rw [getElem?_pos Lib.len8tab y.toNat h]
  rfl
theorem len8_fin (k P X : Nat) (K : Int) (y : Int) (hP : P = 2 ^ k) (hK : K = k) (h0 : 0 ≤ y) (h1 : y ≤ 255) (hk : k ≤ 56) (hX : X < 2 ^ 64) (hPX : P ≤ X) (hy : y.toNat = X / P) :
    wrap64 (K + wrap64 (Lib.len8 y)) = (Lib.bitLen X : Int) := by
  rw [Lib.len8_of y h0 h1, hK]
  have l := Lib.bitLen_le8' y h0 h1
  have s := Lib.bitLen_shift k X (hP ▸ hPX) hX
  rw [← hP] at s
  rw [hy] at l ⊢
  generalize Lib.bitLen (X / P) = a at *
  generalize Lib.bitLen X = b at *
  clear hP hX hPX hy h0 h1
  unfold wrap64
  omega
theorem len8_fin0 (X : Nat) (y : Int) (h0 : 0 ≤ y) (h1 : y ≤ 255) (hy : y.toNat = X) :
    wrap64 (wrap64 (Lib.len8 y)) = (Lib.bitLen X : Int) := by
  rw [Lib.len8_of y h0 h1]
  have l := Lib.bitLen_le8' y h0 h1
  rw [hy] at l ⊢
  generalize Lib.bitLen X = b at *
  clear h0 h1 hy
  unfold wrap64
  omega
set_option maxRecDepth 100000 in
theorem len64_int (x : Int) (h0 : 0 ≤ x) (h1 : x ≤ 18446744073709551615) (w : World) :
    Calls Try.prog 72 #[.int .u64 x] w fun e w' => e = .returned (.int .i64 (Lib.bitLen x.toNat)) ∧ w' = w := by
  have hsz := len8tab_size
  go_enter Try.func72, Try.ntmps72
  go_wp2
  all_goals (go_ret; refine ⟨congrArg Ending.returned (congrArg (Value.int IntKind.i64) ?_), rfl⟩; rw [len8_get]; clear hsz)
  all_goals first
    | exact len8_fin 56 72057594037927936 x.toNat 56 (x / 4294967296 / 65536 / 256) rfl rfl (by omega) (by omega) (by decide) (by omega) (by omega) (by omega)
    | exact len8_fin 48 281474976710656 x.toNat 48 (x / 4294967296 / 65536) rfl rfl (by omega) (by omega) (by decide) (by omega) (by omega) (by omega)
    | exact len8_fin 40 1099511627776 x.toNat 40 (x / 4294967296 / 256) rfl rfl (by omega) (by omega) (by decide) (by omega) (by omega) (by omega)
    | exact len8_fin 32 4294967296 x.toNat 32 (x / 4294967296) rfl rfl (by omega) (by omega) (by decide) (by omega) (by omega) (by omega)
    | exact len8_fin 24 16777216 x.toNat 24 (x / 65536 / 256) rfl rfl (by omega) (by omega) (by decide) (by omega) (by omega) (by omega)
    | exact len8_fin 16 65536 x.toNat 16 (x / 65536) rfl rfl (by omega) (by omega) (by decide) (by omega) (by omega) (by omega)
    | exact len8_fin 8 256 x.toNat 8 (x / 256) rfl rfl (by omega) (by omega) (by decide) (by omega) (by omega) (by omega)
    | exact len8_fin0 x.toNat x (by omega) (by omega) rfl
theorem len64_any (x : Nat) (hx : x < 18446744073709551616) (w : World) :
    Calls Try.prog 72 #[.int .u64 x] w fun e w' => e = .returned (.int .i64 (Lib.bitLen x)) ∧ w' = w := by
  have := len64_int (x : Int) (by omega) (by omega) w
  simpa using this
end Go.Proofs.Ytajlgpamcpgalaa
