import Derived.Test.YthbhcdokjlpjbabRows
import Derived.Test.YthbhcdokjlpjbabKit
import Derived.Lib.BitFns
import Derived.Lib.Tables
namespace Go.Proofs.Ythbhcdokjlpjbab
open Go.ChangeShapes Go.WideShapes Go.ChangeAt Go.RowKit

theorem infoU8 : (Try.prog.info? 5).map (fun i => (i.zero, i.size, i.bytes)) = some (some (.int .u8 0), 1, 1) := by kernel_rfl

def chars (l : List Bool) : List Value := l.map fun b => .int .u8 (bitByte b).toNat
theorem bit_char (x k : Nat) : ((48 + ((x : Int) / 2 ^ k).tmod 2) % 256) = ((bitByte (x.testBit k)).toNat : Int) := by
  rw [shrN, Nat.testBit_eq_decide_div_mod_eq, Nat.shiftRight_eq_div_pow]
  generalize x / 2 ^ k = y
  rw [Int.tmod_eq_emod_of_nonneg (by omega)]
  rcases Nat.mod_two_eq_zero_or_one y with h | h
  · have : ((y:Int)) % 2 = 0 := by omega
    rw [this]; simp [bitByte, h]
  · have : ((y:Int)) % 2 = 1 := by omega
    rw [this]; simp [bitByte, h]

theorem bitsOf_step (x n k : Nat) (h : k < n) : (bitsOf x n).take (k + 1) = (bitsOf x n).take k ++ [x.testBit (n - 1 - k)] := by
  rw [List.take_add_one, bitsOf_get x n k h]; rfl

theorem numOf_step (l : List Bool) (k : Nat) (h : k < l.length) : numOf (l.take (k + 1)) = 2 * numOf (l.take k) + (l.getD k false).toNat := by
  rw [List.take_add_one, List.getElem?_eq_getElem h, List.getD_eq_getElem?_getD, List.getElem?_eq_getElem h]
  exact numOf_snoc _ _
theorem num_char (b : Bool) (m : Nat) : IntKind.u64.wrap (IntKind.u64.wrap (2 * (m : Int)) + (((bitByte b).toNat : Int) - 48) % 256) = (((2 * m + b.toNat) % 2^64 : Nat) : Int) := by
  rw [IntKind.wrap_u64, IntKind.wrap_u64]
  cases b <;> simp [bitByte] <;> omega
/-! ### the library's Len64, LeadingZeros64 -/
set_option maxRecDepth 100000 in
theorem len8tab_size : (Lib.len8tab.size : Int) = 256 := by
  have : Lib.len8tab.size = 256 := by decide
  omega
theorem len8_get (y : Int) (h : y.toNat < Lib.len8tab.size) : ((Lib.len8tab[y.toNat]'h).toNat : Int) = Lib.len8 y := by
  unfold Lib.len8
  rw [getElem?_pos Lib.len8tab y.toNat h]
  rfl
theorem len8_fin (k P X : Nat) (K : Int) (y : Int) (hP : P = 2 ^ k) (hK : K = k) (h0 : 0 ≤ y) (h1 : y ≤ 255) (hk : k ≤ 56) (hX : X < 2 ^ 64) (hPX : P ≤ X) (hy : y.toNat = X / P) :
    wrap64 (K + wrap64 (Lib.len8 y)) = (Lib.bitLen X : Int) := by
  rw [Lib.len8_of y h0 h1, hK]
  have l := Lib.bitLen_le8' y h0 h1
  have s := Lib.bitLen_shift k X (hP ▸ hPX) hX
  rw [← hP] at s
  rw [hy] at l ⊢
  generalize Lib.bitLen (X / P) = a at *
  generalize Lib.bitLen X = b at *
  clear hP hX hPX hy h0 h1
  unfold wrap64
  omega
theorem len8_fin0 (X : Nat) (y : Int) (h0 : 0 ≤ y) (h1 : y ≤ 255) (hy : y.toNat = X) :
    wrap64 (wrap64 (Lib.len8 y)) = (Lib.bitLen X : Int) := by
  rw [Lib.len8_of y h0 h1]
  have l := Lib.bitLen_le8' y h0 h1
  rw [hy] at l ⊢
  generalize Lib.bitLen X = b at *
  clear h0 h1 hy
  unfold wrap64
  omega
set_option maxRecDepth 100000 in
theorem len64_int (x : Int) (h0 : 0 ≤ x) (h1 : x ≤ 18446744073709551615) (w : World) :
    Calls Try.prog 29 #[.int .u64 x] w fun e w' => e = .returned (.int .i64 (Lib.bitLen x.toNat)) ∧ w' = w := by
  have hsz := len8tab_size
  go_enter Try.func29, Try.ntmps29
  go_wp2
  all_goals (go_ret; refine ⟨congrArg Ending.returned (congrArg (Value.int IntKind.i64) ?_), rfl⟩; rw [len8_get]; clear hsz)
  all_goals first
    | exact len8_fin 56 72057594037927936 x.toNat 56 (x / 4294967296 / 65536 / 256) rfl rfl (by omega) (by omega) (by decide) (by omega) (by omega) (by omega)
    | exact len8_fin 48 281474976710656 x.toNat 48 (x / 4294967296 / 65536) rfl rfl (by omega) (by omega) (by decide) (by omega) (by omega) (by omega)
    | exact len8_fin 40 1099511627776 x.toNat 40 (x / 4294967296 / 256) rfl rfl (by omega) (by omega) (by decide) (by omega) (by omega) (by omega)
    | exact len8_fin 32 4294967296 x.toNat 32 (x / 4294967296) rfl rfl (by omega) (by omega) (by decide) (by omega) (by omega) (by omega)
    | exact len8_fin 24 16777216 x.toNat 24 (x / 65536 / 256) rfl rfl (by omega) (by omega) (by decide) (by omega) (by omega) (by omega)
    | exact len8_fin 16 65536 x.toNat 16 (x / 65536) rfl rfl (by omega) (by omega) (by decide) (by omega) (by omega) (by omega)
    | exact len8_fin 8 256 x.toNat 8 (x / 256) rfl rfl (by omega) (by omega) (by decide) (by omega) (by omega) (by omega)
    | exact len8_fin0 x.toNat x (by omega) (by omega) rfl
theorem len64_any (x : Nat) (hx : x < 18446744073709551616) (w : World) :
    Calls Try.prog 29 #[.int .u64 x] w fun e w' => e = .returned (.int .i64 (Lib.bitLen x)) ∧ w' = w := by
  have := len64_int (x : Int) (by omega) (by omega) w
  simpa using this
end Go.Proofs.Ythbhcdokjlpjbab
