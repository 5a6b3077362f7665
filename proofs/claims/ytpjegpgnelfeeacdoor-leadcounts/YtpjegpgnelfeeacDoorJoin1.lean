import Derived.WalkKit
import Derived.WalkLawsBesides
import Derived.WalkSpells
import Derived.ProofKit
import Derived.OpenShut
import Derived.Deep.QuietTactic
import Derived.BigQuiet
import Derived.Deep.RegionWith
import Derived.Test.YtpjegpgnelfeeacDoorRows
import Derived.Lib.BitFns
import Derived.Lib.Tables
import Derived.Lib.IfaceEq
import Derived.Lib.LaidTab
namespace Go.Proofs.YtpjegpgnelfeeacDoor
open Go.ChangeShapes Go.WideShapes Go.ChangeAt Go.RowKit

theorem cps {P : Program} {f : FuncId} {args : Array Value} {w : World} {R : Ending → World → Prop}
    (h : ∀ Q, Hid (∀ e w', R e w' → Q e w') → Calls P f args w Q) : Calls P f args w R := h R (fun _ _ h => h)

/-- the world of a pure call: some draws, nothing else -/
theorem below_drewN {B : Nat} {a w : World} (h : Below B a w) (n : Nat) : Below B a (w.drewN n) := ⟨h.os, h.tape, h.output, h.size, h.block⟩

/-! ### append of one element -/
theorem append1 {P : Program} {w0 : World} {ops : Array Oper} {rest : List Oper} {o : Oper} {a : Act} {Q : Exit → Act → World → Prop} {u : Value} (hgd : o.guard = none) (s x : Operand) (t : TypeId)
    (ho : o.op = .call { callee := .builtin .append, args := #[s, x], argTypes := #[t, t] })
    (base : Nat) (e : TypeId) (i : TypeInfo) (z : Value) (bytes : Nat) (ht : P.underlying t = some (.slice e)) (hi : P.info? e = some i) (hz : i.zero = some z)
    (hsize : i.size = 1) (hby : i.bytes = bytes) (hzs : z.cells.size = 1)
    (v : Value) (n : Nat) (xs : List Value) (hown : w0.ownsRow base e 1 v n xs) (hs : a.eval s = v) (hu : u.oneCell' = true)
    (hx : a.eval x = .slice (some ⟨w0.heap.size, 0, none⟩) 1 1)
    (hbytes : (n + 1) * bytes ≤ 140737488355328) (hb1 : 0 < bytes) (hbase : base ≤ w0.heap.size)
    (h : ∀ v' w', w'.ownsRow base e 1 v' (n + 1) (xs ++ [u]) → Below base w0 w' → v' ≠ .slice none 0 0 → w0.grownBy w' v.ownBlock → wpList P ops Q rest (a.put o.dst v') w') :
    wpList P ops Q (o :: rest) a (w0.alloc (.cells #[u] e)) := by
  have hle : n + 1 ≤ (n + 1) * bytes := Nat.le_mul_of_pos_right _ hb1
  refine wpList_append_own _ hgd s x t ho base e i z 1 bytes ht hi hz hsize hby hzs (by decide) v n xs hs (hown.alloc _) ⟨w0.heap.size, 0, none⟩ 1 1 [u] hx rfl ?_ ?_ ?_ hbytes ?_ ?_
  · intro j y hj
    match j, hj with
    | 0, hj => simp at hj; subst hj; simp [Addr.add]
  · intro y hy; simp at hy; subst hy; exact hu
  · unfold maxLen; omega
  · simp; omega
  · intro v' w' h1 h2 h3
    have hlt := hown.lt
    refine h v' w' h1 (((Below.refl base w0).alloc hbase _).grown h2 (by simp; omega) (fun k hk => (hlt k hk).1)) ?_ ?_
    · intro hv; have := (h3.1 hv).2; omega
    · exact ⟨h2.os, h2.tape, h2.output, Nat.le_trans (by simp) h2.size, fun k hk hne => (h2.block k (by simp; omega) hne).trans (Below.heap_alloc w0 _ _ hk)⟩

/-- 'string(b)', b a row of the call's own -/
theorem run_convert_own {P : Program} {w : World} {base : Nat} {src dst e : TypeId} {v : Value} {n : Nat} (l : List UInt8) (hown : w.ownsRow base e 1 v n (l.map fun b => .int .u8 b.toNat))
    (hs : P.underlying src = some (.slice e)) (he : P.underlying e = some (.int .u8)) (hd : P.underlying dst = some .string) :
    (convert src dst v).run P w = .ok (.string ⟨l.toArray⟩) w := by
  obtain ⟨h1, h2⟩ := hown
  rcases h2 with ⟨rfl, rfl⟩ | ⟨g, cap, cur, rfl, _, hg, hn, _, hsz, ht⟩
  · have hl : l = [] := by simpa using h1
    subst hl
    exact run_convert_bytes_nil w src e hs he 0 0 dst hd
  · have hl : l.length = n := by simpa using h1
    subst hl
    refine run_convert_bytes_back w src dst e _ cap l hs he hd ?_
    intro j hj
    have hc : cur[j]? = some (.int .u8 (l[j].toNat : Int)) := by
      have e1 : (cur.toList.take (l.length * 1))[j]? = (l.map fun b => Value.int .u8 (b.toNat : Int))[j]? := by rw [ht]
      rw [List.getElem?_take_of_lt (by omega)] at e1
      simpa [hj] using e1
    unfold Addr.add; split <;> simp_all [World.cell?]

/-! ### words -/
theorem ext64 {a b : Nat} (ha : a < 2^64) (hb : b < 2^64) (h : ∀ i, i < 64 → a.testBit i = b.testBit i) : a = b := by
  apply Nat.eq_of_testBit_eq
  intro i
  by_cases hi : i < 64
  · exact h i hi
  · rw [Nat.testBit_lt_two_pow (Nat.lt_of_lt_of_le ha (Nat.pow_le_pow_right (by decide) (by omega))), Nat.testBit_lt_two_pow (Nat.lt_of_lt_of_le hb (Nat.pow_le_pow_right (by decide) (by omega)))]
theorem wrapI {n : Int} (h : -9223372036854775808 ≤ n ∧ n ≤ 9223372036854775807) : IntKind.i64.wrap n = n := by simp [IntKind.wrap, IntKind.bits, IntKind.signed]; omega
theorem wrapN (x : Nat) : IntKind.u64.wrap (x : Int) = ((x % 2^64 : Nat) : Int) := by rw [IntKind.wrap_u64]; omega
theorem wrapShl (x k : Nat) : IntKind.u64.wrap ((x : Int) * 2 ^ k) = (((x <<< k) % 2^64 : Nat) : Int) := by
  rw [Nat.shiftLeft_eq, ← wrapN]; simp
theorem shrN (x k : Nat) : (x : Int) / 2 ^ k = ((x >>> k : Nat) : Int) := by rw [Nat.shiftRight_eq_div_pow]; simp
/-- the lowest n bits' mask, as the code reckons it -/
theorem wrapMask (n : Nat) (hn : n ≤ 64) : IntKind.u64.wrap (IntKind.u64.wrap (2 ^ n) - 1) = ((2^n - 1 : Nat) : Int) := by
  have e : ((2:Int) ^ n) = ((2 ^ n : Nat) : Int) := by simp
  rw [e, wrapN]
  rcases Nat.lt_or_ge n 64 with h | h
  · have h1 : 2^n < 2^64 := Nat.pow_lt_pow_right (by decide) h
    have h2 : 0 < 2^n := Nat.pos_of_ne_zero (by simp)
    rw [Nat.mod_eq_of_lt h1, IntKind.wrap_u64]; omega
  · have : n = 64 := by omega
    subst this; rw [IntKind.wrap_u64]; decide
theorem mask_lt (n : Nat) (hn : n ≤ 64) : 2^n - 1 < 2^64 := by
  have : 2^n ≤ 2^64 := Nat.pow_le_pow_right (by decide) hn
  have h2 : 0 < 2^n := Nat.pos_of_ne_zero (by simp)
  omega

/-! ### bits as text -/
def bitByte (b : Bool) : UInt8 := if b then 49 else 48
def IsBits (s : ByteArray) (l : List Bool) : Prop := s.data.toList = l.map bitByte
def bitsOf (x n : Nat) : List Bool := (List.range n).map fun j => x.testBit (n - 1 - j)
def numOf (l : List Bool) : Nat := l.foldl (fun a b => 2 * a + b.toNat) 0
theorem bitsOf_length (x n : Nat) : (bitsOf x n).length = n := by simp [bitsOf]
theorem bitsOf_get (x n j : Nat) (h : j < n) : (bitsOf x n)[j]? = some (x.testBit (n - 1 - j)) := by
  simp [bitsOf, h]
theorem numOf_snoc (l : List Bool) (b : Bool) : numOf (l ++ [b]) = 2 * numOf l + b.toNat := by simp [numOf]
theorem numOf_acc (l : List Bool) (a : Nat) : l.foldl (fun a b => 2 * a + b.toNat) a = a * 2 ^ l.length + numOf l := by
  induction l generalizing a with
  | nil => simp [numOf]
  | cons b l ih => simp only [List.foldl_cons, numOf, List.length_cons]; rw [ih, ih (2 * 0 + b.toNat)]; simp only [Nat.pow_succ]; rw [Nat.add_mul, Nat.add_mul, Nat.add_assoc]; congr 1; rw [Nat.mul_comm (2 ^ l.length) 2, ← Nat.mul_assoc, Nat.mul_comm a 2]; simp
theorem numOf_cons (b : Bool) (l : List Bool) : numOf (b :: l) = b.toNat * 2 ^ l.length + numOf l := by
  have := numOf_acc l (2 * 0 + b.toNat); simpa [numOf] using this
theorem numOf_lt (l : List Bool) : numOf l < 2 ^ l.length := by
  induction l with
  | nil => simp [numOf]
  | cons b l ih => rw [numOf_cons, List.length_cons, Nat.pow_succ]; cases b <;> simp <;> omega
theorem numOf_testBit (l : List Bool) (i : Nat) : (numOf l).testBit i = (decide (i < l.length) && l.getD (l.length - 1 - i) false) := by
  induction l with
  | nil => simp [numOf]
  | cons b l ih =>
    have hlt := numOf_lt l
    rw [numOf_cons, Nat.mul_comm]
    rw [Nat.testBit_two_pow_mul_add _ hlt]
    by_cases h : i < l.length
    · rw [if_pos h, ih]
      have e : l.length + 1 - 1 - i = (l.length - 1 - i) + 1 := by omega
      simp only [List.length_cons, e, List.getD_cons_succ]
      simp [h, Nat.lt_succ_of_lt h]
    · rw [if_neg h]
      by_cases h2 : i = l.length
      · subst h2; cases b <;> simp
      · have h3 : ¬ i < (b :: l).length := by simp; omega
        have h4 : 1 ≤ i - l.length := by omega
        simp only [h3, decide_false, Bool.false_and]
        have : b.toNat < 2 ^ (i - l.length) := Nat.lt_of_lt_of_le (show b.toNat < 2 by cases b <;> decide) (by rw [show (2:Nat) = 2^1 from rfl]; exact Nat.pow_le_pow_right (by decide) h4)
        exact Nat.testBit_lt_two_pow this
/-- shown and read again: the lowest n bits -/
theorem bitsOf_getD (x n j : Nat) : (bitsOf x n).getD j false = (decide (j < n) && x.testBit (n - 1 - j)) := by
  by_cases h : j < n
  · rw [List.getD_eq_getElem?_getD, bitsOf_get x n j h]; simp [h]
  · rw [List.getD_eq_getElem?_getD, List.getElem?_eq_none (by rw [bitsOf_length]; omega)]; simp [h]
theorem isBits_size {s : ByteArray} {l : List Bool} (h : IsBits s l) : s.size = l.length := by
  have := congrArg List.length h; simpa using this
theorem isBits_get {s : ByteArray} {l : List Bool} (h : IsBits s l) (j : Nat) (hj : j < s.size) : s[j] = bitByte (l.getD j false) := by
  have hl := isBits_size h
  have e : s.data.toList[j]? = (l.map bitByte)[j]? := by rw [h]
  rw [List.getElem?_map, List.getElem?_eq_getElem (by simpa using hj), List.getElem?_eq_getElem (by omega)] at e
  simp only [Option.map_some, Option.some.injEq] at e
  rw [List.getD_eq_getElem?_getD, List.getElem?_eq_getElem (by omega)]
  exact e
theorem isBits_extract {s : ByteArray} {l : List Bool} (h : IsBits s l) (a b : Nat) : IsBits (s.extract a b) ((l.drop a).take (b - a)) := by
  unfold IsBits at *
  rw [ByteArray.data_extract]
  simp only [Array.toList_extract, List.extract_eq_take_drop, h, List.map_take, List.map_drop]
theorem isBits_append {s t : ByteArray} {l m : List Bool} (h : IsBits s l) (k : IsBits t m) : IsBits (s ++ t) (l ++ m) := by
  unfold IsBits at *
  simp [h, k]

theorem nat_of_u64 {a : Int} (h : (Lit.int .u64 a).wf = true) : ∃ x : Nat, a = x ∧ x < 2 ^ 64 := by
  have := bounds_u64 h
  exact ⟨a.toNat, by omega, by omega⟩

/-! ### pieces of a text -/
theorem slice_h {P : Program} {t : TypeId} {s : ByteArray} (ht : P.underlying t = some .string) (h : Int) (n : Nat) (hn : h = n) (h2 : n ≤ s.size) (wx : World) :
    (Instr.slice t (.string s) none (some (.int .i64 h)) none).run P wx = .ok (.string (s.extract 0 n)) wx := by
  subst hn
  exact run_slice_string_h wx t s ht .i64 n (by omega) (by omega)
theorem slice_l {P : Program} {t : TypeId} {s : ByteArray} (ht : P.underlying t = some .string) (l : Int) (n : Nat) (hn : l = n) (h2 : n ≤ s.size) (wx : World) :
    (Instr.slice t (.string s) (some (.int .i64 l)) none none).run P wx = .ok (.string (s.extract n s.size)) wx := by
  subst hn
  exact run_slice_string_l wx t s ht .i64 n (by omega) (by omega)

/-! ### results -/
theorem ret_i {k : IntKind} {a b : Int} (h : a = b) : Ending.returned (.int k a) = .returned (.int k b) := by rw [h]
theorem ret_b {a b : Bool} (h : a = b) : Ending.returned (.bool a) = .returned (.bool b) := by rw [h]
theorem ret_ix {k : IntKind} {a b : Int} {u : Value} (h : a = b) : Ending.returned (.tuple #[.int k a, u]) = .returned (.tuple #[.int k b, u]) := by rw [h]
theorem ret_bix {x y : Bool} {k : IntKind} {a b : Int} {u : Value} (g : x = y) (h : a = b) : Ending.returned (.tuple #[.bool x, .int k a, u]) = .returned (.tuple #[.bool y, .int k b, u]) := by rw [g, h]
end Go.Proofs.YtpjegpgnelfeeacDoor

set_option maxRecDepth 100000
namespace Go.Proofs.YtpjegpgnelfeeacDoor
open Go.ChangeShapes Go.WideShapes Go.ChangeAt Go.RowKit

theorem infoU8 : (Tryd.prog.info? 5).map (fun i => (i.zero, i.size, i.bytes)) = some (some (.int .u8 0), 1, 1) := by kernel_rfl

def chars (l : List Bool) : List Value := l.map fun b => .int .u8 (bitByte b).toNat
theorem bit_char (x k : Nat) : ((48 + ((x : Int) / 2 ^ k).tmod 2) % 256) = ((bitByte (x.testBit k)).toNat : Int) := by
  rw [shrN, Nat.testBit_eq_decide_div_mod_eq, Nat.shiftRight_eq_div_pow]
  generalize x / 2 ^ k = y
  rw [Int.tmod_eq_emod_of_nonneg (by omega)]
  rcases Nat.mod_two_eq_zero_or_one y with h | h
  · have : ((y:Int)) % 2 = 0 := by omega
    rw [this]; simp [bitByte, h]
  · have : ((y:Int)) % 2 = 1 := by omega
    rw [this]; simp [bitByte, h]

theorem bitsOf_step (x n k : Nat) (h : k < n) : (bitsOf x n).take (k + 1) = (bitsOf x n).take k ++ [x.testBit (n - 1 - k)] := by
  rw [List.take_add_one, bitsOf_get x n k h]; rfl

theorem text_any (x : Nat) (n : Nat) (hn : n ≤ 64) (w : World) :
    Calls Tryd.prog 12 #[.int .u64 x, .int .i64 n] w fun e w' => ∃ s, e = .returned (.string s) ∧ IsBits s (bitsOf x n) ∧ Below w.heap.size w w' := by
  obtain ⟨i0, hi, hz0, hz1, hz2⟩ := info_parts infoU8
  refine cps fun Q hQ => ?_
  go_enter Tryd.func12, Tryd.ntmps12
  go_wp2
  go_loopw [5, 6] (fun v i wr => ∃ k : Nat, k ≤ n ∧ i = .int .i64 ((n : Int) - 1 - k) ∧ wr.ownsRow w.heap.size 5 1 v k (chars ((bitsOf x n).take k)) ∧ Below w.heap.size w wr)
    (fun _ i _ => (intOf i + 1).toNat)
  case atStart => exact ⟨0, Nat.zero_le _, by simp, World.ownsRow_nil _ _ _ _, Below.refl _ _⟩
  case round =>
    obtain ⟨k, hk, rfl, hown, hb⟩ := hrel
    have hs := hb.size
    by_cases hlt : k < n
    · go_wp2_with (at_builtin; go_must (refine append1 rfl _ _ 35 rfl w.heap.size 5 i0 (.int .u8 0) 1 Tryd.underlying35 hi hz0 hz1 hz2 rfl _ _ _ hown rfl rfl rfl (by omega) (by omega) hs ?_); intro v' w1 hown1 hb1 hne1 _)
      go_roundw
      case rel => exact ⟨k + 1, by omega, by go_num, by rw [bitsOf_step x n k hlt]; simpa [chars, bit_char] using hown1, hb.trans hb1⟩
      case measure => simp [intOf]; omega
    · have hkn : k = n := by omega
      subst hkn
      have hcv := run_convert_own (P := Tryd.prog) ((bitsOf x k).map bitByte) (by simpa [chars, bitsOf_length, List.take_of_length_le, Function.comp_def] using hown) Tryd.underlying35 Tryd.underlying5 Tryd.underlying9
      go_wp2
      exact hQ.out _ _ ⟨_, rfl, by simp [IsBits], hb⟩

theorem numOf_step (l : List Bool) (k : Nat) (h : k < l.length) : numOf (l.take (k + 1)) = 2 * numOf (l.take k) + (l.getD k false).toNat := by
  rw [List.take_add_one, List.getElem?_eq_getElem h, List.getD_eq_getElem?_getD, List.getElem?_eq_getElem h]
  exact numOf_snoc _ _
theorem num_char (b : Bool) (m : Nat) : IntKind.u64.wrap (IntKind.u64.wrap (2 * (m : Int)) + (((bitByte b).toNat : Int) - 48) % 256) = (((2 * m + b.toNat) % 2^64 : Nat) : Int) := by
  rw [IntKind.wrap_u64, IntKind.wrap_u64]
  cases b <;> simp [bitByte] <;> omega
/-! ### the library's Len64, LeadingZeros64 -/
set_option maxRecDepth 100000 in
theorem len8tab_size : (Lib.len8tab.size : Int) = 256 := by
  have : Lib.len8tab.size = 256 := by decide
  omega
theorem len8_get (y : Int) (h : y.toNat < Lib.len8tab.size) : ((Lib.len8tab[y.toNat]'h).toNat : Int) = Lib.len8 y := by
  unfold Lib.len8
  rw [getElem?_pos Lib.len8tab y.toNat h]
  rfl
theorem len8_fin (k P X : Nat) (K : Int) (y : Int) (hP : P = 2 ^ k) (hK : K = k) (h0 : 0 ≤ y) (h1 : y ≤ 255) (hk : k ≤ 56) (hX : X < 2 ^ 64) (hPX : P ≤ X) (hy : y.toNat = X / P) :
    wrap64 (K + wrap64 (Lib.len8 y)) = (Lib.bitLen X : Int) := by
  rw [Lib.len8_of y h0 h1, hK]
  have l := Lib.bitLen_le8' y h0 h1
  have s := Lib.bitLen_shift k X (hP ▸ hPX) hX
  rw [← hP] at s
  rw [hy] at l ⊢
  generalize Lib.bitLen (X / P) = a at *
  generalize Lib.bitLen X = b at *
  clear hP hX hPX hy h0 h1
  unfold wrap64
  omega
theorem len8_fin0 (X : Nat) (y : Int) (h0 : 0 ≤ y) (h1 : y ≤ 255) (hy : y.toNat = X) :
    wrap64 (wrap64 (Lib.len8 y)) = (Lib.bitLen X : Int) := by
  rw [Lib.len8_of y h0 h1]
  have l := Lib.bitLen_le8' y h0 h1
  rw [hy] at l ⊢
  generalize Lib.bitLen X = b at *
  clear h0 h1 hy
  unfold wrap64
  omega
set_option maxRecDepth 100000 in
theorem len64_int (x : Int) (h0 : 0 ≤ x) (h1 : x ≤ 18446744073709551615) (w : World) :
    Calls Tryd.prog 11 #[.int .u64 x] w fun e w' => e = .returned (.int .i64 (Lib.bitLen x.toNat)) ∧ w' = w := by
  have hsz := len8tab_size
  go_enter Tryd.func11, Tryd.ntmps11
  go_wp2
  all_goals (go_ret; refine ⟨congrArg Ending.returned (congrArg (Value.int IntKind.i64) ?_), rfl⟩; rw [len8_get]; clear hsz)
  all_goals first
    | exact len8_fin 56 72057594037927936 x.toNat 56 (x / 4294967296 / 65536 / 256) rfl rfl (by omega) (by omega) (by decide) (by omega) (by omega) (by omega)
    | exact len8_fin 48 281474976710656 x.toNat 48 (x / 4294967296 / 65536) rfl rfl (by omega) (by omega) (by decide) (by omega) (by omega) (by omega)
    | exact len8_fin 40 1099511627776 x.toNat 40 (x / 4294967296 / 256) rfl rfl (by omega) (by omega) (by decide) (by omega) (by omega) (by omega)
    | exact len8_fin 32 4294967296 x.toNat 32 (x / 4294967296) rfl rfl (by omega) (by omega) (by decide) (by omega) (by omega) (by omega)
    | exact len8_fin 24 16777216 x.toNat 24 (x / 65536 / 256) rfl rfl (by omega) (by omega) (by decide) (by omega) (by omega) (by omega)
    | exact len8_fin 16 65536 x.toNat 16 (x / 65536) rfl rfl (by omega) (by omega) (by decide) (by omega) (by omega) (by omega)
    | exact len8_fin 8 256 x.toNat 8 (x / 256) rfl rfl (by omega) (by omega) (by decide) (by omega) (by omega) (by omega)
    | exact len8_fin0 x.toNat x (by omega) (by omega) rfl
theorem len64_any (x : Nat) (hx : x < 18446744073709551616) (w : World) :
    Calls Tryd.prog 11 #[.int .u64 x] w fun e w' => e = .returned (.int .i64 (Lib.bitLen x)) ∧ w' = w := by
  have := len64_int (x : Int) (by omega) (by omega) w
  simpa using this
end Go.Proofs.YtpjegpgnelfeeacDoor

namespace Go.Proofs.YtpjegpgnelfeeacDoor
open Go.ChangeShapes Go.WideShapes Go.ChangeAt Go.RowKit

/-- may there be a field? -/
def isField (at_ n : Int) : Bool := decide (0 ≤ at_ ∧ at_ ≤ 64 ∧ 0 ≤ n ∧ n ≤ 64 - at_)
/-! ### Mask -/
theorem mask_step (k : Nat) : IntKind.u64.wrap (IntKind.u64.wrap (2 * ((2^k - 1 : Nat) : Int)) + 1) = (((2^(k+1) - 1) % 2^64 : Nat) : Int) := by
  rw [IntKind.wrap_u64, IntKind.wrap_u64]
  have : 0 < 2^k := Nat.pos_of_ne_zero (by simp)
  rw [Nat.pow_succ]; omega
/-! ### Field -/
def fieldOf (x at_ n : Nat) : Nat := (x >>> at_) % 2 ^ n
def rfieldOf (x at_ n : Nat) : Nat := numOf (((bitsOf x 64).drop (64 - at_ - n)).take (64 - at_ - (64 - at_ - n)))
theorem isField_bounds {a m : Nat} (h : isField a m = true) : a + m ≤ 64 := by simp [isField] at h; omega
theorem field_eq (x a m : Nat) (h : a + m ≤ 64) : fieldOf x a m = rfieldOf x a m := by
  apply Nat.eq_of_testBit_eq
  intro i
  rw [rfieldOf, numOf_testBit, fieldOf, Nat.testBit_mod_two_pow, Nat.testBit_shiftRight]
  simp only [List.length_take, List.length_drop, bitsOf_length]
  have e1 : min (64 - a - (64 - a - m)) (64 - (64 - a - m)) = m := by omega
  rw [e1]
  by_cases hi : i < m
  · simp only [hi, decide_true, Bool.true_and]
    rw [List.getD_eq_getElem?_getD, List.getElem?_take_of_lt (by omega), List.getElem?_drop, bitsOf_get x 64 _ (by omega)]
    have e2 : 64 - 1 - (64 - a - m + (m - 1 - i)) = a + i := by omega
    rw [e2]; rfl
  · simp [hi]

/-! ### Put -/
def thereOf (at_ n : Nat) : Nat := ((2 ^ n - 1) <<< at_) % 2 ^ 64
def putOf (x at_ n v : Nat) : Nat := (x &&& (18446744073709551615 - thereOf at_ n)) ||| (((v <<< at_) % 2 ^ 64) &&& thereOf at_ n)
def rputL (x at_ n v : Nat) : List Bool := (bitsOf x 64).take (64 - at_ - n) ++ (bitsOf v n ++ ((bitsOf x 64).drop (64 - at_)).take (64 - (64 - at_)))
theorem there_bit (a m i : Nat) (h : a + m ≤ 64) : (thereOf a m).testBit i = (decide (a ≤ i) && decide (i < a + m)) := by
  rw [thereOf, Nat.testBit_mod_two_pow, Nat.testBit_shiftLeft, Nat.testBit_two_pow_sub_one]
  by_cases h1 : a ≤ i <;> by_cases h2 : i < a + m <;> simp [h1, h2] <;> omega
theorem not_bit (t i : Nat) (ht : t < 2 ^ 64) (hi : i < 64) : (18446744073709551615 - t).testBit i = !t.testBit i := by
  have := Nat.testBit_two_pow_sub_succ (x := t) (n := 64) ht i
  rw [show 18446744073709551615 - t = 2 ^ 64 - (t + 1) by omega, this]
  simp [hi]
theorem put_eq (x a m v : Nat) (hx : x < 2 ^ 64) (h : a + m ≤ 64) : putOf x a m v = numOf (rputL x a m v) := by
  have ht : thereOf a m < 2 ^ 64 := Nat.mod_lt _ (by decide)
  have hl : (rputL x a m v).length = 64 := by simp [rputL, bitsOf_length]; omega
  apply ext64
  · exact Nat.or_lt_two_pow (Nat.lt_of_le_of_lt Nat.and_le_left hx) (Nat.lt_of_le_of_lt Nat.and_le_right ht)
  · have := numOf_lt (rputL x a m v); rwa [hl] at this
  intro i hi
  rw [numOf_testBit, hl]
  simp only [putOf, Nat.testBit_or, Nat.testBit_and, not_bit _ i ht hi, there_bit a m i h, Nat.testBit_mod_two_pow, Nat.testBit_shiftLeft]
  have hg : (rputL x a m v).getD (64 - 1 - i) false = if i < a then x.testBit i else if i < a + m then v.testBit (i - a) else x.testBit i := by
    rw [rputL, List.getD_eq_getElem?_getD]
    rcases Nat.lt_or_ge i a with h1 | h1
    · rw [if_pos h1, List.getElem?_append_right (by simp [bitsOf_length]; omega), List.getElem?_append_right (by simp [bitsOf_length]; omega)]
      simp only [List.length_take, bitsOf_length]
      rw [List.getElem?_take_of_lt (by omega), List.getElem?_drop, bitsOf_get x 64 _ (by omega)]
      simp only [Option.getD_some]; congr 1; omega
    · rw [if_neg (by omega)]
      rcases Nat.lt_or_ge i (a + m) with h2 | h2
      · rw [if_pos h2, List.getElem?_append_right (by simp [bitsOf_length]; omega), List.getElem?_append_left (by simp [bitsOf_length]; omega)]
        simp only [List.length_take, bitsOf_length]
        rw [bitsOf_get v m _ (by omega)]
        simp only [Option.getD_some]; congr 1; omega
      · rw [if_neg (by omega), List.getElem?_append_left (by simp [bitsOf_length]; omega), List.getElem?_take_of_lt (by omega), bitsOf_get x 64 _ (by omega)]
        simp only [Option.getD_some]; congr 1; omega
  rw [hg]
  by_cases h1 : i < a
  · have : ¬ a ≤ i := by omega
    simp [h1, this, hi]
  · have h1' : a ≤ i := by omega
    by_cases h2 : i < a + m
    · simp [h1, h1', h2, hi]
    · simp [h1, h1', h2, hi]
end Go.Proofs.YtpjegpgnelfeeacDoor

namespace Go.Proofs.YtpjegpgnelfeeacDoor
open Go.ChangeShapes Go.WideShapes Go.ChangeAt Go.RowKit

/-! ### Extend -/
def bad (n : Int) : Bool := decide (n < 1) || decide (64 < n)
def extOf (x n : Nat) : Int := ((x % 2 ^ n : Nat) : Int) - ((x.testBit (n - 1)).toNat * 2 ^ n : Nat)
theorem numOf_bitsOf (x n : Nat) : numOf (bitsOf x n) = x % 2 ^ n := by
  apply Nat.eq_of_testBit_eq
  intro i
  rw [numOf_testBit, bitsOf_length, Nat.testBit_mod_two_pow, bitsOf_getD]
  by_cases h : i < n
  · have e : n - 1 - (n - 1 - i) = i := by omega
    have e2 : n - 1 - i < n := by omega
    simp [h, e, e2]
  · simp [h]
theorem top_bit (y m : Nat) (h : y < 2 * 2 ^ m) : y.testBit m = decide (2 ^ m ≤ y) := by
  have h0 : 0 < 2 ^ m := Nat.pos_of_ne_zero (by simp)
  rw [Nat.testBit_eq_decide_div_mod_eq]
  by_cases hc : 2 ^ m ≤ y
  · have h1 : 1 ≤ y / 2 ^ m := (Nat.le_div_iff_mul_le h0).2 (by omega)
    have h2 : y / 2 ^ m < 2 := (Nat.div_lt_iff_lt_mul h0).2 (by omega)
    have : y / 2 ^ m = 1 := by omega
    simp [hc, this]
  · rw [Nat.div_eq_of_lt (by omega)]; simp; omega
theorem ext_eq (x n : Nat) (h1 : 1 ≤ n) (h2 : n ≤ 64) : wrap64 (IntKind.u64.wrap ((x : Int) * 2 ^ (64 - n))) / 2 ^ (64 - n) = extOf x n := by
  obtain ⟨d, hd⟩ : ∃ d, d = 64 - n := ⟨_, rfl⟩
  rw [← hd]
  have e64 : 2 ^ n * 2 ^ d = 2 ^ 64 := by rw [← Nat.pow_add]; congr 1; omega
  have e63 : 2 ^ (n - 1) * 2 ^ d = 2 ^ 63 := by rw [← Nat.pow_add]; congr 1; omega
  have hnn : 2 ^ n = 2 * 2 ^ (n - 1) := by rw [← Nat.pow_succ']; congr 1; omega
  have hd0 : 0 < 2 ^ d := Nat.pos_of_ne_zero (by simp)
  have hy : x % 2 ^ n < 2 ^ n := Nat.mod_lt _ (Nat.pos_of_ne_zero (by simp))
  rw [wrapShl, Nat.shiftLeft_eq, ← e64, Nat.mul_mod_mul_right]
  have hb : x.testBit (n - 1) = decide (2 ^ (n - 1) ≤ x % 2 ^ n) := by
    rw [← top_bit _ _ (by omega), Nat.testBit_mod_two_pow]; simp; omega
  rw [extOf, hb]
  generalize x % 2 ^ n = y at *
  have ed : ((2 : Int) ^ d) = ((2 ^ d : Nat) : Int) := by simp
  rw [ed]
  have hlt : y * 2 ^ d < 2 ^ 64 := by rw [← e64]; exact Nat.mul_lt_mul_of_pos_right hy hd0
  by_cases hc : 2 ^ (n - 1) ≤ y
  · have hge : 2 ^ 63 ≤ y * 2 ^ d := by rw [← e63]; exact Nat.mul_le_mul_right _ hc
    have e : wrap64 ((y * 2 ^ d : Nat) : Int) = ((y : Int) - (2 ^ n : Nat)) * (2 ^ d : Nat) := by
      rw [Int.sub_mul, ← Int.natCast_mul, ← Int.natCast_mul, e64]; unfold wrap64; omega
    rw [e, Int.mul_ediv_cancel _ (by omega)]; simp [hc]
  · have hl : y * 2 ^ d < 2 ^ 63 := by rw [← e63]; exact Nat.mul_lt_mul_of_pos_right (by omega) hd0
    have e : wrap64 ((y * 2 ^ d : Nat) : Int) = (y : Int) * (2 ^ d : Nat) := by
      rw [← Int.natCast_mul]; unfold wrap64; omega
    rw [e, Int.mul_ediv_cancel _ (by omega)]; simp [hc]
theorem ext_char (b : Bool) (v : Int) (h : -4611686018427387904 ≤ v) (h' : v < 4611686018427387904) : wrap64 (wrap64 (2 * v) + (((bitByte b).toNat : Int) - 48) % 256) = 2 * v + b.toNat := by
  unfold wrap64
  cases b <;> simp [bitByte] <;> omega
theorem ext_bounds (l : List Bool) (k : Nat) (b : Bool) (hl : l.length ≤ k) (hk : k ≤ 63) (h1 : 1 ≤ l.length) (hb : l[0]? = some b) (hlk : l.length = k) :
    -4611686018427387904 ≤ ((numOf l : Nat) : Int) - ((b.toNat * 2 ^ k : Nat) : Int) ∧ ((numOf l : Nat) : Int) - ((b.toNat * 2 ^ k : Nat) : Int) < 4611686018427387904 := by
  match l, hb with
  | c :: t, hb =>
    simp at hb
    subst hb
    have ht := numOf_lt t
    rw [numOf_cons]
    simp only [List.length_cons] at hlk
    subst hlk
    have h2 : 2 ^ t.length ≤ 2 ^ 62 := Nat.pow_le_pow_right (by decide) (by omega)
    rw [Nat.pow_succ]
    generalize 2 ^ t.length = P at *
    cases c
    · simp only [Bool.toNat_false]; omega
    · simp only [Bool.toNat_true]; omega
def extTill (x n k : Nat) : Int := ((numOf ((bitsOf x n).take k) : Nat) : Int) - ((x.testBit (n - 1)).toNat * 2 ^ k : Nat)
theorem rext_step (x n k : Nat) (h1 : 1 ≤ k) (hk : k < n) (h2 : n ≤ 64) :
    wrap64 (wrap64 (2 * extTill x n k) + (((bitByte ((bitsOf x n).getD k false)).toNat : Int) - 48) % 256) = extTill x n (k + 1) := by
  have hl : ((bitsOf x n).take k).length = k := by simp [bitsOf_length]; omega
  have hb := ext_bounds ((bitsOf x n).take k) k (x.testBit (n - 1)) (by omega) (by omega) (by omega) (by rw [List.getElem?_take_of_lt (by omega), bitsOf_get x n 0 (by omega)]; rfl) hl
  rw [extTill, ext_char _ _ hb.1 hb.2, extTill, numOf_step _ k (by rw [bitsOf_length]; omega)]
  rw [Nat.pow_succ, ← Nat.mul_assoc]
  omega
theorem extTill_one (x n : Nat) (h1 : 1 ≤ n) : extTill x n 1 = -((x.testBit (n - 1)).toNat : Int) := by
  rw [extTill, numOf_step _ 0 (by rw [bitsOf_length]; omega), bitsOf_getD]
  have : 0 < n := by omega
  simp [this, numOf]
  cases x.testBit (n - 1) <;> simp
theorem extTill_all (x n : Nat) : extTill x n n = extOf x n := by
  rw [extTill, extOf, List.take_of_length_le (by rw [bitsOf_length]; omega), numOf_bitsOf]
end Go.Proofs.YtpjegpgnelfeeacDoor

namespace Go.Proofs.YtpjegpgnelfeeacDoor
open Go.ChangeShapes Go.WideShapes Go.ChangeAt Go.RowKit

/-! ### Show -/
theorem lshow_no (x : Nat) (n : Int) (hn : n < 0 ∨ 64 < n) (w : World) :
    Calls Tryd.prog 10 #[.int .u64 x, .int .i64 n] w fun e w' => e = .returned (.tuple #[.string ⟨#[]⟩, .iface 33 (.int .i64 1)]) ∧ w' = w := by
  refine cps fun Q hQ => ?_
  rcases hn with hn | hn
  · go_enter Tryd.func10, Tryd.ntmps10
    go_wp2
    refine hQ.out _ _ ⟨rfl, rfl⟩
  · have : ¬ n < 0 := by omega
    go_enter Tryd.func10, Tryd.ntmps10
    go_wp2
    refine hQ.out _ _ ⟨rfl, rfl⟩
def showCells (x n k : Nat) : List Value := (List.range n).map fun j => if n - 1 - j < k then .int .u8 (bitByte (x.testBit (n - 1 - j))).toNat else .int .u8 0
theorem showCells_zero (x n : Nat) : showCells x n 0 = (madeCells (Value.int .u8 0).cells (n * 1)).toList := by
  apply List.ext_getElem?
  intro j
  by_cases hn : j < n
  · simp [showCells, madeCells, Value.cells, hn, Nat.mod_one]
  · simp [showCells, madeCells, Value.cells, hn]
theorem showCells_step (x n k : Nat) (h : k < n) : (showCells x n k).set (n - 1 - k) (.int .u8 (bitByte (x.testBit k)).toNat) = showCells x n (k + 1) := by
  apply List.ext_getElem?
  intro j
  rw [List.getElem?_set]
  by_cases hj : n - 1 - k = j
  · subst hj
    have e : n - 1 - (n - 1 - k) = k := by omega
    have e1 : n - 1 - k < n := by omega
    rw [if_pos rfl, if_pos (by simpa [showCells] using e1)]
    simp only [showCells, List.getElem?_map, List.getElem?_range e1, Option.map_some, e]
    simp
  · rw [if_neg hj]
    by_cases hn : j < n
    · simp only [showCells, List.getElem?_map, List.getElem?_range hn, Option.map_some]
      have : (n - 1 - j < k) ↔ (n - 1 - j < k + 1) := by omega
      simp [this]
    · simp [showCells, hn]
theorem showCells_all (x n : Nat) : showCells x n n = ((bitsOf x n).map bitByte).map fun b : UInt8 => Value.int .u8 b.toNat := by
  simp only [showCells, bitsOf, List.map_map]
  apply List.map_congr_left
  intro j hj
  simp at hj
  have : n - 1 - j < n := by omega
  simp [this]
theorem show_char (x k : Nat) (hx : x < 2 ^ 64) : ((48 + bits BinOp.and IntKind.u64 ((x : Int) / 2 ^ k) 1) % 256) = ((bitByte (x.testBit k)).toNat : Int) := by
  rw [shrN]
  have e := u64_and_nat (x >>> k) 1 (Nat.lt_of_le_of_lt (Nat.shiftRight_le _ _) hx) (by decide)
  rw [show ((1 : Nat) : Int) = 1 from rfl] at e
  rw [e, nat_mask1, Nat.testBit_eq_decide_div_mod_eq, Nat.shiftRight_eq_div_pow]
  generalize x / 2 ^ k = y
  rcases Nat.mod_two_eq_zero_or_one y with h | h <;> rw [h] <;> simp [bitByte]
theorem lshow_ok (x n : Nat) (hx : x < 2 ^ 64) (h2 : n ≤ 64) (w : World) :
    Calls Tryd.prog 10 #[.int .u64 x, .int .i64 n] w fun e w' => ∃ s, e = .returned (.tuple #[.string s, .nilIface]) ∧ IsBits s (bitsOf x n) ∧ Below w.heap.size w w' := by
  obtain ⟨i0, hi, hz0, hz1, hz2⟩ := info_parts infoU8
  refine cps fun Q hQ => ?_
  go_enter Tryd.func10, Tryd.ntmps10
  go_wp2_with (at_make; go_must (refine wpList_make_full _ rfl _ _ 35 rfl w.heap.size 5 i0 (.int .u8 0) 1 Tryd.underlying35 hi hz0 hz1 .i64 .i64 _ _ n rfl rfl (by omega) (by omega) (by rw [hz2]; omega) (by unfold maxLen; omega) (Nat.le_refl _) ?_); intro w1 hown hg)
  rw [← showCells_zero x n] at hown
  have hb0 := (Below.refl w.heap.size w).grown hg (Nat.le_refl _) (fun k hk => by cases hk)
  have hs0 : w.heap.size < w1.heap.size := by have := hown.lt w.heap.size rfl; omega
  go_loopw [7, 19] (fun _ i wr => ∃ k : Nat, k ≤ n ∧ i = .int .i64 k ∧ wr.ownsRow w.heap.size 5 1 (.slice (some ⟨w.heap.size, 0, none⟩) n n) n (showCells x n k) ∧ Below w.heap.size w wr)
    (fun _ i _ => n - (intOf i).toNat)
  case atStart => exact ⟨0, Nat.zero_le _, rfl, hown, hb0⟩
  case round =>
    obtain ⟨k, hk, rfl, hownr, hb⟩ := hrel
    by_cases hlt : k < n
    · have hfr := hownr.frozenAt (n - 1 - k)
      have hce : wr.cell? ⟨w.heap.size, n - 1 - k, none⟩ = some ((showCells x n k)[n - 1 - k]?.getD undef) := by
        rw [hownr.cellAt (n - 1 - k) (by omega)]
        have : n - 1 - k < (showCells x n k).length := by simp [showCells]; omega
        rw [List.getElem?_eq_getElem this]; rfl
      have hst := hownr.stored (n - 1 - k) (.int .u8 (bitByte (x.testBit k)).toNat)
      rw [showCells_step x n k hlt] at hst
      have hst' : Hid _ := hst
      clear hst hownr hown
      go_wp2
      go_roundw
      case rel =>
        refine ⟨k + 1, by omega, by go_num, ?_⟩
        rw [show_char x k hx]
        exact ⟨hst'.out.1, hb.setCell (Nat.le_refl _) _⟩
      case measure => simp [intOf]; omega
    · have hkn : k = n := by omega
      subst hkn
      have hcv := run_convert_own (P := Tryd.prog) ((bitsOf x k).map bitByte) (by rw [← showCells_all]; exact hownr) Tryd.underlying35 Tryd.underlying5 Tryd.underlying9
      go_wp2
      exact hQ.out _ _ ⟨_, rfl, by simp [IsBits], hb⟩

/-! ### Run -/
/-- a run: the highest bit of the lowest n, and how many like it -/
structure IsRun (x n : Nat) (b : Bool) (k : Nat) : Prop where
  bit : b = x.testBit (n - 1)
  low : 1 ≤ k
  high : k ≤ n
  same : ∀ j, j < k → x.testBit (n - 1 - j) = b
  ends : k < n → x.testBit (n - 1 - k) ≠ b
theorem IsRun.one {x n : Nat} {b b' : Bool} {k k' : Nat} (h : IsRun x n b k) (h' : IsRun x n b' k') : b = b' ∧ k = k' := by
  have e : b = b' := by rw [h.bit, h'.bit]
  subst e
  refine ⟨rfl, ?_⟩
  rcases Nat.lt_trichotomy k k' with c | c | c
  · exact absurd (h'.same k c) (h.ends (by have := h'.high; omega))
  · exact c
  · exact absurd (h.same k' c) (h'.ends (by have := h.high; omega))
theorem lrun_no (x : Nat) (n : Int) (hn : n < 1 ∨ 64 < n) (w : World) :
    Calls Tryd.prog 9 #[.int .u64 x, .int .i64 n] w fun e w' => e = .returned (.tuple #[.bool false, .int .i64 0, .iface 33 (.int .i64 1)]) ∧ w' = w := by
  refine cps fun Q hQ => ?_
  rcases hn with hn | hn
  · go_enter Tryd.func9, Tryd.ntmps9
    go_wp2
    go_ret3
    refine hQ.out _ _ ⟨rfl, rfl⟩
  · have : ¬ n < 1 := by omega
    go_enter Tryd.func9, Tryd.ntmps9
    go_wp2
    go_ret3
    refine hQ.out _ _ ⟨rfl, rfl⟩
/-- how many bits a number has -/
structure IsLen (x L : Nat) : Prop where
  le : L ≤ 64
  lt : x < 2 ^ L
  top : 0 < L → x.testBit (L - 1) = true
theorem bitLen_zero : Lib.bitLen 0 = 0 := by decide
theorem isLen_bitLen (x : Nat) (hx : x < 2 ^ 64) : IsLen x (Lib.bitLen x) := by
  by_cases h0 : x = 0
  · subst h0
    rw [bitLen_zero]
    exact ⟨by omega, by simp, fun h => absurd h (by omega)⟩
  · have hl : 2 ^ x.log2 ≤ x := Nat.log2_self_le h0
    have hu : x < 2 ^ (x.log2 + 1) := Nat.lt_log2_self
    have h64 : x.log2 < 64 := (Nat.log2_lt h0).2 hx
    have e : Lib.bitLen x = x.log2 + 1 := by
      rw [Lib.bitLen_shift x.log2 x hl hx]
      have h1 : x / 2 ^ x.log2 = 1 := by
        have hp : 0 < 2 ^ x.log2 := Nat.pos_of_ne_zero (by simp)
        have a : 1 ≤ x / 2 ^ x.log2 := (Nat.le_div_iff_mul_le hp).2 (by omega)
        have b : x / 2 ^ x.log2 < 2 := (Nat.div_lt_iff_lt_mul hp).2 (by rw [Nat.mul_comm, ← Nat.pow_succ]; exact hu)
        omega
      rw [h1, show Lib.bitLen 1 = 1 by decide]
    rw [e]
    refine ⟨by omega, hu, fun _ => ?_⟩
    rw [Nat.add_sub_cancel, top_bit x x.log2 (by rw [← Nat.pow_succ']; exact hu)]
    simpa using hl
theorem lz_any (x : Nat) (hx : x < 2 ^ 64) (w : World) :
    Calls Tryd.prog 14 #[.int .u64 x] w fun e w' => ∃ L : Nat, e = .returned (.int .i64 (64 - (L : Int))) ∧ IsLen x L ∧ w' = w := by
  have hl : Lib.bitLen x ≤ 64 := Lib.bitLen_le x 64 (by decide) hx
  refine cps fun Q hQ => ?_
  go_enter Tryd.func14, Tryd.ntmps14
  go_wp2_with (go_at_call 11; refine (len64_any x hx _).mono ?_; rintro e w' ⟨rfl, rfl⟩)
  exact hQ.out _ _ ⟨_, rfl, isLen_bitLen x hx, rfl⟩
theorem xorMax (H : Nat) (h : H < 2 ^ 64) : bits BinOp.xor IntKind.u64 IntKind.u64.max (H : Int) = ((18446744073709551615 - H : Nat) : Int) := by
  have e : IntKind.u64.max = ((18446744073709551615 : Nat) : Int) := by decide
  rw [e, u64_xor_nat _ _ (by decide) h]
  congr 1
  apply ext64 (Nat.xor_lt_two_pow (by decide) h) (by omega)
  intro i hi
  rw [Nat.testBit_xor, not_bit H i h hi]
  have : (18446744073709551615 : Nat).testBit i = true := by
    rw [show (18446744073709551615 : Nat) = 2 ^ 64 - 1 from rfl, Nat.testBit_two_pow_sub_one]; simpa using hi
  rw [this]; simp
theorem head_bit (x n j : Nat) (hn : n ≤ 64) (hj : j < 64) : ((x <<< (64 - n)) % 2 ^ 64).testBit (63 - j) = (decide (j < n) && x.testBit (n - 1 - j)) := by
  rw [Nat.testBit_mod_two_pow, Nat.testBit_shiftLeft]
  by_cases h : j < n
  · have e : 63 - j - (64 - n) = n - 1 - j := by omega
    have e1 : 63 - j < 64 := by omega
    have e2 : 63 - j ≥ 64 - n := by omega
    simp [h, e, e1, e2]
  · have e2 : ¬ 63 - j ≥ 64 - n := by omega
    simp [h, e2]
/-- the run, off the length of what was shifted up (and turned, where it is of ones) -/
theorem isRun_of (x n H L : Nat) (b : Bool) (h1 : 1 ≤ n) (h2 : n ≤ 64) (hb : b = x.testBit (n - 1)) (hH : ∀ j, j < 64 → H.testBit (63 - j) = ((decide (j < n) && x.testBit (n - 1 - j)) ^^ b)) (hL : IsLen H L) :
    ∃ k : Nat, ((64 - (L : Int)) ≤ n → 64 - (L : Int) = k) ∧ ((n : Int) < 64 - (L : Int) → n = k) ∧ IsRun x n b k := by
  have hz : ∀ j, j < 64 - L → H.testBit (63 - j) = false := fun j hj => Nat.testBit_lt_two_pow (Nat.lt_of_lt_of_le hL.lt (Nat.pow_le_pow_right (by decide) (by omega)))
  have hlow : 1 ≤ 64 - L := by
    rcases Nat.lt_or_ge L 64 with h | h
    · omega
    · have hl := hL.le
      have : L = 64 := by omega
      have ht := hL.top (by omega)
      rw [this] at ht
      have h0 := hH 0 (by omega)
      rw [show 63 - 0 = 64 - 1 from rfl, ht] at h0
      have hn : 0 < n := h1
      simp [hn, ← hb] at h0
  have same : ∀ j, j < n → j < 64 - L → x.testBit (n - 1 - j) = b := by
    intro j hj hj2
    have e := hH j (by omega)
    rw [hz j hj2] at e
    simp [hj] at e
    cases b <;> simp_all
  rcases Nat.lt_or_ge (64 - L) n with h | h
  · refine ⟨64 - L, by omega, by omega, hb, hlow, by omega, fun j hj => same j (by omega) hj, fun _ => ?_⟩
    have ht := hL.top (by omega)
    have e := hH (64 - L) (by omega)
    rw [show 63 - (64 - L) = L - 1 by omega, ht] at e
    simp [h] at e
    cases b <;> simp_all
  · refine ⟨n, by omega, fun _ => rfl, hb, h1, Nat.le_refl _, fun j hj => same j hj (by omega), fun h => absurd h (by omega)⟩
theorem lrun_ok (x n : Nat) (h1 : 1 ≤ n) (h2 : n ≤ 64) (w : World) :
    Calls Tryd.prog 9 #[.int .u64 x, .int .i64 n] w fun e w' => ∃ b k, e = .returned (.tuple #[.bool b, .int .i64 (k : Nat), .nilIface]) ∧ IsRun x n b k ∧ w' = w := by
  obtain ⟨H, hH⟩ : ∃ H, H = (x <<< (64 - n)) % 2 ^ 64 := ⟨_, rfl⟩
  have hlt : H < 2 ^ 64 := by rw [hH]; exact Nat.mod_lt _ (by decide)
  have hw : IntKind.u64.wrap ((x : Int) * 2 ^ (64 - n)) = (H : Int) := by rw [hH]; exact wrapShl x (64 - n)
  have hbits : Hid (∀ j, j < 64 → H.testBit (63 - j) = (decide (j < n) && x.testBit (n - 1 - j))) := fun j hj => by rw [hH]; exact head_bit x n j h2 hj
  obtain ⟨C, hC⟩ : ∃ C, C = 18446744073709551615 - H := ⟨_, rfl⟩
  have hCl : C < 2 ^ 64 := by omega
  have hxor := xorMax H hlt
  rw [← hC] at hxor
  have htop : Hid (x.testBit (n - 1) = decide (2 ^ 63 ≤ H)) := by
    have e := hbits.out 0 (by omega)
    have hn : 0 < n := h1
    rw [show 63 - 0 = 63 from rfl, top_bit H 63 (by omega)] at e
    exact (show x.testBit (n - 1) = _ by simpa [hn] using e.symm)
  have htop' : (((H : Int) / 9223372036854775808 == 1) = decide (2 ^ 63 ≤ H)) := by
    rw [Bool.eq_iff_iff]; simp; omega
  have hbC : Hid (∀ j, j < 64 → C.testBit (63 - j) = !H.testBit (63 - j)) := fun j hj => by rw [hC]; exact not_bit H _ hlt (by omega)
  clear hH hC
  have HL : Hid (H < 2 ^ 64) := hlt
  have CL : Hid (C < 2 ^ 64) := hCl
  clear hlt hCl
  refine cps fun Q hQ => ?_
  cases hc : decide (2 ^ 63 ≤ H)
  · rw [hc] at htop' htop
    clear hc
    go_enter Tryd.func9, Tryd.ntmps9
    go_wp2_with (go_at_call 14; refine (lz_any H HL.out _).mono ?_; rintro e w' ⟨L, rfl, hL, rfl⟩)
    all_goals
      obtain ⟨k, hk1, hk2, hr⟩ := isRun_of x n H L false h1 h2 htop.out.symm (fun j hj => by rw [hbits.out j hj]; simp) hL
      go_ret3
      exact hQ.out _ _ ⟨false, k, ret_bix rfl (by omega), hr, rfl⟩
  · rw [hc] at htop' htop
    clear hc
    go_enter Tryd.func9, Tryd.ntmps9
    go_wp2_with (go_at_call 14; refine (lz_any C CL.out _).mono ?_; rintro e w' ⟨L, rfl, hL, rfl⟩)
    all_goals
      obtain ⟨k, hk1, hk2, hr⟩ := isRun_of x n C L true h1 h2 htop.out.symm (fun j hj => by rw [hbC.out j hj, hbits.out j hj]; simp) hL
      go_ret3
      exact hQ.out _ _ ⟨true, k, ret_bix rfl (by omega), hr, rfl⟩
end Go.Proofs.YtpjegpgnelfeeacDoor

namespace Go.Proofs.YtpjegpgnelfeeacDoor
open Go.ChangeShapes Go.WideShapes Go.ChangeAt Go.RowKit

/-! ### which of api's Codes an error is -/
def codeOf (c : Int) : Int := if 1 ≤ c ∧ c ≤ 24 then c else -1
end Go.Proofs.YtpjegpgnelfeeacDoor

namespace Go.Proofs.YtpjegpgnelfeeacDoor
open Go.ChangeShapes Go.WideShapes Go.ChangeAt Go.RowKit

theorem isRun14 : IsRun 14 4 true 3 := ⟨by decide, by omega, by omega, by intro j hj; match j, hj with | 0, _ => decide | 1, _ => decide | 2, _ => decide, by decide⟩
theorem isBits_eq {s : ByteArray} {l : List Bool} (h : IsBits s l) : s = ⟨(l.map bitByte).toArray⟩ := by
  cases s with
  | mk d => unfold IsBits at h; congr 1; exact Array.ext' (by simpa using h)
theorem shown5 {s : ByteArray} (h : IsBits s (bitsOf 5 4)) : s = ⟨#[48, 49, 48, 49]⟩ := by
  rw [isBits_eq h]; decide
/-- the head of all laws of this layer -/
theorem up_any (w : World) : Calls Tryd.prog 4 #[] w fun e w' => e = .returned (.bool true) ∧ Below w.heap.size w w' := by
  refine cps fun Q hQ => ?_
  go_enter Tryd.func4, Tryd.ntmps4
  go_wp2_with first
    | (go_at_call 9; go_must (refine (lrun_ok 14 4 (by omega) (by omega) _).mono ?_); rintro e w' ⟨b, k, rfl, hr, rfl⟩; obtain ⟨e1, e2⟩ := hr.one isRun14; subst e1 e2)
    | (go_at_call 10; go_must (refine (lshow_ok 5 4 (by omega) (by omega) _).mono ?_); rintro e w1 ⟨s, rfl, hs, hb⟩; have hs' := shown5 hs; subst hs')
  exact hQ.out _ _ ⟨rfl, hb⟩
end Go.Proofs.YtpjegpgnelfeeacDoor

namespace Go.Proofs.YtpjegpgnelfeeacDoor
open Go.ChangeShapes Go.WideShapes Go.ChangeAt Go.RowKit
set_option linter.unusedVariables false

/-! ### Len -/
theorem IsLen.one {x L M : Nat} (h : IsLen x L) (k : IsLen x M) : L = M := by
  rcases Nat.lt_trichotomy L M with c | c | c
  · have := k.top (by omega)
    rw [Nat.testBit_lt_two_pow (Nat.lt_of_lt_of_le h.lt (Nat.pow_le_pow_right (by decide) (by omega)))] at this
    cases this
  · exact c
  · have := h.top (by omega)
    rw [Nat.testBit_lt_two_pow (Nat.lt_of_lt_of_le k.lt (Nat.pow_le_pow_right (by decide) (by omega)))] at this
    cases this
theorem lt_of_noBits (x L : Nat) (hx : x < 2 ^ 64) (h : ∀ i, L ≤ i → i < 64 → x.testBit i = false) : x < 2 ^ L := by
  apply Nat.lt_pow_two_of_testBit
  intro i hi
  by_cases h64 : i < 64
  · exact h i hi h64
  · exact Nat.testBit_lt_two_pow (Nat.lt_of_lt_of_le hx (Nat.pow_le_pow_right (by decide) (by omega)))
theorem llen_any (x : Nat) (hx : x < 2 ^ 64) (w : World) :
    Calls Tryd.prog 5 #[.int .u64 x] w fun e w' => ∃ L : Nat, e = .returned (.int .i64 (L : Int)) ∧ IsLen x L ∧ w' = w := by
  refine cps fun Q hQ => ?_
  go_enter Tryd.func5, Tryd.ntmps5
  go_wp2_with (go_at_call 11; refine (len64_any x hx _).mono ?_; rintro e w' ⟨rfl, rfl⟩)
  exact hQ.out _ _ ⟨_, rfl, isLen_bitLen x hx, rfl⟩
theorem rlen_any (x : Nat) (hx : x < 2 ^ 64) (w : World) :
    Calls Tryd.prog 6 #[.int .u64 x] w fun e w' => ∃ L : Nat, e = .returned (.int .i64 (L : Int)) ∧ IsLen x L ∧ Below w.heap.size w w' := by
  have HX : Hid (x < 2 ^ 64) := hx
  clear hx
  refine cps fun Q hQ => ?_
  go_enter Tryd.func6, Tryd.ntmps6
  go_wp2_with (go_at_call 12; refine (text_any x 64 (by omega) _).mono ?_; rintro e w1 ⟨s, rfl, hs, hb⟩; have hsz := isBits_size hs; rw [bitsOf_length] at hsz)
  have hget : Hid (∀ j (hj : j < 64), ((((s[j]'(by omega)).toNat : Int) == 49)) = x.testBit (63 - j)) := fun j hj => by
    rw [isBits_get hs j (by omega), bitsOf_getD]
    simp only [hj, decide_true, Bool.true_and]
    cases x.testBit (64 - 1 - j) <;> rfl
  go_loop [4] (fun i => ∃ k : Nat, k ≤ 64 ∧ i = .int .i64 k ∧ Hid (∀ j, j < k → x.testBit (63 - j) = false)) (fun i => 64 - (intOf i).toNat)
  case atStart => exact ⟨0, Nat.zero_le _, rfl, fun j hj => absurd hj (by omega)⟩
  case round =>
    obtain ⟨k, hk, rfl, hz⟩ := hrel
    by_cases hlt : k < 64
    · have hgk := hget.out k hlt
      have HG : Hid _ := hgk
      clear hgk
      cases hbit : x.testBit (63 - k) with
      | true =>
        rw [hbit] at HG
        have hg := HG.out
        have HB : Hid _ := hbit
        clear hbit
        go_wp2
        refine hQ.out _ _ ⟨64 - k, ret_i (by omega), ⟨by omega, lt_of_noBits x _ HX.out (fun i hi h64 => by have := hz.out (63 - i) (by omega); rwa [show 63 - (63 - i) = i by omega] at this), fun _ => by rw [show 64 - k - 1 = 63 - k by omega]; exact HB.out⟩, hb⟩
      | false =>
        rw [hbit] at HG
        have hg := HG.out
        have HB : Hid _ := hbit
        clear hbit
        go_wp2
        go_round
        case rel => exact ⟨k + 1, by omega, by go_num, fun j hj => by rcases Nat.lt_succ_iff_lt_or_eq.1 hj with c | c; exact hz.out j c; rw [c]; exact HB.out⟩
        case measure => simp [intOf]; omega
    · have hk64 : k = 64 := by omega
      subst hk64
      go_wp2
      exact hQ.out _ _ ⟨0, rfl, ⟨by omega, lt_of_noBits x _ HX.out (fun i _ h64 => by have := hz.out (63 - i) (by omega); rwa [show 63 - (63 - i) = i by omega] at this), fun h => absurd h (by omega)⟩, hb⟩

/-! ### Trail -/
/-- how many noughts stand below the lowest 1 (64 of nought) -/
structure IsTrail (x t : Nat) : Prop where
  le : t ≤ 64
  low : ∀ j, j < t → x.testBit j = false
  top : t < 64 → x.testBit t = true
theorem IsTrail.one {x t u : Nat} (h : IsTrail x t) (k : IsTrail x u) : t = u := by
  rcases Nat.lt_trichotomy t u with c | c | c
  · have := k.low t c; rw [h.top (by have := k.le; omega)] at this; cases this
  · exact c
  · have := h.low u c; rw [k.top (by have := h.le; omega)] at this; cases this
theorem rtrail_any (x : Nat) (w : World) :
    Calls Tryd.prog 8 #[.int .u64 x] w fun e w' => ∃ t : Nat, e = .returned (.int .i64 (t : Int)) ∧ IsTrail x t ∧ Below w.heap.size w w' := by
  refine cps fun Q hQ => ?_
  go_enter Tryd.func8, Tryd.ntmps8
  go_wp2_with (go_at_call 12; refine (text_any x 64 (by omega) _).mono ?_; rintro e w1 ⟨s, rfl, hs, hb⟩; have hsz := isBits_size hs; rw [bitsOf_length] at hsz)
  have hget : Hid (∀ j (hj : j < 64), ((((s[63 - j]'(by omega)).toNat : Int) == 48)) = !x.testBit j) := fun j hj => by
    rw [isBits_get hs (63 - j) (by omega), bitsOf_getD, show 64 - 1 - (63 - j) = j by omega]
    have h63 : 63 - j < 64 := by omega
    simp only [h63, decide_true, Bool.true_and]
    cases x.testBit j <;> rfl
  go_loopw [4] (fun i wr => ∃ k : Nat, k ≤ 64 ∧ i = .int .i64 k ∧ Hid (∀ j, j < k → x.testBit j = false) ∧ Below w.heap.size w wr) (fun i _ => 64 - (intOf i).toNat)
  case atStart => exact ⟨0, Nat.zero_le _, rfl, fun j hj => absurd hj (by omega), hb⟩
  case round =>
    obtain ⟨k, hk, rfl, hz, hbr⟩ := hrel
    by_cases hlt : k < 64
    · have HG : Hid _ := hget.out k hlt
      cases hbit : x.testBit k with
      | true =>
        rw [hbit] at HG
        have hg := HG.out
        have HB : Hid _ := hbit
        clear hbit
        go_wp2
        refine hQ.out _ _ ⟨k, rfl, ⟨hk, hz.out, fun _ => HB.out⟩, hbr⟩
      | false =>
        rw [hbit] at HG
        have hg := HG.out
        have HB : Hid _ := hbit
        clear hbit
        go_wp2
        go_roundw
        case rel => exact ⟨k + 1, by omega, by go_num, fun j hj => (by rcases Nat.lt_succ_iff_lt_or_eq.1 hj with c | c; exact hz.out j c; rw [c]; exact HB.out), hbr⟩
        case measure => simp [intOf]; omega
    · have hk64 : k = 64 := by omega
      subst hk64
      go_wp2
      refine hQ.out _ _ ⟨64, rfl, ⟨by omega, hz.out, fun h => absurd h (by omega)⟩, hbr⟩
theorem exists_odd : ∀ x : Nat, x ≠ 0 → ∃ t m, x = 2 ^ t * (2 * m + 1) := by
  intro x
  induction x using Nat.strongRecOn with
  | ind x ih =>
    intro h
    rcases Nat.mod_two_eq_zero_or_one x with e | e
    · obtain ⟨t, m, hm⟩ := ih (x / 2) (by omega) (by omega)
      exact ⟨t + 1, m, by rw [Nat.pow_succ, Nat.mul_comm (2 ^ t) 2, Nat.mul_assoc, ← hm]; omega⟩
    · exact ⟨0, x / 2, by rw [Nat.pow_zero, Nat.one_mul]; omega⟩
theorem odd_trail (t m : Nat) (h : 2 ^ t * (2 * m + 1) < 2 ^ 64) : IsTrail (2 ^ t * (2 * m + 1)) t ∧ t < 64 := by
  have hp : 0 < 2 ^ t := Nat.pos_of_ne_zero (by simp)
  have ht : t < 64 := by
    rcases Nat.lt_or_ge t 64 with c | c
    · exact c
    · have : 2 ^ 64 ≤ 2 ^ t := Nat.pow_le_pow_right (by decide) c
      have : 2 ^ t * 1 ≤ 2 ^ t * (2 * m + 1) := Nat.mul_le_mul_left _ (by omega)
      omega
  refine ⟨⟨by omega, fun j hj => ?_, fun _ => ?_⟩, ht⟩
  · have e := Nat.testBit_two_pow_mul_add (2 * m + 1) hp j
    rw [Nat.add_zero, if_pos hj] at e
    rw [e]; simp
  · have e := Nat.testBit_two_pow_mul_add (2 * m + 1) hp t
    rw [Nat.add_zero, if_neg (by omega), Nat.sub_self] at e
    rw [e, Nat.testBit_zero]
    simp
theorem low_and (t m : Nat) (h : 2 ^ t * (2 * m + 1) < 2 ^ 64) : (2 ^ t * (2 * m + 1)) &&& (2 ^ 64 - 2 ^ t * (2 * m + 1)) = 2 ^ t := by
  obtain ⟨ht, h64⟩ := odd_trail t m h
  have hp : 0 < 2 ^ t := Nat.pos_of_ne_zero (by simp)
  obtain ⟨x, hx⟩ : ∃ x, x = 2 ^ t * (2 * m + 1) := ⟨_, rfl⟩
  rw [← hx] at h ht ⊢
  have hx0 : 0 < x := by rw [hx]; exact Nat.mul_pos hp (by omega)
  have hpred : x - 1 = 2 ^ t * (2 * m) + (2 ^ t - 1) := by rw [hx, Nat.mul_add]; omega
  have hpt : 2 ^ t - 1 < 2 ^ t := by omega
  have hneg : 2 ^ 64 - x = 2 ^ 64 - ((x - 1) + 1) := by omega
  apply Nat.eq_of_testBit_eq
  intro i
  rw [Nat.testBit_and, Nat.testBit_two_pow, hneg, Nat.testBit_two_pow_sub_succ (by omega), hpred, Nat.testBit_two_pow_mul_add _ hpt]
  rcases Nat.lt_trichotomy i t with c | c | c
  · rw [ht.low i c]; simp; omega
  · subst c
    rw [ht.top h64]; simp [h64]
  · have e := Nat.testBit_two_pow_mul_add (2 * m + 1) hp i
    rw [Nat.add_zero, ← hx, if_neg (by omega)] at e
    rw [e, if_neg (by omega)]
    obtain ⟨j, hj⟩ : ∃ j, i - t = j + 1 := ⟨i - t - 1, by omega⟩
    rw [hj, Nat.testBit_succ, Nat.testBit_succ, show (2 * m + 1) / 2 = 2 * m / 2 by omega]
    have : ¬ t = i := by omega
    cases (2 * m / 2).testBit j <;> simp [this]
def bruijn : List Int := [0, 1, 56, 2, 57, 49, 28, 3, 61, 58, 42, 50, 38, 29, 17, 4, 62, 47, 59, 36, 45, 43, 51, 22, 53, 39, 33, 30, 24, 18, 12, 5, 63, 55, 48, 27, 60, 41, 37, 16, 46, 35, 44, 21, 52, 32, 23, 11, 54, 26, 40, 15, 34, 20, 31, 10, 25, 14, 19, 9, 13, 8, 7, 6]
theorem bruijn_at : ∀ t : Fin 64, bruijn.getD ((2 ^ t.val * 285870213051353865) % 18446744073709551616 / 288230376151711744) 99 = t.val := by decide +kernel
theorem negN (x : Nat) (h0 : 0 < x) (h : x < 2 ^ 64) : IntKind.u64.wrap (-(x : Int)) = ((2 ^ 64 - x : Nat) : Int) := by rw [IntKind.wrap_u64]; omega
theorem ltz_any (x : Nat) (hx : x < 2 ^ 64) (w : World) (ht : ∀ i, i < 64 → w.cell? ⟨0, i, none⟩ = some (.int .u8 (bruijn.getD i 99))) :
    Calls Tryd.prog 13 #[.int .u64 x] w fun e w' => ∃ t : Nat, e = .returned (.int .i64 (t : Int)) ∧ IsTrail x t ∧ w' = w := by
  by_cases h0 : x = 0
  · subst h0
    refine cps fun Q hQ => ?_
    go_enter Tryd.func13, Tryd.ntmps13
    go_wp2
    exact hQ.out _ _ ⟨64, rfl, ⟨by omega, by simp, fun h => absurd h (by omega)⟩, rfl⟩
  · obtain ⟨t, m, hm⟩ := exists_odd x h0
    have hx' := hx
    rw [hm] at hx'
    obtain ⟨htr, h64⟩ := odd_trail t m hx'
    have hand := low_and t m hx'
    rw [← hm] at htr hand
    have e1 := negN x (by omega) hx
    have e2 : bits BinOp.and IntKind.u64 (x : Int) ((2 ^ 64 - x : Nat) : Int) = ((2 ^ t : Nat) : Int) := by rw [u64_and_nat _ _ hx (by omega), hand]
    have hb := bruijn_at ⟨t, h64⟩
    simp only at hb
    obtain ⟨P2, hP2⟩ : ∃ P2, P2 = (2 ^ t) := ⟨_, rfl⟩
    rw [← hP2] at hb e2
    obtain ⟨I, hI⟩ : ∃ I, I = (P2 * 285870213051353865) % 18446744073709551616 / 288230376151711744 := ⟨_, rfl⟩
    have hIl : I < 64 := by rw [hI]; omega
    have e3 : IntKind.u64.wrap ((P2 : Int) * 285870213051353865) / 288230376151711744 = (I : Int) := by rw [IntKind.wrap_u64, hI, Int.natCast_ediv, Int.natCast_emod, Int.natCast_mul]; rfl
    rw [← hI] at hb
    have hc := ht I hIl
    rw [hb] at hc
    have hne : ((x : Int) == 0) = false := by simp; omega
    obtain ⟨N, hN⟩ : ∃ N, N = (2 ^ 64 - x) := ⟨_, rfl⟩
    rw [← hN] at e1 e2
    clear hI hb ht hm hx' hand hN hP2 hx h0
    refine cps fun Q hQ => ?_
    go_enter Tryd.func13, Tryd.ntmps13
    go_wp2
    exact hQ.out _ _ ⟨t, rfl, htr, rfl⟩
theorem ltrail_any (x : Nat) (hx : x < 2 ^ 64) (w : World) (ht : ∀ i, i < 64 → w.cell? ⟨0, i, none⟩ = some (.int .u8 (bruijn.getD i 99))) :
    Calls Tryd.prog 7 #[.int .u64 x] w fun e w' => ∃ t : Nat, e = .returned (.int .i64 (t : Int)) ∧ IsTrail x t ∧ w' = w := by
  have HT : Hid _ := ht
  clear ht
  refine cps fun Q hQ => ?_
  go_enter Tryd.func7, Tryd.ntmps7
  go_wp2_with (go_at_call 13; refine (ltz_any x hx _ HT.out).mono ?_; rintro e w' ⟨t, rfl, htr, rfl⟩)
  exact hQ.out _ _ ⟨_, rfl, htr, rfl⟩
theorem leadCounts_walk (a0 : Int) (w0 : (Lit.int .u64 a0).wf = true) (w : World) (hw : 0 < w.heap.size) (ht : ∀ i, i < 64 → w.cell? ⟨0, i, none⟩ = some (.int .u8 (bruijn.getD i 99))) :
    Calls Tryd.prog 3 #[.int .u64 a0] w fun e w' => e = .returned (.bool true) ∧ Below w.heap.size w w' := by
  obtain ⟨x, rfl, hx⟩ := nat_of_u64 w0
  have HX : Hid (x < 2 ^ 64) := hx
  have HT : Hid _ := ht
  clear w0 hx ht
  refine cps fun Q hQ => ?_
  go_enter Tryd.func3, Tryd.ntmps3
  go_wp2_with first
    | (go_at_call 4; refine (up_any _).mono ?_; rintro e w1 ⟨rfl, hb1⟩)
    | (go_at_call 5; refine (llen_any x HX.out _).mono ?_; rintro e w' ⟨L, rfl, hL, rfl⟩)
    | (go_at_call 6; refine (rlen_any x HX.out _).mono ?_; rintro e w2 ⟨M, rfl, hM, hb2⟩; have hLM := hM.one hL; subst hLM; have hb12 := hb1.trans (hb2.mono hb1.size))
    | (go_at_call 7; go_must (refine (ltrail_any x HX.out _ (fun i hi => (hb12.cell (p := ⟨0, i, none⟩) hw).trans (HT.out i hi))).mono ?_); rintro e w' ⟨t, rfl, ht, rfl⟩)
    | (go_at_call 8; refine (rtrail_any x _).mono ?_; rintro e w3 ⟨u, rfl, hu, hb3⟩; have htu := hu.one ht; subst htu)
  exact hQ.out _ _ ⟨rfl, hb12.trans (hb3.mono hb12.size)⟩
end Go.Proofs.YtpjegpgnelfeeacDoor
