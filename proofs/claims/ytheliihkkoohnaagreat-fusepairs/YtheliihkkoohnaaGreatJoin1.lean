import Derived.WalkKit
import Derived.WalkLawsBesides
import Derived.WalkSpells
import Derived.ProofKit
import Derived.OpenShut
import Derived.Deep.QuietTactic
import Derived.BigQuiet
import Derived.Deep.RegionWith
import Derived.Test.YtheliihkkoohnaaGreatProg
import Derived.OwnWalk
import Derived.Lib.SmallJoins
import Derived.Shelf.Spec.BitsCarry
import Derived.Lib.Mul64
import Derived.Lib.BitFns
import Derived.Test.YtheliihkkoohnaaGreatRows
import Derived.Lib.Tables
import Derived.Lib.IfaceEq
namespace Go.Proofs.YtheliihkkoohnaaGreat
set_option maxRecDepth 100000
open Go.ChangeShapes Go.WideShapes Go.ChangeAt Go.RowKit

theorem cps {P : Program} {f : FuncId} {args : Array Value} {w : World} {R : Ending → World → Prop}
    (h : ∀ Q, Hid (∀ e w', R e w' → Q e w') → Calls P f args w Q) : Calls P f args w R := h R (fun _ _ h => h)

/-- the world of a pure call: some draws, nothing else -/
theorem below_drewN {B : Nat} {a w : World} (h : Below B a w) (n : Nat) : Below B a (w.drewN n) := ⟨h.os, h.tape, h.output, h.size, h.block⟩

/-! ### append of one element -/
theorem append1 {P : Program} {w0 : World} {ops : Array Oper} {rest : List Oper} {o : Oper} {a : Act} {Q : Exit → Act → World → Prop} {u : Value} (hgd : o.guard = none) (s x : Operand) (t : TypeId)
    (ho : o.op = .call { callee := .builtin .append, args := #[s, x], argTypes := #[t, t] })
    (base : Nat) (e : TypeId) (i : TypeInfo) (z : Value) (bytes : Nat) (ht : P.underlying t = some (.slice e)) (hi : P.info? e = some i) (hz : i.zero = some z)
    (hsize : i.size = 1) (hby : i.bytes = bytes) (hzs : z.cells.size = 1)
    (v : Value) (n : Nat) (xs : List Value) (hown : w0.ownsRow base e 1 v n xs) (hs : a.eval s = v) (hu : u.oneCell' = true)
    (hx : a.eval x = .slice (some ⟨w0.heap.size, 0, none⟩) 1 1)
    (hbytes : (n + 1) * bytes ≤ 140737488355328) (hb1 : 0 < bytes) (hbase : base ≤ w0.heap.size)
    (h : ∀ v' w', w'.ownsRow base e 1 v' (n + 1) (xs ++ [u]) → Below base w0 w' → v' ≠ .slice none 0 0 → w0.grownBy w' v.ownBlock → wpList P ops Q rest (a.put o.dst v') w') :
    wpList P ops Q (o :: rest) a (w0.alloc (.cells #[u] e)) := by
  have hle : n + 1 ≤ (n + 1) * bytes := Nat.le_mul_of_pos_right _ hb1
  refine wpList_append_own _ hgd s x t ho base e i z 1 bytes ht hi hz hsize hby hzs (by decide) v n xs hs (hown.alloc _) ⟨w0.heap.size, 0, none⟩ 1 1 [u] hx rfl ?_ ?_ ?_ hbytes ?_ ?_
  · intro j y hj
    match j, hj with
    | 0, hj => simp at hj; subst hj; simp [Addr.add]
  · intro y hy; simp at hy; subst hy; exact hu
  · unfold maxLen; omega
  · simp; omega
  · intro v' w' h1 h2 h3
    have hlt := hown.lt
    refine h v' w' h1 (((Below.refl base w0).alloc hbase _).grown h2 (by simp; omega) (fun k hk => (hlt k hk).1)) ?_ ?_
    · intro hv; have := (h3.1 hv).2; omega
    · exact ⟨h2.os, h2.tape, h2.output, Nat.le_trans (by simp) h2.size, fun k hk hne => (h2.block k (by simp; omega) hne).trans (Below.heap_alloc w0 _ _ hk)⟩

/-- 'string(b)', b a row of the call's own -/
theorem run_convert_own {P : Program} {w : World} {base : Nat} {src dst e : TypeId} {v : Value} {n : Nat} (l : List UInt8) (hown : w.ownsRow base e 1 v n (l.map fun b => .int .u8 b.toNat))
    (hs : P.underlying src = some (.slice e)) (he : P.underlying e = some (.int .u8)) (hd : P.underlying dst = some .string) :
    (convert src dst v).run P w = .ok (.string ⟨l.toArray⟩) w := by
  obtain ⟨h1, h2⟩ := hown
  rcases h2 with ⟨rfl, rfl⟩ | ⟨g, cap, cur, rfl, _, hg, hn, _, hsz, ht⟩
  · have hl : l = [] := by simpa using h1
    subst hl
    exact run_convert_bytes_nil w src e hs he 0 0 dst hd
  · have hl : l.length = n := by simpa using h1
    subst hl
    refine run_convert_bytes_back w src dst e _ cap l hs he hd ?_
    intro j hj
    have hc : cur[j]? = some (.int .u8 (l[j].toNat : Int)) := by
      have e1 : (cur.toList.take (l.length * 1))[j]? = (l.map fun b => Value.int .u8 (b.toNat : Int))[j]? := by rw [ht]
      rw [List.getElem?_take_of_lt (by omega)] at e1
      simpa [hj] using e1
    unfold Addr.add; split <;> simp_all [World.cell?]

/-! ### words -/
theorem ext64 {a b : Nat} (ha : a < 2^64) (hb : b < 2^64) (h : ∀ i, i < 64 → a.testBit i = b.testBit i) : a = b := by
  apply Nat.eq_of_testBit_eq
  intro i
  by_cases hi : i < 64
  · exact h i hi
  · rw [Nat.testBit_lt_two_pow (Nat.lt_of_lt_of_le ha (Nat.pow_le_pow_right (by decide) (by omega))), Nat.testBit_lt_two_pow (Nat.lt_of_lt_of_le hb (Nat.pow_le_pow_right (by decide) (by omega)))]
theorem wrapI {n : Int} (h : -9223372036854775808 ≤ n ∧ n ≤ 9223372036854775807) : IntKind.i64.wrap n = n := by simp [IntKind.wrap, IntKind.bits, IntKind.signed]; omega
theorem wrapN (x : Nat) : IntKind.u64.wrap (x : Int) = ((x % 2^64 : Nat) : Int) := by rw [IntKind.wrap_u64]; omega
theorem wrapShl (x k : Nat) : IntKind.u64.wrap ((x : Int) * 2 ^ k) = (((x <<< k) % 2^64 : Nat) : Int) := by
  rw [Nat.shiftLeft_eq, ← wrapN]; simp
theorem shrN (x k : Nat) : (x : Int) / 2 ^ k = ((x >>> k : Nat) : Int) := by rw [Nat.shiftRight_eq_div_pow]; simp
/-- the lowest n bits' mask, as the code reckons it -/
theorem wrapMask (n : Nat) (hn : n ≤ 64) : IntKind.u64.wrap (IntKind.u64.wrap (2 ^ n) - 1) = ((2^n - 1 : Nat) : Int) := by
  have e : ((2:Int) ^ n) = ((2 ^ n : Nat) : Int) := by simp
  rw [e, wrapN]
  rcases Nat.lt_or_ge n 64 with h | h
  · have h1 : 2^n < 2^64 := Nat.pow_lt_pow_right (by decide) h
    have h2 : 0 < 2^n := Nat.pos_of_ne_zero (by simp)
    rw [Nat.mod_eq_of_lt h1, IntKind.wrap_u64]; omega
  · have : n = 64 := by omega
    subst this; rw [IntKind.wrap_u64]; decide
theorem mask_lt (n : Nat) (hn : n ≤ 64) : 2^n - 1 < 2^64 := by
  have : 2^n ≤ 2^64 := Nat.pow_le_pow_right (by decide) hn
  have h2 : 0 < 2^n := Nat.pos_of_ne_zero (by simp)
  omega

/-! ### bits as text -/
def bitByte (b : Bool) : UInt8 := if b then 49 else 48
def IsBits (s : ByteArray) (l : List Bool) : Prop := s.data.toList = l.map bitByte
def bitsOf (x n : Nat) : List Bool := (List.range n).map fun j => x.testBit (n - 1 - j)
def numOf (l : List Bool) : Nat := l.foldl (fun a b => 2 * a + b.toNat) 0
theorem bitsOf_length (x n : Nat) : (bitsOf x n).length = n := by simp [bitsOf]
theorem bitsOf_get (x n j : Nat) (h : j < n) : (bitsOf x n)[j]? = some (x.testBit (n - 1 - j)) := by
  simp [bitsOf, h]
theorem numOf_snoc (l : List Bool) (b : Bool) : numOf (l ++ [b]) = 2 * numOf l + b.toNat := by simp [numOf]
theorem numOf_acc (l : List Bool) (a : Nat) : l.foldl (fun a b => 2 * a + b.toNat) a = a * 2 ^ l.length + numOf l := by
  induction l generalizing a with
  | nil => simp [numOf]
  | cons b l ih => simp only [List.foldl_cons, numOf, List.length_cons]; rw [ih, ih (2 * 0 + b.toNat)]; simp only [Nat.pow_succ]; rw [Nat.add_mul, Nat.add_mul, Nat.add_assoc]; congr 1; rw [Nat.mul_comm (2 ^ l.length) 2, ← Nat.mul_assoc, Nat.mul_comm a 2]; simp
theorem numOf_cons (b : Bool) (l : List Bool) : numOf (b :: l) = b.toNat * 2 ^ l.length + numOf l := by
  have := numOf_acc l (2 * 0 + b.toNat); simpa [numOf] using this
theorem numOf_lt (l : List Bool) : numOf l < 2 ^ l.length := by
  induction l with
  | nil => simp [numOf]
  | cons b l ih => rw [numOf_cons, List.length_cons, Nat.pow_succ]; cases b <;> simp <;> omega
theorem numOf_testBit (l : List Bool) (i : Nat) : (numOf l).testBit i = (decide (i < l.length) && l.getD (l.length - 1 - i) false) := by
  induction l with
  | nil => simp [numOf]
  | cons b l ih =>
    have hlt := numOf_lt l
    rw [numOf_cons, Nat.mul_comm]
    rw [Nat.testBit_two_pow_mul_add _ hlt]
    by_cases h : i < l.length
    · rw [if_pos h, ih]
      have e : l.length + 1 - 1 - i = (l.length - 1 - i) + 1 := by omega
      simp only [List.length_cons, e, List.getD_cons_succ]
      simp [h, Nat.lt_succ_of_lt h]
    · rw [if_neg h]
      by_cases h2 : i = l.length
      · subst h2; cases b <;> simp
      · have h3 : ¬ i < (b :: l).length := by simp; omega
        have h4 : 1 ≤ i - l.length := by omega
        simp only [h3, decide_false, Bool.false_and]
        have : b.toNat < 2 ^ (i - l.length) := Nat.lt_of_lt_of_le (show b.toNat < 2 by cases b <;> decide) (by rw [show (2:Nat) = 2^1 from rfl]; exact Nat.pow_le_pow_right (by decide) h4)
        exact Nat.testBit_lt_two_pow this
/-- shown and read again: the lowest n bits -/
theorem bitsOf_getD (x n j : Nat) : (bitsOf x n).getD j false = (decide (j < n) && x.testBit (n - 1 - j)) := by
  by_cases h : j < n
  · rw [List.getD_eq_getElem?_getD, bitsOf_get x n j h]; simp [h]
  · rw [List.getD_eq_getElem?_getD, List.getElem?_eq_none (by rw [bitsOf_length]; omega)]; simp [h]
theorem isBits_size {s : ByteArray} {l : List Bool} (h : IsBits s l) : s.size = l.length := by
  have := congrArg List.length h; simpa using this
theorem isBits_get {s : ByteArray} {l : List Bool} (h : IsBits s l) (j : Nat) (hj : j < s.size) : s[j] = bitByte (l.getD j false) := by
  have hl := isBits_size h
  have e : s.data.toList[j]? = (l.map bitByte)[j]? := by rw [h]
  rw [List.getElem?_map, List.getElem?_eq_getElem (by simpa using hj), List.getElem?_eq_getElem (by omega)] at e
  simp only [Option.map_some, Option.some.injEq] at e
  rw [List.getD_eq_getElem?_getD, List.getElem?_eq_getElem (by omega)]
  exact e
theorem isBits_extract {s : ByteArray} {l : List Bool} (h : IsBits s l) (a b : Nat) : IsBits (s.extract a b) ((l.drop a).take (b - a)) := by
  unfold IsBits at *
  rw [ByteArray.data_extract]
  simp only [Array.toList_extract, List.extract_eq_take_drop, h, List.map_take, List.map_drop]
theorem isBits_append {s t : ByteArray} {l m : List Bool} (h : IsBits s l) (k : IsBits t m) : IsBits (s ++ t) (l ++ m) := by
  unfold IsBits at *
  simp [h, k]

theorem nat_of_u64 {a : Int} (h : (Lit.int .u64 a).wf = true) : ∃ x : Nat, a = x ∧ x < 2 ^ 64 := by
  have := bounds_u64 h
  exact ⟨a.toNat, by omega, by omega⟩

/-! ### pieces of a text -/
theorem slice_h {P : Program} {t : TypeId} {s : ByteArray} (ht : P.underlying t = some .string) (h : Int) (n : Nat) (hn : h = n) (h2 : n ≤ s.size) (wx : World) :
    (Instr.slice t (.string s) none (some (.int .i64 h)) none).run P wx = .ok (.string (s.extract 0 n)) wx := by
  subst hn
  exact run_slice_string_h wx t s ht .i64 n (by omega) (by omega)
theorem slice_l {P : Program} {t : TypeId} {s : ByteArray} (ht : P.underlying t = some .string) (l : Int) (n : Nat) (hn : l = n) (h2 : n ≤ s.size) (wx : World) :
    (Instr.slice t (.string s) (some (.int .i64 l)) none none).run P wx = .ok (.string (s.extract n s.size)) wx := by
  subst hn
  exact run_slice_string_l wx t s ht .i64 n (by omega) (by omega)

/-! ### results -/
theorem ret_i {k : IntKind} {a b : Int} (h : a = b) : Ending.returned (.int k a) = .returned (.int k b) := by rw [h]
theorem ret_b {a b : Bool} (h : a = b) : Ending.returned (.bool a) = .returned (.bool b) := by rw [h]
theorem ret_ix {k : IntKind} {a b : Int} {u : Value} (h : a = b) : Ending.returned (.tuple #[.int k a, u]) = .returned (.tuple #[.int k b, u]) := by rw [h]
theorem ret_bix {x y : Bool} {k : IntKind} {a b : Int} {u : Value} (g : x = y) (h : a = b) : Ending.returned (.tuple #[.bool x, .int k a, u]) = .returned (.tuple #[.bool y, .int k b, u]) := by rw [g, h]
end Go.Proofs.YtheliihkkoohnaaGreat

namespace Go.Proofs.YtheliihkkoohnaaGreat
set_option maxRecDepth 100000

/-! ### numbers as rows of digits of 24 bits, the lowest first -/
/-- what stands from digit k on -/
def top (n : Nat) : Nat → Nat
  | 0 => n
  | k + 1 => top n k / 16777216
theorem top_zero (n : Nat) : top n 0 = n := rfl
theorem top_succ (n k : Nat) : top n (k + 1) = top n k / 16777216 := rfl
theorem top_succ' (n k : Nat) : top n (k + 1) = top (n / 16777216) k := by
  induction k with
  | zero => rfl
  | succ k ih => rw [top_succ, ih, top_succ]
theorem top_eq (n k : Nat) : top n k = n / 16777216 ^ k := by
  induction k with
  | zero => simp [top]
  | succ k ih => rw [top_succ, ih, Nat.div_div_eq_div_mul, Nat.pow_succ]
theorem top_add (n j k : Nat) : top n (j + k) = top (top n j) k := by
  induction k with
  | zero => rfl
  | succ k ih => rw [← Nat.add_assoc, top_succ, ih, top_succ]
theorem top_zero_left (k : Nat) : top 0 k = 0 := by
  induction k with
  | zero => rfl
  | succ k ih => rw [top_succ, ih]
theorem top_div (n m k : Nat) : top (n / m) k = top n k / m := by
  rw [top_eq, top_eq, Nat.div_div_eq_div_mul, Nat.div_div_eq_div_mul, Nat.mul_comm]

/-- the lowest k digits -/
def low (n k : Nat) : List Nat := (List.range k).map fun i => top n i % 16777216
theorem low_length (n k : Nat) : (low n k).length = k := by simp [low]
theorem low_zero (n : Nat) : low n 0 = [] := rfl
theorem low_snoc (n k : Nat) : low n (k + 1) = low n k ++ [top n k % 16777216] := by simp [low, List.range_succ]
theorem low_cons (n k : Nat) : low n (k + 1) = n % 16777216 :: low (n / 16777216) k := by
  simp only [low, List.range_succ_eq_map, List.map_cons, List.map_map, top_zero]
  congr 1
  apply List.map_congr_left
  intro i _
  simp [top_succ']
theorem low_get (n k i : Nat) (h : i < k) : (low n k).getD i 0 = top n i % 16777216 := by
  simp [low, h]

def dig (n : Nat) : List Nat := if h : n = 0 then [] else n % 16777216 :: dig (n / 16777216)
theorem dig_zero : dig 0 = [] := by unfold dig; simp
theorem dig_pos {n : Nat} (h : n ≠ 0) : dig n = n % 16777216 :: dig (n / 16777216) := by
  conv => lhs; unfold dig
  simp [h]
/-- how many digits -/
def dlen (n : Nat) : Nat := (dig n).length
theorem dlen_zero : dlen 0 = 0 := by simp [dlen, dig_zero]
theorem dlen_pos {n : Nat} (h : n ≠ 0) : dlen n = dlen (n / 16777216) + 1 := by simp [dlen, dig_pos h]
theorem dlen_eq_zero {n : Nat} : dlen n = 0 ↔ n = 0 := by
  constructor
  · intro h; by_cases h0 : n = 0
    · exact h0
    · rw [dlen_pos h0] at h; omega
  · rintro rfl; exact dlen_zero
theorem top_pos_iff (n k : Nat) : 0 < top n k ↔ k < dlen n := by
  induction k generalizing n with
  | zero =>
    rw [top_zero]
    by_cases h : n = 0
    · subst h; simp [dlen_zero]
    · rw [dlen_pos h]; omega
  | succ k ih =>
    rw [top_succ', ih]
    by_cases h : n = 0
    · subst h; simp [dlen_zero]
    · rw [dlen_pos h]; omega
theorem top_eq_zero {n k : Nat} (h : dlen n ≤ k) : top n k = 0 := by
  by_cases hc : 0 < top n k
  · have := (top_pos_iff n k).1 hc; omega
  · omega
theorem low_dlen (n : Nat) : low n (dlen n) = dig n := by
  induction n using Nat.strongRecOn with
  | _ n ih =>
    by_cases h : n = 0
    · subst h; simp [dlen_zero, low_zero, dig_zero]
    · rw [dlen_pos h, low_cons, ih _ (by omega), ← dig_pos h]
theorem low_more (n k : Nat) : low n (dlen n + k) = dig n ++ List.replicate k 0 := by
  induction k with
  | zero => simp [low_dlen]
  | succ k ih => rw [← Nat.add_assoc, low_snoc, ih, top_eq_zero (by omega), List.append_assoc, List.replicate_succ']
theorem low_ge {n m : Nat} (h : dlen n ≤ m) : low n m = dig n ++ List.replicate (m - dlen n) 0 := by
  obtain ⟨k, rfl⟩ := Nat.exists_eq_add_of_le h
  rw [low_more]; congr 2; omega
theorem dig_get (n k : Nat) : (dig n).getD k 0 = top n k % 16777216 := by
  by_cases h : k < dlen n
  · rw [← low_dlen, low_get _ _ _ h]
  · rw [top_eq_zero (by omega), List.getD_eq_getElem?_getD, List.getElem?_eq_none (by unfold dlen at h; omega)]; rfl
theorem dig_length (n : Nat) : (dig n).length = dlen n := rfl
theorem dlen_mono {a b : Nat} (h : a ≤ b) : dlen a ≤ dlen b := by
  by_cases hc : dlen a ≤ dlen b
  · exact hc
  · have h1 : 0 < top a (dlen b) := (top_pos_iff a _).2 (by omega)
    have h2 : top b (dlen b) = 0 := top_eq_zero (Nat.le_refl _)
    rw [top_eq] at h1 h2
    have := Nat.div_le_div_right (c := 16777216 ^ dlen b) h
    omega
theorem dlen_le_of_lt {n k : Nat} (h : n < 16777216 ^ k) : dlen n ≤ k := by
  by_cases hc : dlen n ≤ k
  · exact hc
  · have h1 : 0 < top n k := (top_pos_iff n _).2 (by omega)
    rw [top_eq, Nat.div_eq_of_lt h] at h1; omega
theorem lt_of_dlen_le {n k : Nat} (h : dlen n ≤ k) : n < 16777216 ^ k := by
  have h1 := top_eq_zero h
  rw [top_eq] at h1
  exact (Nat.div_eq_zero_iff.1 h1).resolve_left (Nat.ne_of_gt (Nat.pow_pos (by decide)))
/-- the last digit is not nought -/
theorem dig_last {n : Nat} (h : n ≠ 0) : top n (dlen n - 1) % 16777216 ≠ 0 ∧ top n (dlen n - 1) = top n (dlen n - 1) % 16777216 := by
  have h1 : 0 < dlen n := by rw [dlen_pos h]; omega
  have h2 : 0 < top n (dlen n - 1) := (top_pos_iff _ _).2 (by omega)
  have h3 : top n (dlen n - 1 + 1) = 0 := top_eq_zero (by omega)
  rw [top_succ] at h3
  omega

/-- the number that a row of digits is -/
def val : List Nat → Nat
  | [] => 0
  | d :: l => d + 16777216 * val l
theorem val_cons (d : Nat) (l : List Nat) : val (d :: l) = d + 16777216 * val l := rfl
theorem val_append (l m : List Nat) : val (l ++ m) = val l + 16777216 ^ l.length * val m := by
  induction l with
  | nil => simp [val]
  | cons d l ih => simp only [List.cons_append, val_cons, ih, List.length_cons, Nat.pow_succ, Nat.mul_add]; rw [Nat.mul_comm (16777216 ^ l.length) 16777216, Nat.mul_assoc]; omega
theorem val_low (l : List Nat) (h : ∀ d ∈ l, d < 16777216) : low (val l) l.length = l := by
  induction l with
  | nil => rfl
  | cons d l ih =>
    have hd := h d (by simp)
    rw [List.length_cons, low_cons]
    have e1 : val (d :: l) % 16777216 = d := by rw [val_cons]; omega
    have e2 : val (d :: l) / 16777216 = val l := by rw [val_cons]; omega
    rw [e1, e2, ih (fun x hx => h x (by simp [hx]))]
theorem val_dig (n : Nat) : val (dig n) = n := by
  induction n using Nat.strongRecOn with
  | _ n ih =>
    by_cases h : n = 0
    · subst h; simp [dig_zero, val]
    · rw [dig_pos h, val_cons, ih _ (by omega)]; omega
theorem val_lt (l : List Nat) (h : ∀ d ∈ l, d < 16777216) : val l < 16777216 ^ l.length := by
  induction l with
  | nil => simp [val]
  | cons d l ih =>
    have hd := h d (by simp)
    have := ih (fun x hx => h x (by simp [hx]))
    rw [val_cons, List.length_cons, Nat.pow_succ]
    omega
theorem dig_drop (n q : Nat) : (dig n).drop q = dig (top n q) := by
  induction q generalizing n with
  | zero => rfl
  | succ q ih =>
    by_cases h : n = 0
    · subst h; simp [dig_zero, top_zero_left]
    · rw [dig_pos h, List.drop_succ_cons, ih, top_succ']
theorem dig_shift {n : Nat} (h : n ≠ 0) (q : Nat) : dig (n * 16777216 ^ q) = List.replicate q 0 ++ dig n := by
  induction q with
  | zero => simp
  | succ q ih =>
    have hp : 0 < 16777216 ^ q := Nat.pow_pos (by decide)
    have h1 : n * 16777216 ^ (q + 1) ≠ 0 := Nat.mul_ne_zero h (Nat.ne_of_gt (Nat.pow_pos (by decide)))
    have e : n * 16777216 ^ (q + 1) = (n * 16777216 ^ q) * 16777216 := by rw [Nat.pow_succ, Nat.mul_assoc]
    rw [dig_pos h1, e, Nat.mul_mod_left, Nat.mul_div_cancel _ (by decide), ih, List.replicate_succ, List.cons_append]
theorem dlen_top (n q : Nat) : dlen (top n q) = dlen n - q := by
  have := congrArg List.length (dig_drop n q)
  rw [List.length_drop] at this; unfold dlen; omega
/-- comparing: the first digit from above that differs -/
theorem cmp_len {a b : Nat} (h : dlen a < dlen b) : a < b := by
  by_cases hc : a < b
  · exact hc
  · have := dlen_mono (a := b) (b := a) (by omega); omega
theorem cmp_top {a b k : Nat} (h : top a k < top b k) : a < b := by
  by_cases hc : a < b
  · exact hc
  · rw [top_eq, top_eq] at h
    have := Nat.div_le_div_right (a := b) (b := a) (c := 16777216 ^ k) (by omega)
    omega
end Go.Proofs.YtheliihkkoohnaaGreat

namespace Go.Proofs.YtheliihkkoohnaaGreat
open Go.ChangeShapes Go.WideShapes Go.ChangeAt Go.RowKit
set_option linter.unusedVariables false
set_option maxRecDepth 100000

/-! ### rows of ints that are read -/
def enc (d : Nat) : Value := .int .i64 (d : Int)
/-- b is a block of ints -/
def IntB (w : World) (b : Nat) : Prop := ∃ cs, w.heap[b]? = some (.cells cs 3 (0, 0))
theorem IntB.lt {w : World} {b : Nat} (h : IntB w b) : b < w.heap.size := by
  obtain ⟨cs, h⟩ := h; exact (Array.getElem?_eq_some_iff.1 h).1
theorem IntB.same {w w' : World} {b : Nat} (h : IntB w b) (e : w'.heap[b]? = w.heap[b]?) : IntB w' b := by
  obtain ⟨cs, h⟩ := h; exact ⟨cs, e.trans h⟩
theorem IntB.set {w : World} {b g j : Nat} {u : Value} (h : IntB w b) : IntB (w.setCell ⟨g, j, none⟩ u) b := by
  obtain ⟨cs, h⟩ := h
  by_cases e : b = g
  · subst e; exact ⟨_, heap_setCell_same w b j cs _ u h⟩
  · exact ⟨cs, (heap_setCell_other w ⟨g, j, none⟩ b u e).trans h⟩
/-- v is a slice of ints that reads as l in w -/
def Row (w : World) (v : Value) (l : List Nat) : Prop :=
  ∃ ao c, v = .slice ao l.length c ∧ c ≤ 9223372036854775807 ∧ l.length ≤ c ∧
    ((ao = none ∧ l = [] ∧ c = 0) ∨ ∃ b off, ao = some ⟨b, off, none⟩ ∧ IntB w b ∧ ∀ j, j < l.length → w.cell? ⟨b, off + j, none⟩ = some (.int .i64 (l.getD j 0 : Nat)))
theorem Row.below {w w' : World} {v : Value} {l : List Nat} (h : Row w v l) (hb : Below w.heap.size w w') : Row w' v l := by
  obtain ⟨ao, c, rfl, hc, hl, h⟩ := h
  refine ⟨ao, c, rfl, hc, hl, ?_⟩
  rcases h with h | ⟨b, off, rfl, hlt, h⟩
  · exact .inl h
  · exact .inr ⟨b, off, rfl, hlt.same (hb.block b hlt.lt), fun j hj => (hb.cell (p := ⟨b, off + j, none⟩) hlt.lt).trans (h j hj)⟩
theorem row_nil (w : World) : Row w (.slice none 0 0) [] := ⟨none, 0, rfl, by decide, by decide, .inl ⟨rfl, rfl, rfl⟩⟩
theorem row_own {w : World} {base n : Nat} {v : Value} {l : List Nat} (h : w.ownsRow base 3 1 v n (l.map enc)) : Row w v l := by
  obtain ⟨h1, h2⟩ := h
  rcases h2 with ⟨rfl, rfl⟩ | ⟨g, cap, cur, rfl, _, hg, hn, hcap, hsz, ht⟩
  · have : l = [] := by simpa using h1
    subst this; exact row_nil w
  · have hl : l.length = n := by simpa using h1
    subst hl
    unfold maxLen at hcap
    refine ⟨_, cap, rfl, by omega, hn, .inr ⟨g, 0, rfl, ?_, ?_⟩⟩
    · exact ⟨_, hg⟩
    · intro j hj
      have hc : cur[j]? = some (.int .i64 (l.getD j 0 : Nat)) := by
        have e1 : (cur.toList.take (l.length * 1))[j]? = (l.map enc)[j]? := by rw [ht]
        rw [List.getElem?_take_of_lt (by omega)] at e1
        simpa [hj, enc] using e1
      simp [World.cell?, hg, hc]
/-- how a row goes into a walk -/
theorem Row.out {w : World} {v : Value} {l : List Nat} (h : Row w v l) : ∃ ao c, v = .slice ao l.length c ∧ c ≤ 9223372036854775807 ∧ l.length ≤ c ∧
    (l.length = 0 ∨ ∃ b off, ao = some ⟨b, off, none⟩ ∧ ∀ j, j < l.length → w.cell? ⟨b, off + j, none⟩ = some (.int .i64 (l.getD j 0 : Nat))) := by
  obtain ⟨ao, c, rfl, hc, hl, h⟩ := h
  refine ⟨ao, c, rfl, hc, hl, ?_⟩
  rcases h with ⟨_, rfl, _⟩ | ⟨b, off, rfl, _, h⟩
  · exact .inl rfl
  · exact .inr ⟨b, off, rfl, h⟩

theorem infoInt : (Tryz.prog.info? 3).map (fun i => (i.zero, i.size, i.bytes)) = some (some (.int .i64 0), 1, 8) := by kernel_rfl

theorem digit_any (v : Value) (l : List Nat) (i : Nat) (hi : i < 4611686018427387904) (w : World) (hr : Row w v l) :
    Calls Tryz.prog 117 #[v, .int .i64 i] w fun e w' => e = .returned (.int .i64 (l.getD i 0 : Nat)) ∧ w' = w := by
  obtain ⟨ao, c, rfl, hc, hl, h⟩ := hr.out
  clear hr
  refine cps fun Q hQ => ?_
  by_cases hlt : i < l.length
  · rcases h with h | ⟨b, off, rfl, h⟩
    · omega
    have hcell := h i hlt
    generalize l.getD i 0 = d at *
    generalize l.length = n at *
    go_enter Tryz.func117, Tryz.ntmps117
    go_wp2
    exact hQ.out _ _ ⟨rfl, rfl⟩
  · have hz : l.getD i 0 = 0 := by rw [List.getD_eq_getElem?_getD, List.getElem?_eq_none (by omega)]; rfl
    rw [hz] at hQ
    generalize l.length = n at *
    go_enter Tryz.func117, Tryz.ntmps117
    go_wp2
    exact hQ.out _ _ ⟨rfl, rfl⟩

theorem digit_dig (v : Value) (n i d : Nat) (hi : i < 4611686018427387904) (w : World) (hr : Row w v (dig n)) (hd : d = top n i % 16777216) :
    Calls Tryz.prog 117 #[v, .int .i64 i] w fun e w' => e = .returned (.int .i64 d) ∧ w' = w := by
  rw [hd, ← dig_get]; exact digit_any v _ i hi w hr
/-- a number's slice, as the walk wants it -/
theorem Row.num {w : World} {v : Value} {n : Nat} (h : Row w v (dig n)) : ∃ ao c, v = .slice ao (dlen n) c ∧ c ≤ 9223372036854775807 ∧ dlen n ≤ c := by
  obtain ⟨ao, c, rfl, hc, hl, _⟩ := h
  exact ⟨ao, c, rfl, hc, hl⟩

set_option maxHeartbeats 1000000 in
theorem of_any (x : Nat) (hx : x < 2 ^ 64) (w : World) :
    Calls Tryz.prog 75 #[.int .u64 x] w fun e w' => ∃ v, e = .returned v ∧ Row w' v (dig x) ∧ Below w.heap.size w w' := by
  refine cps fun Q hQ => ?_
  have hx : x ≤ 18446744073709551615 := by omega
  obtain ⟨i0, hi, hz0, hz1, hz2⟩ := info_parts infoInt
  have hd3 : dlen x ≤ 3 := dlen_le_of_lt (by omega)
  go_enter Tryz.func75, Tryz.ntmps75
  go_wp2
  go_loopw [0, 3] (fun a v wr => ∃ k V : Nat, k ≤ dlen x ∧ V = top x k ∧ V ≤ 18446744073709551615 ∧ a = .int .u64 V ∧ wr.ownsRow w.heap.size 3 1 v k ((low x k).map enc) ∧ Below w.heap.size w wr) (fun a _ _ => (intOf a).toNat)
  case atStart => exact ⟨0, x, Nat.zero_le _, rfl, hx, rfl, World.ownsRow_nil _ _ _ _, Below.refl _ _⟩
  case round =>
    obtain ⟨k, V, hk, hV, hb, rfl, hown, hbel⟩ := hrel
    have hp := top_pos_iff x k
    have HV : Hid (V = top x k) := hV
    rw [← hV] at hp
    clear hV
    by_cases h0 : 0 < V
    · have hk1 := hp.1 h0
      have HK : Hid (dlen x ≤ 3) := hd3
      have hsz := hbel.size
      clear hp hd3
      go_wp2_with (at_builtin; go_must (refine append1 rfl _ _ _ rfl w.heap.size 3 i0 (.int .i64 0) 8 Tryz.underlying76 hi hz0 hz1 hz2 rfl _ _ _ hown rfl rfl rfl (by have := HK.out; omega) (by decide) hsz ?_); intro v' w1 hown' hbel' _ _)
      go_roundw
      case rel => 
        refine ⟨k + 1, V / 16777216, by omega, ?_, by omega, by go_num, ?_, hbel.trans hbel'⟩
        · rw [HV.out]; rfl
        · rw [low_snoc, ← HV.out, List.map_append]; exact hown'
      case measure => simp [intOf]; omega
    · have hk1 : k = dlen x := by have := hp.2; omega
      subst hk1
      rw [low_dlen] at hown
      go_wp2
      exact hQ.out _ _ ⟨_, rfl, row_own hown, hbel⟩

/-- 'l[:n]' of a row -/
theorem Row.take {w : World} {ao : Option Addr} {c k : Nat} {l : List Nat} (h : Row w (.slice ao k c) l) (n : Nat) (hn : n ≤ l.length) : Row w (.slice ao n c) (l.take n) := by
  obtain ⟨ao', c', he, hc, hl, h⟩ := h
  injection he with e1 e2 e3
  subst e1 e2 e3
  have e : (l.take n).length = n := by rw [List.length_take]; omega
  refine ⟨ao, c, by rw [e], hc, by omega, ?_⟩
  rcases h with ⟨h1, h2, h3⟩ | ⟨b, off, h1, h2, h3⟩
  · exact .inl ⟨h1, by rw [h2]; simp, h3⟩
  · refine .inr ⟨b, off, h1, h2, fun j hj => ?_⟩
    rw [e] at hj
    rw [h3 j (by omega), List.getD_eq_getElem?_getD, List.getD_eq_getElem?_getD, List.getElem?_take_of_lt hj]

set_option maxHeartbeats 2000000 in
theorem nadd_any (va vb : Value) (a b : Nat) (hS : dlen (a + b) ≤ 1099511627776) (w : World) (ha : Row w va (dig a)) (hb : Row w vb (dig b)) :
    Calls Tryz.prog 76 #[va, vb] w fun e w' => ∃ v, e = .returned v ∧ Row w' v (dig (a + b)) ∧ Below w.heap.size w w' := by
  refine cps fun Q hQ => ?_
  have hla : dlen a ≤ dlen (a + b) := dlen_mono (by omega)
  have hlb : dlen b ≤ dlen (a + b) := dlen_mono (by omega)
  have HA : Hid (Row w va (dig a)) := ha
  have HB : Hid (Row w vb (dig b)) := hb
  obtain ⟨aa, ca, rfl, h1, h2⟩ := ha.num
  obtain ⟨ab, cb, rfl, h3, h4⟩ := hb.num
  clear ha hb
  obtain ⟨i0, hi, hz0, hz1, hz2⟩ := info_parts infoInt
  have HP : Hid (∀ n k, 0 < top n k ↔ k < dlen n) := top_pos_iff
  generalize hs : a + b = s at *
  have HS : Hid (a + b = s) := hs
  clear hs
  go_enter Tryz.func76, Tryz.ntmps76
  go_wp2
  go_loopw [5, 6, 7] (fun o cv iv wr => ∃ k A B C : Nat, k ≤ dlen s ∧ C ≤ 1 ∧ Hid (A = top a k) ∧ Hid (B = top b k) ∧ Hid (A + B + C = top s k) ∧ iv = .int .i64 k ∧ cv = .int .i64 C ∧ wr.ownsRow w.heap.size 3 1 o k ((low s k).map enc) ∧ Below w.heap.size w wr) (fun _ _ i _ => dlen s - (intOf i).toNat)
  case atStart => exact ⟨0, a, b, 0, Nat.zero_le _, by decide, rfl, rfl, HS.out, rfl, rfl, World.ownsRow_nil _ _ _ _, Below.refl _ _⟩
  case round =>
    obtain ⟨k, A, B, C, hk, hC, hA, hB, hT, rfl, rfl, hown, hbel⟩ := hrel
    have pa := HP.out a k
    have pb := HP.out b k
    have ps := HP.out s k
    rw [← hA.out] at pa
    rw [← hB.out] at pb
    rw [← hT.out] at ps
    have hsz := hbel.size
    by_cases hc : k < dlen a ∨ k < dlen b ∨ 0 < C
    · have hks : k < dlen s := ps.1 (by omega)
      have hra := HA.out.below hbel
      have hrb := HB.out.below hbel
      obtain ⟨da, hda⟩ : ∃ d, d = A % 16777216 := ⟨_, rfl⟩
      obtain ⟨db, hdb⟩ : ∃ d, d = B % 16777216 := ⟨_, rfl⟩
      have bda : da ≤ 16777215 := by omega
      have bdb : db ≤ 16777215 := by omega
      have Hda : Hid (da = A % 16777216) := hda
      have Hdb : Hid (db = B % 16777216) := hdb
      have h3 : k < dlen a ∨ (¬ k < dlen a ∧ k < dlen b) ∨ (¬ k < dlen a ∧ ¬ k < dlen b ∧ 0 < C) := by omega
      have HRA : Hid (Row wr _ _) := hra
      have HRB : Hid (Row wr _ _) := hrb
      clear hc pa pb ps hda hdb hra hrb
      rcases h3 with h3 | ⟨h3, h4⟩ | ⟨h3, h4, h5⟩
      all_goals
        go_wp2_with (first
          | (go_at_call_of 117 aa; refine (digit_dig _ a k da (by omega) _ HRA.out (by rw [Hda.out, hA.out])).mono ?_; rintro e w' ⟨rfl, rfl⟩)
          | (go_at_call_of 117 ab; refine (digit_dig _ b k db (by omega) _ HRB.out (by rw [Hdb.out, hB.out])).mono ?_; rintro e w' ⟨rfl, rfl⟩)
          | (at_builtin; refine append1 rfl _ _ _ rfl w.heap.size 3 i0 (.int .i64 0) 8 Tryz.underlying76 hi hz0 hz1 hz2 rfl _ _ _ hown rfl rfl rfl (by omega) (by decide) hsz ?_; intro v' w1 hown' hbel' _ _))
        go_roundw
        case rel =>
          refine ⟨k + 1, A / 16777216, B / 16777216, (da + db + C) / 16777216, by omega, by omega, ?_, ?_, ?_, by go_num, by go_num, ?_, hbel.trans hbel'⟩
          · show _ = _; rw [hA.out]; rfl
          · show _ = _; rw [hB.out]; rfl
          · show _ = _; rw [top_succ, ← hT.out]; have := Hda.out; have := Hdb.out; omega
          · rw [low_snoc, ← hT.out, List.map_append]
            have e : (((da : Int) + db + C) % 16777216) = (((A + B + C) % 16777216 : Nat) : Int) := by have := Hda.out; have := Hdb.out; omega
            rw [e] at hown'
            exact hown'
        case measure => simp [intOf]; omega
    · have hks : ¬ k < dlen s := fun h => by have := ps.2 h; omega
      have hk1 : k = dlen s := by omega
      have e : low s k = dig s := by rw [hk1, low_dlen]
      rw [e] at hown
      have h3 : ¬ k < dlen a := by omega
      have h4 : ¬ k < dlen b := by omega
      have h5 : ¬ 0 < C := by omega
      clear hk1 e pa pb ps hc
      go_wp2
      exact hQ.out _ _ ⟨_, rfl, row_own hown, hbel⟩
end Go.Proofs.YtheliihkkoohnaaGreat

namespace Go.Proofs.YtheliihkkoohnaaGreat
open Go.ChangeShapes Go.WideShapes Go.ChangeAt Go.RowKit
set_option linter.unusedVariables false
set_option maxRecDepth 100000

/-- how a number's slice goes into a walk that reads its elements -/
theorem Row.reads {w : World} {v : Value} {n : Nat} (h : Row w v (dig n)) : ∃ ao c, v = .slice ao (dlen n) c ∧ c ≤ 9223372036854775807 ∧ dlen n ≤ c ∧
    (dlen n = 0 ∨ ∃ b off, ao = some ⟨b, off, none⟩ ∧ b < w.heap.size ∧ ∀ j, j < dlen n → w.cell? ⟨b, off + j, none⟩ = some (.int .i64 (top n j % 16777216 : Nat))) := by
  obtain ⟨ao, c, rfl, hc, hl, h⟩ := h
  refine ⟨ao, c, rfl, hc, hl, ?_⟩
  rcases h with ⟨_, h, _⟩ | ⟨b, off, rfl, hb, h⟩
  · exact .inl (by unfold dlen; rw [h]; rfl)
  · exact .inr ⟨b, off, rfl, hb.lt, fun j hj => by rw [h j hj, dig_get]⟩
theorem owns_drewN {w : World} {base n sz : Nat} {e : TypeId} {v : Value} {xs : List Value} (h : w.ownsRow base e sz v n xs) (q : Nat) : (w.drewN q).ownsRow base e sz v n xs := h

set_option maxHeartbeats 1000000 in
theorem two_any (k : Nat) (hk : k ≤ 24) (w : World) :
    Calls Tryz.prog 116 #[.int .i64 k] w fun e w' => e = .returned (.int .i64 (2 ^ k : Nat)) ∧ w' = w := by
  refine cps fun Q hQ => ?_
  go_enter Tryz.func116, Tryz.ntmps116
  go_wp2
  go_loop [3, 4] (fun n i => ∃ j V : Nat, j ≤ k ∧ Hid (V = 2 ^ j) ∧ V ≤ 16777216 ∧ i = .int .i64 j ∧ n = .int .i64 V) (fun _ i => k - (intOf i).toNat)
  case atStart => exact ⟨0, 1, Nat.zero_le _, rfl, by decide, rfl, rfl⟩
  case round =>
    obtain ⟨j, V, hj, hV, hb, rfl, rfl⟩ := hrel
    by_cases hlt : j < k
    · go_wp2
      go_round
      case rel =>
        have h1 : 2 ^ (j + 1) = 2 * V := by rw [hV.out, Nat.pow_succ, Nat.mul_comm]
        have h2 : 2 ^ (j + 1) ≤ 2 ^ 24 := Nat.pow_le_pow_right (by decide) (by omega)
        exact ⟨j + 1, 2 * V, by omega, h1.symm, by omega, by go_num, by go_num⟩
      case measure => simp [intOf]; omega
    · have e : j = k := by omega
      subst e
      go_wp2
      refine hQ.out _ _ ⟨?_, rfl⟩
      rw [hV.out]

theorem mul_part (A q : Nat) : A * q = 16777216 * (A / 16777216 * q) + A % 16777216 * q := by
  conv => lhs; rw [← Nat.div_add_mod A 16777216]
  rw [Nat.add_mul, Nat.mul_assoc]

set_option maxHeartbeats 2000000 in
theorem times_any (va : Value) (a q : Nat) (hq : q ≤ 16777216) (hS : dlen a ≤ 1099511627776) (w : World) (ha : Row w va (dig a)) :
    Calls Tryz.prog 115 #[va, .int .i64 q] w fun e w' => ∃ v, e = .returned v ∧ Row w' v (dig (a * q)) ∧ Below w.heap.size w w' := by
  refine cps fun Q hQ => ?_
  have hls : dlen (a * q) ≤ dlen a + 2 := by
    refine dlen_le_of_lt ?_
    have h1 := lt_of_dlen_le (n := a) (Nat.le_refl _)
    rw [Nat.pow_add]
    refine Nat.lt_of_le_of_lt (Nat.mul_le_mul (Nat.le_of_lt h1) hq) ?_
    exact Nat.mul_lt_mul_of_pos_left (by decide) (Nat.pow_pos (by decide))
  have HA : Hid (Row w va (dig a)) := ha
  obtain ⟨aa, ca, rfl, h1, h2⟩ := ha.num
  clear ha
  obtain ⟨i0, hi, hz0, hz1, hz2⟩ := info_parts infoInt
  have HP : Hid (∀ n k, 0 < top n k ↔ k < dlen n) := top_pos_iff
  generalize hs : a * q = s at *
  have HS : Hid (a * q + 0 = s) := hs
  clear hs
  go_enter Tryz.func115, Tryz.ntmps115
  go_wp2
  go_loopw [5, 6, 7] (fun o cv iv wr => ∃ k A C : Nat, k ≤ dlen s ∧ C ≤ q ∧ Hid (A = top a k) ∧ Hid (A * q + C = top s k) ∧ iv = .int .i64 k ∧ cv = .int .i64 C ∧ wr.ownsRow w.heap.size 3 1 o k ((low s k).map enc) ∧ Below w.heap.size w wr) (fun _ _ i _ => dlen s - (intOf i).toNat)
  case atStart => exact ⟨0, a, 0, Nat.zero_le _, Nat.zero_le _, rfl, HS.out, rfl, rfl, World.ownsRow_nil _ _ _ _, Below.refl _ _⟩
  case round =>
    obtain ⟨k, A, C, hk, hC, hA, hT, rfl, rfl, hown, hbel⟩ := hrel
    have pa := HP.out a k
    have ps := HP.out s k
    rw [← hA.out] at pa
    have hpos : 0 < A * q ↔ 0 < A ∧ 0 < q := ⟨fun h => ⟨Nat.pos_of_mul_pos_right h, Nat.pos_of_mul_pos_left h⟩, fun h => Nat.mul_pos h.1 h.2⟩
    rw [← hT.out] at ps
    have hsz := hbel.size
    by_cases hc : (k < dlen a ∧ 0 < q) ∨ 0 < C
    · have hks : k < dlen s := ps.1 (by have := hpos.2; omega)
      have hra := HA.out.below hbel
      obtain ⟨da, hda⟩ : ∃ d, d = A % 16777216 := ⟨_, rfl⟩
      have bda : da ≤ 16777215 := by omega
      have Hda : Hid (da = A % 16777216) := hda
      have HRA : Hid (Row wr _ _) := hra
      obtain ⟨m, hm⟩ : ∃ m : Nat, m = da * q := ⟨_, rfl⟩
      have bm : m ≤ 16777215 * q := by rw [hm]; exact Nat.mul_le_mul bda (Nat.le_refl _)
      have HM : Hid (m = da * q) := hm
      have hmi : (da : Int) * (q : Int) = (m : Int) := by rw [hm]; simp
      have h3 : (k < dlen a ∧ 0 < q) ∨ (¬ k < dlen a ∧ 0 < C) := by omega
      clear hc pa ps hda hra hpos hm
      rcases h3 with ⟨h3, h4⟩ | ⟨h3, h4⟩
      all_goals
        go_wp2_with (first
          | (go_at_call_of 117 aa; refine (digit_dig _ a k da (by omega) _ HRA.out (by rw [Hda.out, hA.out])).mono ?_; rintro e w' ⟨rfl, rfl⟩)
          | (at_builtin; refine append1 rfl _ _ _ rfl w.heap.size 3 i0 (.int .i64 0) 8 Tryz.underlying76 hi hz0 hz1 hz2 rfl _ _ _ hown rfl rfl rfl (by omega) (by decide) hsz ?_; intro v' w1 hown' hbel' _ _))
        go_roundw
        case rel =>
          have hp := mul_part A q
          rw [← Hda.out, ← HM.out] at hp
          refine ⟨k + 1, A / 16777216, (m + C) / 16777216, by omega, by omega, ?_, ?_, by go_num, by go_num, ?_, hbel.trans hbel'⟩
          · show _ = _; rw [hA.out]; rfl
          · show _ = _; rw [top_succ, ← hT.out]; omega
          · rw [low_snoc, ← hT.out, List.map_append]
            have e : (((m : Int) + C) % 16777216) = (((A * q + C) % 16777216 : Nat) : Int) := by omega
            rw [e] at hown'
            exact hown'
        case measure => simp [intOf]; omega
    · have hks : ¬ k < dlen s := fun h => by have := ps.2 h; have := hpos.1; omega
      have hk1 : k = dlen s := by omega
      have e : low s k = dig s := by rw [hk1, low_dlen]
      rw [e] at hown
      have h5 : ¬ 0 < C := by omega
      have h3 : ¬ (k < dlen a ∧ 0 < q) := by omega
      by_cases h4 : k < dlen a
      · have h6 : ¬ 0 < q := by omega
        clear hk1 e pa ps hc hpos h3
        go_wp2
        exact hQ.out _ _ ⟨_, rfl, row_own hown, hbel⟩
      · clear hk1 e pa ps hc hpos h3
        go_wp2
        exact hQ.out _ _ ⟨_, rfl, row_own hown, hbel⟩
end Go.Proofs.YtheliihkkoohnaaGreat

namespace Go.Proofs.YtheliihkkoohnaaGreat
open Go.ChangeShapes Go.WideShapes Go.ChangeAt Go.RowKit
set_option linter.unusedVariables false
set_option maxRecDepth 100000

theorem owns_below {w w' : World} {base n sz : Nat} {e : TypeId} {v : Value} {xs : List Value} (h : w.ownsRow base e sz v n xs) (hb : Below w.heap.size w w') : w'.ownsRow base e sz v n xs := by
  refine ⟨h.1, ?_⟩
  rcases h.2 with hn | ⟨g, cap, cur, rfl, hg, hgg, rest⟩
  · exact .inl hn
  · refine .inr ⟨g, cap, cur, rfl, hg, ?_, rest⟩
    rw [hb.block g (Array.getElem?_eq_some_iff.1 hgg).1]; exact hgg
theorem made_ints (n : Nat) : (madeCells (Value.int .i64 0).cells (n * 1)).toList = (List.replicate n 0).map enc := by
  have e : ∀ x : Nat, [Value.int .i64 0][x % 1]?.getD default = .int .i64 0 := fun x => by rw [Nat.mod_one]; rfl
  simp [madeCells, enc, Value.cells, e, List.map_const']
/-- 'l[q:]' of a row -/
theorem Row.drop {w : World} {b off c : Nat} {n k : Nat} (h : Row w (.slice (some ⟨b, off, none⟩) k c) (dig n)) (q : Nat) (hq : q ≤ dlen n) : Row w (.slice (some ⟨b, off + q, none⟩) (dlen n - q) (c - q)) (dig (top n q)) := by
  obtain ⟨ao', c', he, hc, hl, h⟩ := h
  injection he with e1 e2 e3
  subst e1 e2 e3
  have hl' : dlen n ≤ c := hl
  refine ⟨_, c - q, by rw [dig_length, dlen_top], by omega, by rw [dig_length, dlen_top]; omega, ?_⟩
  rcases h with ⟨h1, h2⟩ | ⟨b', off', h1, h2, h3⟩
  · simp at h1
  · simp at h1
    obtain ⟨rfl, rfl⟩ := h1
    refine .inr ⟨_, _, rfl, h2, fun j hj => ?_⟩
    rw [dig_length, dlen_top] at hj
    rw [Nat.add_assoc, h3 (q + j) (by rw [dig_length]; omega), dig_get, dig_get, top_add]

set_option maxHeartbeats 1000000 in
theorem nshl_any (va : Value) (a k : Nat) (hk : k ≤ 1099511627776) (hS : dlen a ≤ 1099511627776) (w : World) (ha : Row w va (dig a)) :
    Calls Tryz.prog 74 #[va, .int .i64 k] w fun e w' => ∃ v, e = .returned v ∧ Row w' v (dig (a * 2 ^ k)) ∧ Below w.heap.size w w' := by
  refine cps fun Q hQ => ?_
  have HA : Hid (Row w va (dig a)) := ha
  obtain ⟨aa, ca, rfl, h1, h2⟩ := ha.num
  clear ha
  obtain ⟨i0, hi, hz0, hz1, hz2⟩ := info_parts infoInt
  have hz := @dlen_eq_zero a
  have e0 : 2 ^ k = 2 ^ (k % 24) * 16777216 ^ (k / 24) := by
    have : (16777216 : Nat) = 2 ^ 24 := by decide
    rw [this, ← Nat.pow_mul, ← Nat.pow_add]; congr 1; omega
  by_cases h0 : dlen a = 0
  · have hn := hz.1 h0
    subst hn
    have HQ : Hid _ := hQ.out _ w ⟨.slice none 0 0, rfl, by rw [Nat.zero_mul, dig_zero]; exact row_nil w, Below.refl _ _⟩
    clear hz HA e0
    go_enter Tryz.func74, Tryz.ntmps74
    go_wp2
    exact HQ.out
  · have hn : a ≠ 0 := fun h => h0 (hz.2 h)
    have hq : 0 < 2 ^ (k % 24) := Nat.pow_pos (by decide)
    have hq2 : 2 ^ (k % 24) ≤ 2 ^ 24 := Nat.pow_le_pow_right (by decide) (by omega)
    have hne : a * 2 ^ (k % 24) ≠ 0 := Nat.mul_ne_zero hn (by omega)
    have hD : Hid (dig (a * 2 ^ k) = List.replicate (k / 24) 0 ++ dig (a * 2 ^ (k % 24))) := by
      show _ = _
      rw [e0, ← Nat.mul_assoc, dig_shift hne]
    have hT := two_any (k % 24) (by omega)
    have hlen : dlen (a * 2 ^ (k % 24)) ≤ 2199023255552 := by
      have h3 := lt_of_dlen_le (n := a) (Nat.le_refl _)
      refine Nat.le_trans (dlen_le_of_lt (k := dlen a + 2) ?_) (by omega)
      rw [Nat.pow_add]
      refine Nat.lt_of_le_of_lt (Nat.mul_le_mul (Nat.le_of_lt h3) hq2) ?_
      exact Nat.mul_lt_mul_of_pos_left (by decide) (Nat.pow_pos (by decide))
    have hdl : dlen (a * 2 ^ (k % 24)) ≠ 0 := fun h => hne (dlen_eq_zero.1 h)
    generalize hp : 2 ^ (k % 24) = p at *
    have HP : Hid (p ≤ 16777216) := by show _ ≤ _; omega
    clear hp e0 hq hq2 hz hn hne
    have hq : k / 24 ≤ 1099511627776 := by omega
    have hr24 : k % 24 ≤ 23 := by omega
    have hki : ((k : Int) / 24) = ((k / 24 : Nat) : Int) := by omega
    have hki2 : ((k : Int) % 24) = ((k % 24 : Nat) : Int) := by omega
    generalize k / 24 = q at *
    generalize k % 24 = r at *
    go_enter Tryz.func74, Tryz.ntmps74
    go_wp2_with (at_make; go_must (refine wpList_make_full _ rfl _ _ 76 rfl w.heap.size 3 i0 (.int .i64 0) 1 Tryz.underlying76 hi hz0 hz1 .i64 .i64 _ _ q rfl rfl (by omega) (by omega) (by rw [hz2]; omega) (by unfold maxLen; omega) (Nat.le_refl _) ?_); intro w1 hown hg)
    have hb0 := (Below.refl w.heap.size w).grown hg (Nat.le_refl _) (fun k hk => by cases hk)
    rw [made_ints] at hown
    have hs1 := hb0.size
    clear hg
    go_wp2_with (first
      | (go_at_call 116; refine (hT _).mono ?_; rintro e w' ⟨rfl, rfl⟩)
      | (go_at_call 115; refine (times_any _ a p HP.out hS _ (HA.out.below hb0)).mono ?_; rintro e w2 ⟨v2, rfl, hr2, hb2⟩
         obtain ⟨ao2, c2, rfl, hc2, hl2, hr2⟩ := hr2.reads
         obtain ⟨b2, o2, rfl, hlt2, hr2⟩ := hr2.resolve_left hdl
         have hown2 := owns_below hown hb2
         have hb3 := hb0.trans (hb2.mono hs1)
         have hs3 := hb3.size)
      | (at_builtin; go_must (refine wpList_append_own _ rfl _ _ 76 rfl w.heap.size 3 i0 (.int .i64 0) 1 8 Tryz.underlying76 hi hz0 hz1 hz2 rfl (by decide) _ _ _ rfl hown2 ⟨b2, o2, none⟩ (dlen (a * p)) c2 ((dig (a * p)).map enc) rfl (by simp [dlen]) ?_ (by simp [enc]; intros; rfl) (by unfold maxLen; omega) (by omega) hs3 ?_)))
    · intro j u hj
      rw [List.getElem?_map, Option.map_eq_some_iff] at hj
      obtain ⟨d, hd, rfl⟩ := hj
      have hlt : j < dlen (a * p) := (List.getElem?_eq_some_iff.1 hd).1
      have := hr2 j hlt
      rw [← dig_get, List.getD_eq_getElem?_getD, hd] at this
      have this : w2.cell? ⟨b2, o2 + j, none⟩ = some (.int .i64 (d : Nat)) := by simpa using this
      unfold Addr.add
      split
      · rename_i h; have hj0 : j = 0 := by simpa using h
        subst hj0; exact this
      · exact this
    · intro v' w3 hown3 hg3 _
      have hb4 := hb3.grown hg3 hs3 (fun k hk => by cases hk; exact Nat.le_refl _)
      have hr3 : Row w3 v' (List.replicate q 0 ++ dig (a * p)) := row_own (by rw [List.map_append, List.map_replicate]; exact hown3)
      rw [← hD.out] at hr3
      go_wp2
      exact hQ.out _ _ ⟨_, rfl, hr3, hb4⟩
theorem row_lit (w : World) (e : TypeId) (d : Nat) (hd : d ≠ 0) (hd2 : d < 16777216) (he : e = 3 := by rfl) : Row (w.alloc (.cells #[.int .i64 (d : Int)] e)) (.slice (some ⟨w.heap.size, 0, none⟩) 1 1) (dig d) := by
  have hl : dig d = [d] := by rw [dig_pos hd, show d / 16777216 = 0 by omega, dig_zero, Nat.mod_eq_of_lt hd2]
  rw [hl]
  subst he
  refine ⟨_, 1, rfl, by decide, Nat.le_refl _, .inr ⟨_, 0, rfl, ⟨_, Array.getElem?_push_size⟩, fun j hj => ?_⟩⟩
  have : j = 0 := by simpa using hj
  subst this
  exact World.cell?_alloc_at _ _ _ _ rfl

end Go.Proofs.YtheliihkkoohnaaGreat

namespace Go.Proofs.YtheliihkkoohnaaGreat
open Go.ChangeShapes Go.WideShapes Go.ChangeAt Go.RowKit
set_option linter.unusedVariables false
set_option maxRecDepth 100000

/-! ### how many bits -/
def blen (n : Nat) : Nat := if h : n = 0 then 0 else blen (n / 2) + 1
theorem blen_zero : blen 0 = 0 := by unfold blen; simp
theorem blen_pos {n : Nat} (h : n ≠ 0) : blen n = blen (n / 2) + 1 := by
  conv => lhs; unfold blen
  simp [h]
theorem blen_le {n m : Nat} : blen n ≤ m ↔ n < 2 ^ m := by
  induction m generalizing n with
  | zero =>
    by_cases h : n = 0
    · subst h; simp [blen_zero]
    · rw [blen_pos h]; simp; exact h
  | succ m ih =>
    by_cases h : n = 0
    · subst h; simp [blen_zero]; exact Nat.pow_pos (by decide)
    · rw [blen_pos h, Nat.add_le_add_iff_right, ih, Nat.pow_succ]; omega
theorem blen_shift {a k : Nat} (h : a / 2 ^ k ≠ 0) : blen a = blen (a / 2 ^ k) + k := by
  induction k with
  | zero => simp
  | succ k ih =>
    have e : a / 2 ^ (k + 1) = a / 2 ^ k / 2 := by rw [Nat.pow_succ, Nat.div_div_eq_div_mul]
    have h1 : a / 2 ^ k ≠ 0 := by intro h2; rw [e, h2] at h; simp at h
    rw [ih h1, blen_pos h1, e]; omega
theorem blen_top {a : Nat} (h : a ≠ 0) : blen a = blen (top a (dlen a - 1)) + 24 * (dlen a - 1) := by
  have e : top a (dlen a - 1) = a / 2 ^ (24 * (dlen a - 1)) := by
    rw [top_eq, show (16777216 : Nat) = 2 ^ 24 by decide, ← Nat.pow_mul]
  have h2 := (dig_last h).1
  have h3 : top a (dlen a - 1) ≠ 0 := by intro h4; rw [h4] at h2; simp at h2
  rw [e] at h3 ⊢
  exact blen_shift h3

/-! ### comparing -/
def cmpN (a b : Nat) : Int := if a < b then -1 else if a = b then 0 else 1
theorem cmpN_lt {a b : Nat} (h : a < b) : cmpN a b = -1 := by simp [cmpN, h]
theorem cmpN_gt {a b : Nat} (h : b < a) : cmpN a b = 1 := by unfold cmpN; rw [if_neg (by omega), if_neg (by omega)]
theorem cmpN_eq (a : Nat) : cmpN a a = 0 := by simp [cmpN]
/-! ### is one of the lowest bits 1? -/
theorem low_part (a i m : Nat) (hm : m ≤ 24) (h : 2 ^ (24 * i) ∣ a) : top a i % 16777216 % 2 ^ m = 0 ↔ 2 ^ (24 * i + m) ∣ a := by
  obtain ⟨x, rfl⟩ := h
  have e : top (2 ^ (24 * i) * x) i = x := by
    rw [top_eq, show (16777216 : Nat) = 2 ^ 24 by decide, ← Nat.pow_mul, Nat.mul_div_cancel_left _ (Nat.pow_pos (by decide))]
  have hd : 2 ^ m ∣ 16777216 := by rw [show (16777216 : Nat) = 2 ^ 24 by decide]; exact Nat.pow_dvd_pow 2 hm
  rw [e, Nat.mod_mod_of_dvd _ hd, Nat.pow_add, Nat.mul_dvd_mul_iff_left (Nat.pow_pos (by decide))]
  exact (Nat.dvd_iff_mod_eq_zero).symm
theorem low_end (a i : Nat) (h : 2 ^ (24 * i) ∣ a) (hi : dlen a ≤ i) : a = 0 := by
  have h1 := lt_of_dlen_le hi
  rw [show (16777216 : Nat) = 2 ^ 24 by decide, ← Nat.pow_mul] at h1
  exact Nat.eq_zero_of_dvd_of_lt h h1
end Go.Proofs.YtheliihkkoohnaaGreat

namespace Go.Proofs.YtheliihkkoohnaaGreat
set_option maxRecDepth 100000
open Go.ChangeShapes Go.WideShapes Go.ChangeAt Go.RowKit
set_option linter.unusedVariables false

/-! ### numbers of 128 bits -/
structure Tw (n h l : Nat) : Prop where
  eq : n = h * 18446744073709551616 + l
  hi : h ≤ 18446744073709551615
  lo : l ≤ 18446744073709551615
theorem bmore {a w : World} (h : Below a.heap.size a w) (o : Obj) : Below a.heap.size a (w.alloc o) := h.alloc h.size o

theorem run_add64_at (x y c : Nat) (hc : c ≤ 1) (w : World) :
    (callFunc 100 #[.int .u64 x, .int .u64 y, .int .u64 c]).run Tryz.prog w =
      .ok (.value (.tuple #[.int .u64 (((x + y + c) % 18446744073709551616 : Nat) : Int), .int .u64 (((x + y + c) / 18446744073709551616 : Nat) : Int)])) w := by
  rw [run_callFunc_extern Tryz.func100 (by kernel_rfl) (by kernel_rfl) (by kernel_rfl) (e := add64Entry) (by kernel_rfl), run_add64 x y c (by omega) (by omega) (by omega) (by omega)]
  simp only [Result.andThen]
  congr 5 <;> omega
theorem run_sub64_at (x y b : Nat) (hb : b ≤ 1) (w : World) :
    (callFunc 101 #[.int .u64 x, .int .u64 y, .int .u64 b]).run Tryz.prog w =
      .ok (.value (.tuple #[.int .u64 (((x + 18446744073709551616 - y - b) % 18446744073709551616 : Nat) : Int), .int .u64 ((if x < y + b then 1 else 0 : Nat) : Int)])) w := by
  rw [run_callFunc_extern Tryz.func101 (by kernel_rfl) (by kernel_rfl) (by kernel_rfl) (e := sub64Entry) (by kernel_rfl), run_sub64 x y b hb]
  rfl

theorem tsub_any {a b h1 l1 h2 l2 h l : Nat} {c : Bool} (ha : Tw a h1 l1) (hb : Tw b h2 l2) (hs : Tw ((a + 340282366920938463463374607431768211456 - b) % 340282366920938463463374607431768211456) h l) (hc : c = decide (a < b)) (w : World) :
    Calls Tryz.prog 120 #[.agg #[.int .u64 h1, .int .u64 l1], .agg #[.int .u64 h2, .int .u64 l2]] w fun e w' => e = .returned (.tuple #[.agg #[.int .u64 h, .int .u64 l], .bool c]) ∧ Below w.heap.size w w' := by
  refine cps fun Q hQ => ?_
  obtain ⟨ea, ha1, ha2⟩ := ha
  obtain ⟨eb, hb1, hb2⟩ := hb
  obtain ⟨es, hs1, hs2⟩ := hs
  obtain ⟨s1, e1⟩ : ∃ s, s = (l1 + 18446744073709551616 - l2 - 0) % 18446744073709551616 := ⟨_, rfl⟩
  obtain ⟨c1, e2⟩ : ∃ s, s = (if l1 < l2 + 0 then 1 else 0) := ⟨_, rfl⟩
  obtain ⟨s2, e3⟩ : ∃ s, s = (h1 + 18446744073709551616 - h2 - c1) % 18446744073709551616 := ⟨_, rfl⟩
  obtain ⟨c2, e4⟩ : ∃ s, s = (if h1 < h2 + c1 then 1 else 0) := ⟨_, rfl⟩
  have r1 := run_sub64_at l1 l2 0 (by omega)
  have r2 := run_sub64_at h1 h2 c1 (by rw [e2]; split <;> omega)
  rw [← e1, ← e2] at r1
  have r1 : ∀ w, (callFunc 101 #[.int .u64 l1, .int .u64 l2, .int .u64 0]).run Tryz.prog w = .ok (.value (.tuple #[.int .u64 s1, .int .u64 c1])) w := r1
  rw [← e3, ← e4] at r2
  have hc1 : (c1 = 1 ∧ l1 < l2) ∨ (c1 = 0 ∧ l2 ≤ l1) := by rw [e2]; split <;> omega
  have hc3 : (c2 = 1 ∧ h1 < h2 + c1) ∨ (c2 = 0 ∧ h2 + c1 ≤ h1) := by rw [e4]; split <;> omega
  have q1 : s1 = l := by omega
  have q2 : s2 = h := by omega
  have hc2 : c2 ≤ 1 := by omega
  have q3 : c = decide (c2 = 1) := by rw [hc]; refine decide_eq_decide.2 ?_; omega
  clear e1 e2 e3 e4 hc ea eb es hc1 hc3
  subst q1 q2
  have HC : Hid (c = decide (c2 = 1)) := q3
  clear q3
  go_enter Tryz.func120, Tryz.ntmps120
  go_wp2_with (simp only [r1, r2])
  refine bodyPost_ret (v := .tuple #[.agg #[.int .u64 s2, .int .u64 s1], .bool c]) (by simp [results, Tryz.results120, go_sem]; rw [HC.out]; rcases (show c2 = 0 ∨ c2 = 1 by omega) with h | h <;> rw [h] <;> rfl) rfl (hQ.out _ _ ⟨rfl, ?_⟩)
  exact bmore (bmore (bmore (Below.refl _ _) _) _) _

theorem maskN (a : Nat) (ha : a < 18446744073709551616) : bits .and .u64 (a : Int) 4294967295 = ((a % 4294967296 : Nat) : Int) := by
  have e := u64_and_nat a 4294967295 ha (by decide)
  rw [show ((4294967295 : Nat) : Int) = 4294967295 from rfl] at e
  rw [e, show (4294967295 : Nat) = 2 ^ 32 - 1 from rfl, Nat.and_two_pow_sub_one_eq_mod]
theorem divN (a : Nat) : (a : Int) / 4294967296 = ((a / 4294967296 : Nat) : Int) := by omega
theorem mulN (a b : Nat) : (a : Int) * (b : Int) = ((a * b : Nat) : Int) := (Int.natCast_mul a b).symm
theorem addN (a b : Nat) : (a : Int) + (b : Int) = ((a + b : Nat) : Int) := (Int.natCast_add a b).symm
theorem wrapU (a : Nat) (ha : a < 18446744073709551616) : IntKind.u64.wrap (a : Int) = (a : Int) := by rw [IntKind.wrap_u64]; omega
theorem wrapM (a : Nat) : IntKind.u64.wrap (a : Int) = ((a % 18446744073709551616 : Nat) : Int) := by rw [IntKind.wrap_u64]; omega
set_option maxHeartbeats 1000000 in
theorem mul64_any (x y : Nat) (hx : x < 18446744073709551616) (hy : y < 18446744073709551616) (w : World) :
    Calls Tryz.prog 91 #[.int .u64 x, .int .u64 y] w fun e w' => e = .returned (.tuple #[.int .u64 ((x * y / 18446744073709551616 : Nat) : Int), .int .u64 ((x * y % 18446744073709551616 : Nat) : Int)]) ∧ w' = w := by
  obtain ⟨bd, bt, bw, hhi⟩ := Lib.mul64_hi x y hx hy
  have ba := Lib.half_mul_le (a := x / 4294967296) (b := y / 4294967296) (by omega) (by omega)
  have bb := Lib.half_mul_le (a := x / 4294967296) (b := y % 4294967296) (by omega) (by omega)
  have bc := Lib.half_mul_le (a := x % 4294967296) (b := y / 4294967296) (by omega) (by omega)
  have ba' : x / 4294967296 * (y / 4294967296) < 18446744073709551616 := by omega
  have bb' : x / 4294967296 * (y % 4294967296) < 18446744073709551616 := by omega
  have bc' : x % 4294967296 * (y / 4294967296) < 18446744073709551616 := by omega
  have bh1 : x / 4294967296 * (y / 4294967296) + (x / 4294967296 * (y % 4294967296) + x % 4294967296 * (y % 4294967296) / 4294967296) / 4294967296 < 18446744073709551616 := by omega
  have bh : x / 4294967296 * (y / 4294967296) + (x / 4294967296 * (y % 4294967296) + x % 4294967296 * (y % 4294967296) / 4294967296) / 4294967296 + ((x / 4294967296 * (y % 4294967296) + x % 4294967296 * (y % 4294967296) / 4294967296) % 4294967296 + x % 4294967296 * (y / 4294967296)) / 4294967296 < 18446744073709551616 := by omega
  go_enter Tryz.func91, Tryz.ntmps91
  go_wp2
  simp only [maskN x hx, maskN y hy, divN, mulN, addN, wrapU _ bd, wrapU _ bb', wrapU _ bt, maskN _ bt, wrapU _ bc', wrapU _ bw, wrapU _ ba', wrapU _ bh1, wrapU _ bh, wrapM (x * y)]
  rw [hhi]
  go_ret2
  exact ⟨rfl, rfl⟩

theorem tmul_any {x y h l : Nat} (hx : x ≤ 18446744073709551615) (hy : y ≤ 18446744073709551615) (hs : Tw (x * y) h l) (w : World) :
    Calls Tryz.prog 55 #[.int .u64 x, .int .u64 y] w fun e w' => e = .returned (.agg #[.int .u64 h, .int .u64 l]) ∧ Below w.heap.size w w' := by
  refine cps fun Q hQ => ?_
  obtain ⟨es, hs1, hs2⟩ := hs
  have r1 := mul64_any x y (by omega) (by omega)
  have e1 : x * y / 18446744073709551616 = h := by rw [es]; omega
  have e2 : x * y % 18446744073709551616 = l := by rw [es]; omega
  rw [e1, e2] at r1
  clear e1 e2 es
  go_enter Tryz.func55, Tryz.ntmps55
  go_wp2_with (go_at_call 91; refine (r1 _).mono ?_; rintro e w' ⟨rfl, hw⟩; rw [hw]; clear hw w')
  refine bodyPost_ret (v := .agg #[.int .u64 h, .int .u64 l]) (by simp [results, Tryz.results55, go_sem]) rfl (hQ.out _ _ ⟨rfl, ?_⟩)
  exact bmore (Below.refl _ _) _
end Go.Proofs.YtheliihkkoohnaaGreat

set_option maxRecDepth 100000
namespace Go.Proofs.YtheliihkkoohnaaGreat
open Go.ChangeShapes Go.WideShapes Go.ChangeAt Go.RowKit

theorem infoU8 : (Tryz.prog.info? 5).map (fun i => (i.zero, i.size, i.bytes)) = some (some (.int .u8 0), 1, 1) := by kernel_rfl

def chars (l : List Bool) : List Value := l.map fun b => .int .u8 (bitByte b).toNat
theorem bit_char (x k : Nat) : ((48 + ((x : Int) / 2 ^ k).tmod 2) % 256) = ((bitByte (x.testBit k)).toNat : Int) := by
  rw [shrN, Nat.testBit_eq_decide_div_mod_eq, Nat.shiftRight_eq_div_pow]
  generalize x / 2 ^ k = y
  rw [Int.tmod_eq_emod_of_nonneg (by omega)]
  rcases Nat.mod_two_eq_zero_or_one y with h | h
  · have : ((y:Int)) % 2 = 0 := by omega
    rw [this]; simp [bitByte, h]
  · have : ((y:Int)) % 2 = 1 := by omega
    rw [this]; simp [bitByte, h]

theorem bitsOf_step (x n k : Nat) (h : k < n) : (bitsOf x n).take (k + 1) = (bitsOf x n).take k ++ [x.testBit (n - 1 - k)] := by
  rw [List.take_add_one, bitsOf_get x n k h]; rfl

theorem text_any (x : Nat) (n : Nat) (hn : n ≤ 64) (w : World) :
    Calls Tryz.prog 109 #[.int .u64 x, .int .i64 n] w fun e w' => ∃ s, e = .returned (.string s) ∧ IsBits s (bitsOf x n) ∧ Below w.heap.size w w' := by
  obtain ⟨i0, hi, hz0, hz1, hz2⟩ := info_parts infoU8
  refine cps fun Q hQ => ?_
  go_enter Tryz.func109, Tryz.ntmps109
  go_wp2
  go_loopw [5, 6] (fun v i wr => ∃ k : Nat, k ≤ n ∧ i = .int .i64 ((n : Int) - 1 - k) ∧ wr.ownsRow w.heap.size 5 1 v k (chars ((bitsOf x n).take k)) ∧ Below w.heap.size w wr)
    (fun _ i _ => (intOf i + 1).toNat)
  case atStart => exact ⟨0, Nat.zero_le _, by simp, World.ownsRow_nil _ _ _ _, Below.refl _ _⟩
  case round =>
    obtain ⟨k, hk, rfl, hown, hb⟩ := hrel
    have hs := hb.size
    by_cases hlt : k < n
    · go_wp2_with (at_builtin; go_must (refine append1 rfl _ _ 160 rfl w.heap.size 5 i0 (.int .u8 0) 1 Tryz.underlying160 hi hz0 hz1 hz2 rfl _ _ _ hown rfl rfl rfl (by omega) (by omega) hs ?_); intro v' w1 hown1 hb1 hne1 _)
      go_roundw
      case rel => exact ⟨k + 1, by omega, by go_num, by rw [bitsOf_step x n k hlt]; simpa [chars, bit_char] using hown1, hb.trans hb1⟩
      case measure => simp [intOf]; omega
    · have hkn : k = n := by omega
      subst hkn
      have hcv := run_convert_own (P := Tryz.prog) ((bitsOf x k).map bitByte) (by simpa [chars, bitsOf_length, List.take_of_length_le, Function.comp_def] using hown) Tryz.underlying160 Tryz.underlying5 Tryz.underlying9
      go_wp2
      exact hQ.out _ _ ⟨_, rfl, by simp [IsBits], hb⟩

theorem numOf_step (l : List Bool) (k : Nat) (h : k < l.length) : numOf (l.take (k + 1)) = 2 * numOf (l.take k) + (l.getD k false).toNat := by
  rw [List.take_add_one, List.getElem?_eq_getElem h, List.getD_eq_getElem?_getD, List.getElem?_eq_getElem h]
  exact numOf_snoc _ _
theorem num_char (b : Bool) (m : Nat) : IntKind.u64.wrap (IntKind.u64.wrap (2 * (m : Int)) + (((bitByte b).toNat : Int) - 48) % 256) = (((2 * m + b.toNat) % 2^64 : Nat) : Int) := by
  rw [IntKind.wrap_u64, IntKind.wrap_u64]
  cases b <;> simp [bitByte] <;> omega
theorem number_any (s : ByteArray) (l : List Bool) (hs : IsBits s l) (hl : l.length ≤ 64) (w : World) :
    Calls Tryz.prog 110 #[.string s] w fun e w' => e = .returned (.int .u64 (numOf l : Nat)) ∧ w' = w := by
  have hsz := isBits_size hs
  refine cps fun Q hQ => ?_
  go_enter Tryz.func110, Tryz.ntmps110
  go_wp2
  go_loop [3, 4] (fun v i => ∃ k : Nat, k ≤ s.size ∧ i = .int .i64 k ∧ v = .int .u64 (numOf (l.take k) : Nat)) (fun _ i => s.size - (intOf i).toNat)
  case atStart => exact ⟨0, Nat.zero_le _, rfl, rfl⟩
  case round =>
    obtain ⟨k, hk, rfl, rfl⟩ := hrel
    by_cases hlt : k < s.size
    · go_wp2
      go_round
      case rel =>
        have h2 : numOf (l.take (k + 1)) < 2 ^ 64 := Nat.lt_of_lt_of_le (numOf_lt _) (Nat.pow_le_pow_right (by decide) (by rw [List.length_take]; omega))
        refine ⟨k + 1, by omega, by go_num, ?_⟩
        rw [isBits_get hs k hlt, num_char, ← numOf_step l k (by omega), Nat.mod_eq_of_lt h2]
      case measure => simp [intOf]; omega
    · go_wp2
      have hkn : k = s.size := by omega
      subst hkn
      exact hQ.out _ _ ⟨by rw [List.take_of_length_le (by omega)], rfl⟩

/-! ### the library's Len64, LeadingZeros64 -/
set_option maxRecDepth 100000 in
theorem len8tab_size : (Lib.len8tab.size : Int) = 256 := by
  have : Lib.len8tab.size = 256 := by decide
  omega
theorem len8_get (y : Int) (h : y.toNat < Lib.len8tab.size) : ((Lib.len8tab[y.toNat]'h).toNat : Int) = Lib.len8 y := by
  unfold Lib.len8
  rw [getElem?_pos Lib.len8tab y.toNat h]
  rfl
theorem len8_fin (k P X : Nat) (K : Int) (y : Int) (hP : P = 2 ^ k) (hK : K = k) (h0 : 0 ≤ y) (h1 : y ≤ 255) (hk : k ≤ 56) (hX : X < 2 ^ 64) (hPX : P ≤ X) (hy : y.toNat = X / P) :
    wrap64 (K + wrap64 (Lib.len8 y)) = (Lib.bitLen X : Int) := by
  rw [Lib.len8_of y h0 h1, hK]
  have l := Lib.bitLen_le8' y h0 h1
  have s := Lib.bitLen_shift k X (hP ▸ hPX) hX
  rw [← hP] at s
  rw [hy] at l ⊢
  generalize Lib.bitLen (X / P) = a at *
  generalize Lib.bitLen X = b at *
  clear hP hX hPX hy h0 h1
  unfold wrap64
  omega
theorem len8_fin0 (X : Nat) (y : Int) (h0 : 0 ≤ y) (h1 : y ≤ 255) (hy : y.toNat = X) :
    wrap64 (wrap64 (Lib.len8 y)) = (Lib.bitLen X : Int) := by
  rw [Lib.len8_of y h0 h1]
  have l := Lib.bitLen_le8' y h0 h1
  rw [hy] at l ⊢
  generalize Lib.bitLen X = b at *
  clear h0 h1 hy
  unfold wrap64
  omega
set_option maxRecDepth 100000 in
theorem len64_int (x : Int) (h0 : 0 ≤ x) (h1 : x ≤ 18446744073709551615) (w : World) :
    Calls Tryz.prog 122 #[.int .u64 x] w fun e w' => e = .returned (.int .i64 (Lib.bitLen x.toNat)) ∧ w' = w := by
  have hsz := len8tab_size
  go_enter Tryz.func122, Tryz.ntmps122
  go_wp2
  all_goals (go_ret; refine ⟨congrArg Ending.returned (congrArg (Value.int IntKind.i64) ?_), rfl⟩; rw [len8_get]; clear hsz)
  all_goals first
    | exact len8_fin 56 72057594037927936 x.toNat 56 (x / 4294967296 / 65536 / 256) rfl rfl (by omega) (by omega) (by decide) (by omega) (by omega) (by omega)
    | exact len8_fin 48 281474976710656 x.toNat 48 (x / 4294967296 / 65536) rfl rfl (by omega) (by omega) (by decide) (by omega) (by omega) (by omega)
    | exact len8_fin 40 1099511627776 x.toNat 40 (x / 4294967296 / 256) rfl rfl (by omega) (by omega) (by decide) (by omega) (by omega) (by omega)
    | exact len8_fin 32 4294967296 x.toNat 32 (x / 4294967296) rfl rfl (by omega) (by omega) (by decide) (by omega) (by omega) (by omega)
    | exact len8_fin 24 16777216 x.toNat 24 (x / 65536 / 256) rfl rfl (by omega) (by omega) (by decide) (by omega) (by omega) (by omega)
    | exact len8_fin 16 65536 x.toNat 16 (x / 65536) rfl rfl (by omega) (by omega) (by decide) (by omega) (by omega) (by omega)
    | exact len8_fin 8 256 x.toNat 8 (x / 256) rfl rfl (by omega) (by omega) (by decide) (by omega) (by omega) (by omega)
    | exact len8_fin0 x.toNat x (by omega) (by omega) rfl
theorem len64_any (x : Nat) (hx : x < 18446744073709551616) (w : World) :
    Calls Tryz.prog 122 #[.int .u64 x] w fun e w' => e = .returned (.int .i64 (Lib.bitLen x)) ∧ w' = w := by
  have := len64_int (x : Int) (by omega) (by omega) w
  simpa using this
end Go.Proofs.YtheliihkkoohnaaGreat

namespace Go.Proofs.YtheliihkkoohnaaGreat
set_option maxRecDepth 100000
open Go.ChangeShapes Go.WideShapes Go.ChangeAt Go.RowKit
set_option linter.unusedVariables false

theorem bthen {a W w : World} (h : Below a.heap.size a W) (hb : Below W.heap.size W w) : Below a.heap.size a w := h.trans (hb.mono h.size)
theorem bdrew {a W : World} (h : Below a.heap.size a W) : Below a.heap.size a W.drew := h.drew
theorem bdrewN {a W : World} (h : Below a.heap.size a W) (q : Nat) : Below a.heap.size a (W.drewN q) := below_drewN h q

theorem drew_at (w : World) (c : Array Value) (t : TypeId) (n i : Nat) (hn : n = w.heap.size) : (w.alloc (.cells c t)).drew.cell? ⟨n, i, none⟩ = c[i]? := World.cell?_alloc_at c t n i hn
theorem bcell {W w1 : World} (hb : Below W.heap.size W w1) : (∀ b o, b < W.heap.size → w1.cell? ⟨b, o, none⟩ = W.cell? ⟨b, o, none⟩) ∧ (∀ b o, b < W.heap.size → w1.frozen? ⟨b, o, none⟩ = W.frozen? ⟨b, o, none⟩) :=
  ⟨fun b o h => hb.cell (p := ⟨b, o, none⟩) h, fun b o h => hb.frozen (p := ⟨b, o, none⟩) h⟩
theorem bset {a W : World} {b : Nat} (h : Below a.heap.size a W) (hb : a.heap.size ≤ b) (o : Nat) (v : Value) : Below a.heap.size a (W.setCell ⟨b, o, none⟩ v) := h.setCell hb _
theorem Tw.lt {n h l : Nat} (t : Tw n h l) : n < 340282366920938463463374607431768211456 := by
  obtain ⟨e, a, b⟩ := t; omega
/-! ### cmp -/
theorem isnan_any (x : Nat) (w : World) : Calls Tryz.prog 129 #[.int .u64 x] w fun e w' => e = .returned (.bool false) ∧ w' = w := by
  refine cps fun Q hQ => ?_
  go_enter Tryz.func129, Tryz.ntmps129
  go_wp2
  exact hQ.out _ _ ⟨by simp, rfl⟩
theorem compare_any (x y : Nat) (w : World) : Calls Tryz.prog 124 #[.int .u64 x, .int .u64 y] w fun e w' => e = .returned (.int .i64 (cmpN x y)) ∧ w' = w := by
  refine cps fun Q hQ => ?_
  have hE : (x < y ∧ cmpN x y = -1) ∨ (y < x ∧ cmpN x y = 1) ∨ (x = y ∧ cmpN x y = 0) := by
    unfold cmpN; split
    · exact .inl ⟨by assumption, rfl⟩
    · split
      · exact .inr (.inr ⟨by assumption, rfl⟩)
      · exact .inr (.inl ⟨by omega, rfl⟩)
  rcases hE with ⟨h, hE⟩ | ⟨h, hE⟩ | ⟨h, hE⟩
  all_goals
    rw [hE] at hQ
    have hlt : ((x : Int) < (y : Int)) = (x < y) := by simp
    clear hE
    go_enter Tryz.func124, Tryz.ntmps124
    go_wp2_with (go_at_call 129; refine (isnan_any _ _).mono ?_; rintro e w' ⟨rfl, hw⟩; rw [hw]; clear hw w')
    exact hQ.out _ _ ⟨rfl, rfl⟩
theorem or_any (x y : Int) (g : Nat) (w : World) (c1 : w.cell? ⟨g, 0, none⟩ = some (.int .i64 x)) (c2 : w.cell? ⟨g, 1, none⟩ = some (.int .i64 y)) :
    Calls Tryz.prog 96 #[.slice (some ⟨g, 0, none⟩) 2 2] w fun e w' => e = .returned (.int .i64 (if x = 0 then y else x)) ∧ w' = w := by
  refine cps fun Q hQ => ?_
  go_enter Tryz.func96, Tryz.ntmps96
  go_wp2
  go_loop [8] (fun i => i = .int .i64 0 ∨ (i = .int .i64 1 ∧ x = 0) ∨ (i = .int .i64 2 ∧ x = 0 ∧ y = 0)) (fun i => (2 - intOf i).toNat)
  case atStart => exact .inl rfl
  case round =>
    rcases hrel with rfl | ⟨rfl, hx⟩ | ⟨rfl, hx, hy⟩
    · by_cases hx : x = 0
      · subst hx
        go_wp2
        go_round
        case rel => exact .inr (.inl ⟨rfl, by trivial⟩)
        case measure => simp [intOf]
      · rw [if_neg hx] at hQ
        go_wp2
        exact hQ.out _ _ ⟨rfl, rfl⟩
    · subst hx
      rw [if_pos rfl] at hQ
      by_cases hy : y = 0
      · subst hy
        go_wp2
        go_round
        case rel => exact .inr (.inr ⟨rfl, by trivial, by trivial⟩)
        case measure => simp [intOf]
      · go_wp2
        exact hQ.out _ _ ⟨rfl, rfl⟩
    · subst hx hy
      rw [if_pos rfl] at hQ
      go_wp2
      exact hQ.out _ _ ⟨rfl, rfl⟩
theorem or_any' (x y z : Int) (hz : z = if x = 0 then y else x) (g : Nat) (w : World) (c1 : w.cell? ⟨g, 0, none⟩ = some (.int .i64 x)) (c2 : w.cell? ⟨g, 1, none⟩ = some (.int .i64 y)) :
    Calls Tryz.prog 96 #[.slice (some ⟨g, 0, none⟩) 2 2] w fun e w' => e = .returned (.int .i64 z) ∧ w' = w := by rw [hz]; exact or_any x y g w c1 c2
theorem cmp_words {a b h1 l1 h2 l2 : Nat} (ha : Tw a h1 l1) (hb : Tw b h2 l2) : (if cmpN h1 h2 = 0 then cmpN l1 l2 else cmpN h1 h2) = cmpN a b := by
  obtain ⟨ea, ha1, ha2⟩ := ha
  obtain ⟨eb, hb1, hb2⟩ := hb
  rcases Nat.lt_trichotomy h1 h2 with h | h | h
  · rw [cmpN_lt h, cmpN_lt (show a < b by omega)]; rfl
  · subst h
    rw [cmpN_eq, if_pos rfl]
    rcases Nat.lt_trichotomy l1 l2 with h | h | h
    · rw [cmpN_lt h, cmpN_lt (show a < b by omega)]
    · subst h; rw [cmpN_eq, show a = b by omega, cmpN_eq]
    · rw [cmpN_gt h, cmpN_gt (show b < a by omega)]
  · rw [cmpN_gt h, cmpN_gt (show b < a by omega)]; rfl
/-! ### Len -/
theorem bitLen_eq (x : Nat) (hx : x ≤ 18446744073709551615) : Lib.bitLen x = blen x := by
  have h1 : ∀ f x : Nat, x < 2 ^ f → Lib.bitLenAux f x = blen x := by
    intro f
    induction f with
    | zero => intro x h; have : x = 0 := by omega
              subst this; rw [blen_zero]; rfl
    | succ f ih =>
      intro x h
      unfold Lib.bitLenAux
      by_cases h0 : x = 0
      · subst h0; rw [blen_zero]; rfl
      · rw [if_neg h0, blen_pos h0, ih _ (by rw [Nat.pow_succ] at h; omega), Nat.add_comm]
  exact h1 64 x (by omega)
theorem tlen_any {a h1 l1 : Nat} (ha : Tw a h1 l1) (w : World) :
    Calls Tryz.prog 121 #[.agg #[.int .u64 h1, .int .u64 l1]] w fun e w' => e = .returned (.int .i64 (blen a)) ∧ Below w.heap.size w w' := by
  refine cps fun Q hQ => ?_
  obtain ⟨ea, ha1, ha2⟩ := ha
  have r : ∀ (x : Nat) (hx : x ≤ 18446744073709551615) (w : World), Calls Tryz.prog 122 #[.int .u64 x] w fun e w' => e = .returned (.int .i64 (blen x)) ∧ w' = w := fun x hx w => by
    rw [← bitLen_eq x hx]; exact len64_any x (by omega) w
  by_cases h0 : h1 = 0
  · have e : a = l1 := by omega
    rw [e] at hQ
    have r2 := r l1 ha2
    clear r e ea
    subst h0
    go_enter Tryz.func121, Tryz.ntmps121
    go_wp2_with (go_at_call 122; refine (r2 _).mono ?_; rintro e w' ⟨rfl, hw⟩; rw [hw]; clear hw w')
    exact hQ.out _ _ ⟨rfl, bmore (Below.refl _ _) _⟩
  · have hd : a / 2 ^ 64 = h1 := by omega
    have e := blen_shift (a := a) (k := 64) (by omega)
    rw [hd] at e
    rw [e] at hQ
    have r2 := r h1 ha1
    have hb : blen h1 ≤ 64 := blen_le.2 (by omega)
    generalize blen h1 = L at *
    clear r e ea hd
    go_enter Tryz.func121, Tryz.ntmps121
    go_wp2_with (go_at_call 122; refine (r2 _).mono ?_; rintro e w' ⟨rfl, hw⟩; rw [hw]; clear hw w')
    exact hQ.out _ _ ⟨ret_i (by omega), bmore (Below.refl _ _) _⟩
end Go.Proofs.YtheliihkkoohnaaGreat

namespace Go.Proofs.YtheliihkkoohnaaGreat
set_option maxRecDepth 100000
open Go.ChangeShapes Go.WideShapes Go.ChangeAt Go.RowKit
set_option linter.unusedVariables false

/-! ### a region whose order is open, some of whose operations read cells that stand still throughout (the class C of worlds) -/
section
variable {P : Program} {ops : Array Oper} {Q : Exit → Act → World → Prop} {md : Region.Mode} {C : World → Prop}

/-- an operation carried past a slot that it doesn't look at; Y: what is known of the slots all the while -/
theorem wpOp_past {j : Nat} {oj : Oper} {dst : Option Tmp} {v : Value} (hj : ops[j]? = some oj)
    (h1 : ∀ d, dst = some d → d ∉ oj.looksAt ops) (h2 : ∀ d, dst = some d → oj.dst ≠ some d) (hsj : ∀ cs b, oj.op ≠ .select cs b)
    (hQ : ∀ c a w, Q (.panic c) (a.put dst v) w → Q (.panic c) a w) {Y : Act → Prop} (hY : ∀ a u, Y a → Y (a.put oj.dst u))
    (hD : ∀ a d, Y a → Y { a with defers := d :: a.defers }) {K : Act → World → Prop} {a : Act} {w : World} (hy : Y a)
    (h : wpOp P ops Q j K (a.put dst v) w) : wpOp P ops Q j (fun a' w' => Y a' ∧ K (a'.put dst v) w') a w := by
  have back : ∀ (b : Act) u w', Y b → K ((b.put dst v).put oj.dst u) w' → Y (b.put oj.dst u) ∧ K ((b.put oj.dst u).put dst v) w' :=
    fun b u w' hb hk => ⟨hY b u hb, by rw [← Act.put_comm b v u h2]; exact hk⟩
  unfold wpOp at h ⊢
  rw [hj] at h ⊢
  simp only [wanted_put oj a dst v h1] at h
  by_cases hw : Region.wanted oj (yielded ops a.tmps) = true
  · simp only [hw, if_true] at h ⊢
    rcases h with h | ⟨ha, hl⟩
    · refine .inl ?_
      unfold Oper.wp at h ⊢
      rw [execOp_put oj hsj a dst v h1] at h
      cases hr : (execOp a.eval oj).run P w with
      | halt x w' =>
        rw [hr] at h
        cases x <;> simp only [Oper.upon] at h ⊢
        exact hQ _ _ _ h
      | ok n w' =>
        rw [hr] at h
        cases n <;> simp only [Oper.upon] at h ⊢
        case value u => exact back a u w' hy h
        case skip => exact back a undef w' hy h
        case defer d =>
          refine back _ undef w' (hD a d hy) ?_
          rw [← Act.put_defers]; exact h
        case enter f args =>
          refine Calls.mono h fun e w'' he => ?_
          cases e with
          | returned u => exact back a u w'' hy he
          | panicked c => exact hQ _ _ _ he
          | outgrown => exact he
        case row r1 r2 => exact Rows.mono h fun u w'' he => back a u w'' hy he
    · refine .inr ⟨?_, hl⟩
      unfold Oper.asks at ha ⊢
      rw [execOp_put oj hsj a dst v h1] at ha
      exact ha
  · simp only [hw] at h ⊢
    exact back a undef w hy h

/-- o yields v in whatever world of the class -/
def YieldsC (C : World → Prop) (P : Program) (ops : Array Oper) (o : Oper) (v : Value) (a : Act) : Prop :=
  (Region.wanted o (yielded ops a.tmps) = true ∧ ∀ w, C w → (execOp a.eval o).run P w = .ok (.value v) w) ∨
  (Region.wanted o (yielded ops a.tmps) = false ∧ v = undef)
/-- every order, and the world stays in the class -/
def wpAnyC (C : World → Prop) (P : Program) (md : Region.Mode) (ops : Array Oper) (Q : Exit → Act → World → Prop) : Nat → Array Bool → Act → World → Prop
  | 0, listed, a, w => C w ∧ Region.ready md ops listed = [] ∧ Q .normal a w
  | fuel + 1, listed, a, w => C w ∧ (Region.ready md ops listed = [] → Q .normal a w) ∧
      ∀ i ∈ Region.ready md ops listed, wpOp P ops Q i (wpAnyC C P md ops Q fuel (listed.setIfInBounds i true)) a w
theorem wpAnyC_sound : ∀ (fuel : Nat) (listed : Array Bool) (a : Act) (w : World), wpAnyC C P md ops Q fuel listed a w → wpAny P md ops Q fuel listed a w
  | 0, _, _, _, h => h.2
  | fuel + 1, listed, _, _, h => ⟨h.2.1, fun i hi => wpOp_mono (fun a w => wpAnyC_sound fuel (listed.setIfInBounds i true) a w) (h.2.2 i hi)⟩
theorem wpC_first {i : Nat} {oi : Oper} {v : Value} (hi : ops[i]? = some oi) (hsel : ∀ (j : Nat) (o : Oper) cs b, ops[j]? = some o → o.op ≠ .select cs b)
    (hQ : ∀ c a w, Q (.panic c) (a.put oi.dst v) w → Q (.panic c) a w) :
    ∀ (fuel : Nat) (listed : Array Bool) (a : Act) (w : World),
      (∀ j oj, ops[j]? = some oj → j ≠ i → listed.getD j true = false → (∀ e ∈ oj.after, Region.binds md e = true → e.on ≠ i) → oi.apart ops oj = true) →
      i ∈ Region.ready md ops listed → YieldsC C P ops oi v a →
      wpAnyC C P md ops Q fuel (listed.setIfInBounds i true) (a.put oi.dst v) w → wpAnyC C P md ops Q (fuel + 1) listed a w := by
  intro fuel
  induction fuel with
  | zero =>
    intro listed a w _ hr hy H
    refine ⟨H.1, fun h => (by rw [h] at hr; cases hr), fun j hj => ?_⟩
    by_cases hji : j = i
    · subst hji
      unfold wpOp
      simp only [hi]
      rcases hy with ⟨hw, hv⟩ | ⟨hw, rfl⟩
      · simp only [hw, if_true, Oper.wp, hv w H.1, Oper.upon]; exact .inl H
      · simp only [hw]; exact H
    · have := ready_mono hj hji
      rw [H.2.1] at this
      cases this
  | succ fuel ih =>
    intro listed a w hfree hr hy H
    refine ⟨H.1, fun h => (by rw [h] at hr; cases hr), fun j hj => ?_⟩
    by_cases hji : j = i
    · subst hji
      unfold wpOp
      simp only [hi]
      rcases hy with ⟨hw, hv⟩ | ⟨hw, rfl⟩
      · simp only [hw, if_true, Oper.wp, hv w H.1, Oper.upon]; exact .inl H
      · simp only [hw]; exact H
    · have g := H.2.2 j (ready_mono hj hji)
      obtain ⟨hjun, oj, hoj, hall⟩ := mem_ready.1 hj
      have hnot : ∀ e ∈ oj.after, Region.binds md e = true → e.on ≠ i := fun e he hb heq => by
        have g1 := hall e he hb
        have g0 := (mem_ready.1 hr).1
        rw [heq] at g1
        rcases Nat.lt_or_ge i listed.size with h' | h'
        · simp [h'] at g0 g1; rw [g0] at g1; cases g1
        · simp [Array.getElem?_eq_none h'] at g1
      obtain ⟨a1, a2, a3⟩ := Oper.apart_spec (hfree j oj hoj hji hjun hnot)
      have g2 := wpOp_past hoj a1 a2 (fun cs b => hsel j oj cs b hoj) hQ (Y := fun b => YieldsC C P ops oi v b)
        (fun b u hb => by unfold YieldsC at *; rw [execOp_put oi (fun cs d => hsel i oi cs d hi) b oj.dst u a3, wanted_put oi b oj.dst u a3]; exact hb)
        (fun b d hb => hb) hy g
      have hfree' : ∀ k ok, ops[k]? = some ok → k ≠ i → (listed.setIfInBounds j true).getD k true = false →
          (∀ e ∈ ok.after, Region.binds md e = true → e.on ≠ i) → oi.apart ops ok = true := fun k ok hk hki hun hno => by
        refine hfree k ok hk hki ?_ hno
        by_cases hjk : j = k
        · subst hjk; exact hjun
        · rw [getD_set_ne true hjk] at hun; exact hun
      refine wpOp_mono (fun a' w' g3 => ih (listed.setIfInBounds j true) a' w' hfree' (ready_mono hr (Ne.symm hji)) g3.1 ?_) g2
      rw [Array.setIfInBounds_comm _ _ hji]
      exact g3.2
/-- such an operation goes first -/
theorem wpC_take (i : Nat) {oi : Oper} {v : Value} {fuel : Nat} {listed : Array Bool} {a : Act} {w : World} (hi : ops[i]? = some oi)
    (hf : (Region.noSelect ops && Region.free md ops listed i && (Region.ready md ops listed).contains i) = true)
    (hQ : ∀ c a w, Q (.panic c) (a.put oi.dst v) w → Q (.panic c) a w) (hwant : Region.wanted oi (yielded ops a.tmps) = true)
    (hy : ∀ w, C w → (execOp a.eval oi).run P w = .ok (.value v) w)
    (h : wpAnyC C P md ops Q fuel (listed.setIfInBounds i true) (a.put oi.dst v) w) : wpAnyC C P md ops Q (fuel + 1) listed a w := by
  simp only [Bool.and_eq_true] at hf
  exact wpC_first hi (Region.noSelect_spec hf.1.1) hQ fuel listed a w (Region.free_spec hi hf.1.2) (by simpa using hf.2) (.inl ⟨hwant, hy⟩) h
/-- one alone may come next -/
theorem wpC_step (i : Nat) {o : Oper} {fuel : Nat} {listed : Array Bool} {a : Act} {w : World} (hi : ops[i]? = some o)
    (hr : Region.ready md ops listed = [i]) (hwant : Region.wanted o (yielded ops a.tmps) = true) (hC : C w)
    (h : ∀ K : Act → World → Prop, (∀ a w, wpAnyC C P md ops Q fuel (listed.setIfInBounds i true) a w → K a w) → Oper.wp P o a w K Q) :
    wpAnyC C P md ops Q (fuel + 1) listed a w := by
  refine ⟨hC, fun h0 => (by rw [h0] at hr; cases hr), fun j hj => ?_⟩
  rw [hr] at hj
  have : j = i := by simpa using hj
  subst this
  unfold wpOp
  simp only [hi, hwant, if_true]
  exact .inl (h _ fun _ _ g => g)
/-- one of two may come next -/
theorem wpC_two (i i' : Nat) {o o' : Oper} {fuel : Nat} {listed : Array Bool} {a : Act} {w : World} (hi : ops[i]? = some o) (hi' : ops[i']? = some o')
    (hr : Region.ready md ops listed = [i, i']) (hwant : Region.wanted o (yielded ops a.tmps) = true) (hwant' : Region.wanted o' (yielded ops a.tmps) = true) (hC : C w)
    (h : ∀ K : Act → World → Prop, (∀ a w, wpAnyC C P md ops Q fuel (listed.setIfInBounds i true) a w → K a w) → Oper.wp P o a w K Q)
    (h' : ∀ K : Act → World → Prop, (∀ a w, wpAnyC C P md ops Q fuel (listed.setIfInBounds i' true) a w → K a w) → Oper.wp P o' a w K Q) :
    wpAnyC C P md ops Q (fuel + 1) listed a w := by
  refine ⟨hC, fun h0 => (by rw [h0] at hr; cases hr), fun j hj => ?_⟩
  rw [hr] at hj
  have hj : j = i ∨ j = i' := by simpa using hj
  unfold wpOp
  rcases hj with rfl | rfl
  · simp only [hi, hwant, if_true]
    exact .inl (h _ fun _ _ g => g)
  · simp only [hi', hwant', if_true]
    exact .inl (h' _ fun _ _ g => g)
theorem wpC_done {listed : Array Bool} {fuel : Nat} {a : Act} {w : World} (hr : Region.ready md ops listed = []) (hC : C w) (h : Q .normal a w) : wpAnyC C P md ops Q fuel listed a w := by
  cases fuel with
  | zero => exact ⟨hC, hr, h⟩
  | succ fuel => exact ⟨hC, fun _ => h, fun i hi => by rw [hr] at hi; cases hi⟩
theorem wpC_region (C : World → Prop) {id : Nat} {a : Act} {w : World} (hm : P.follows .mixedOrders = true)
    (h : wpAnyC C P .any ops Q ops.size (Array.replicate ops.size false) a w.drew) : (Code.region id ops true).wp P Q a w :=
  wp_region_any hm (wpAnyC_sound _ _ _ _ h)
end
end Go.Proofs.YtheliihkkoohnaaGreat

namespace Go.Proofs.YtheliihkkoohnaaGreat
set_option maxRecDepth 100000
open Go.ChangeShapes Go.WideShapes Go.ChangeAt Go.RowKit
set_option linter.unusedVariables false

set_option maxHeartbeats 2000000 in
theorem tcmp_any {a b h1 l1 h2 l2 : Nat} (ha : Tw a h1 l1) (hb : Tw b h2 l2) (w : World) :
    Calls Tryz.prog 98 #[.agg #[.int .u64 h1, .int .u64 l1], .agg #[.int .u64 h2, .int .u64 l2]] w fun e w' => e = .returned (.int .i64 (cmpN a b)) ∧ Below w.heap.size w w' := by
  refine cps fun Q hQ => ?_
  rw [← cmp_words ha hb] at hQ
  clear ha hb
  obtain ⟨x, hx⟩ : ∃ x, x = cmpN h1 h2 := ⟨_, rfl⟩
  obtain ⟨y, hy⟩ : ∃ x, x = cmpN l1 l2 := ⟨_, rfl⟩
  have r1 := compare_any h1 h2
  have r2 := compare_any l1 l2
  rw [← hx] at r1 hQ
  rw [← hy] at r2 hQ
  obtain ⟨z, hz⟩ : ∃ z, z = if x = 0 then y else x := ⟨_, rfl⟩
  rw [← hz] at hQ
  have HZ : Hid (z = if x = 0 then y else x) := hz
  clear hx hy hz
  go_enter Tryz.func98, Tryz.ntmps98
  go_wp2
  refine wpC_region (fun W => W.cell? ⟨w.heap.size, 0, none⟩ = some (.int .u64 h1) ∧ W.cell? ⟨w.heap.size, 1, none⟩ = some (.int .u64 l1) ∧ W.cell? ⟨w.heap.size + 1, 0, none⟩ = some (.int .u64 h2) ∧ W.cell? ⟨w.heap.size + 1, 1, none⟩ = some (.int .u64 l2)) (by kernel_rfl) ?_
  refine wpC_take 0 (v := ?_) rfl (by kernel_rfl) (fun _ _ _ h => h) (by kernel_rfl) ?_ ?_; rotate_left; · (intro wC hC; obtain ⟨c1, c2, c3, c4⟩ := hC; go_simp <;> with_reducible rfl)
  refine wpC_take 1 (v := ?_) rfl (by kernel_rfl) (fun _ _ _ h => h) (by kernel_rfl) ?_ ?_; rotate_left; · (intro wC hC; obtain ⟨c1, c2, c3, c4⟩ := hC; go_simp <;> with_reducible rfl)
  refine wpC_take 2 (v := ?_) rfl (by kernel_rfl) (fun _ _ _ h => h) (by kernel_rfl) ?_ ?_; rotate_left; · (intro wC hC; obtain ⟨c1, c2, c3, c4⟩ := hC; go_simp <;> with_reducible rfl)
  refine wpC_take 3 (v := ?_) rfl (by kernel_rfl) (fun _ _ _ h => h) (by kernel_rfl) ?_ ?_; rotate_left; · (intro wC hC; obtain ⟨c1, c2, c3, c4⟩ := hC; go_simp <;> with_reducible rfl)
  refine wpC_take 5 (v := ?_) rfl (by kernel_rfl) (fun _ _ _ h => h) (by kernel_rfl) ?_ ?_; rotate_left; · (intro wC hC; obtain ⟨c1, c2, c3, c4⟩ := hC; go_simp <;> with_reducible rfl)
  refine wpC_take 6 (v := ?_) rfl (by kernel_rfl) (fun _ _ _ h => h) (by kernel_rfl) ?_ ?_; rotate_left; · (intro wC hC; obtain ⟨c1, c2, c3, c4⟩ := hC; go_simp <;> with_reducible rfl)
  refine wpC_take 7 (v := ?_) rfl (by kernel_rfl) (fun _ _ _ h => h) (by kernel_rfl) ?_ ?_; rotate_left; · (intro wC hC; obtain ⟨c1, c2, c3, c4⟩ := hC; go_simp <;> with_reducible rfl)
  refine wpC_take 8 (v := ?_) rfl (by kernel_rfl) (fun _ _ _ h => h) (by kernel_rfl) ?_ ?_; rotate_left; · (intro wC hC; obtain ⟨c1, c2, c3, c4⟩ := hC; go_simp <;> with_reducible rfl)
  refine wpC_step 4 rfl (by kernel_rfl) (by kernel_rfl) (by simp [go_sem]) (fun K hK => ?_)
  go_simp
  go_wp2_with ((go_at_call_of 124 h1; refine (r1 _).mono ?_; rintro e w' ⟨rfl, hw⟩; rw [hw]; clear hw w'))
  try (refine hK _ _ ?_; clear hK K)
  refine wpC_step 9 rfl (by kernel_rfl) (by kernel_rfl) (by simp [go_sem]) (fun K hK => ?_)
  go_simp
  go_wp2_with ((go_at_call_of 124 l1; refine (r2 _).mono ?_; rintro e w' ⟨rfl, hw⟩; rw [hw]; clear hw w'))
  try (refine hK _ _ ?_; clear hK K)
  refine wpC_step 10 rfl (by kernel_rfl) (by kernel_rfl) (by simp [go_sem]) (fun K hK => ?_)
  go_simp
  try (refine hK _ _ ?_; clear hK K)
  refine wpC_step 11 rfl (by kernel_rfl) (by kernel_rfl) (by simp [go_sem]) (fun K hK => ?_)
  go_simp
  go_wp2_with ((go_at_call 96; refine (or_any' x y z HZ.out _ _ (drew_at _ _ _ _ 0 (by simp)) (drew_at _ _ _ _ 1 (by simp))).mono ?_; rintro e w' ⟨rfl, hw⟩; rw [hw]; clear hw w'))
  try (refine hK _ _ ?_; clear hK K)
  refine wpC_step 12 rfl (by kernel_rfl) (by kernel_rfl) (by simp [go_sem]) (fun K hK => ?_)
  go_simp
  try (refine hK _ _ ?_; clear hK K)
  refine wpC_done (by kernel_rfl) (by simp [go_sem]) ?_
  go_wp2
  refine hQ.out _ _ ⟨rfl, ?_⟩
  exact (bmore (bmore (bmore (Below.refl _ _) _) _) _).drew
end Go.Proofs.YtheliihkkoohnaaGreat

namespace Go.Proofs.YtheliihkkoohnaaGreat
set_option maxRecDepth 100000
open Go.ChangeShapes Go.WideShapes Go.ChangeAt Go.RowKit
set_option linter.unusedVariables false

theorem up_near (h1 l1 k : Nat) (hh : h1 ≤ 18446744073709551615) (hl : l1 ≤ 18446744073709551615) (hk : k < 64) :
    Tw ((h1 * 18446744073709551616 + l1) * 2 ^ k % 340282366920938463463374607431768211456) (((h1 <<< k) % 2 ^ 64) ||| (l1 >>> (64 - k))) ((l1 <<< k) % 2 ^ 64) := by
  have e : 2 ^ 64 = 2 ^ k * 2 ^ (64 - k) := by rw [← Nat.pow_add]; congr 1; omega
  have hp : 0 < 2 ^ k := Nat.pow_pos (by decide)
  have hq : 0 < 2 ^ (64 - k) := Nat.pow_pos (by decide)
  have h3 : l1 >>> (64 - k) < 2 ^ k := by
    rw [Nat.shiftRight_eq_div_pow]; exact Nat.div_lt_of_lt_mul (by rw [Nat.mul_comm, ← e]; omega)
  have h4 : (h1 <<< k) % 2 ^ 64 = (h1 % 2 ^ (64 - k)) <<< k := by
    rw [Nat.shiftLeft_eq, Nat.shiftLeft_eq, e, Nat.mul_comm h1, Nat.mul_mod_mul_left, Nat.mul_comm]
  have h5 : ((h1 <<< k) % 2 ^ 64) ||| (l1 >>> (64 - k)) = (h1 <<< k) % 2 ^ 64 + l1 >>> (64 - k) := by
    rw [h4, Nat.shiftLeft_add_eq_or_of_lt h3]
  rw [h5]
  have h6 : l1 * 2 ^ k = (l1 >>> (64 - k)) * 2 ^ 64 + (l1 <<< k) % 2 ^ 64 := by
    rw [Nat.shiftRight_eq_div_pow, Nat.shiftLeft_eq]
    have h7 : l1 / 2 ^ (64 - k) = l1 * 2 ^ k / 2 ^ 64 := by rw [e, Nat.mul_comm (2 ^ k) (2 ^ (64 - k)), Nat.mul_div_mul_right _ _ hp]
    rw [h7]; omega
  have h8 : (h1 * 18446744073709551616 + l1) * 2 ^ k = h1 * 2 ^ k * 18446744073709551616 + l1 * 2 ^ k := by rw [Nat.add_mul, Nat.mul_right_comm]
  have h9 : (h1 <<< k) = h1 * 2 ^ k := Nat.shiftLeft_eq _ _
  have h10 : h1 * 2 ^ k % 2 ^ 64 + l1 >>> (64 - k) < 2 ^ 64 := by
    rw [← h9, h4, Nat.shiftLeft_eq]
    have := Nat.mod_lt h1 hq
    have h11 : (h1 % 2 ^ (64 - k) + 1) * 2 ^ k ≤ 2 ^ (64 - k) * 2 ^ k := Nat.mul_le_mul this (Nat.le_refl _)
    rw [Nat.add_mul, Nat.one_mul, Nat.mul_comm (2 ^ (64 - k)), ← e] at h11
    omega
  rw [h8, h6, h9]
  generalize h1 * 2 ^ k = X at *
  generalize l1 >>> (64 - k) = Y at *
  have hz : l1 <<< k % 2 ^ 64 < 2 ^ 64 := Nat.mod_lt _ (by decide)
  generalize l1 <<< k % 2 ^ 64 = Z at *
  clear h3 h4 h5 h6 h8 h9 e hp hq
  refine ⟨by omega, by omega, by omega⟩
theorem up_far (h1 l1 k : Nat) (hk : 64 ≤ k) : Tw ((h1 * 18446744073709551616 + l1) * 2 ^ k % 340282366920938463463374607431768211456) ((l1 <<< (k - 64)) % 2 ^ 64) 0 := by
  have e : 2 ^ k = 2 ^ (k - 64) * 2 ^ 64 := by rw [← Nat.pow_add]; congr 1; omega
  have h8 : (h1 * 18446744073709551616 + l1) * 2 ^ k = h1 * 2 ^ (k - 64) * 340282366920938463463374607431768211456 + l1 * 2 ^ (k - 64) * 18446744073709551616 := by
    rw [e, Nat.add_mul, show (340282366920938463463374607431768211456 : Nat) = 2 ^ 64 * 2 ^ 64 by decide, show (18446744073709551616 : Nat) = 2 ^ 64 by decide]
    rw [← Nat.mul_assoc l1, ← Nat.mul_assoc (h1 * 2 ^ (k - 64)), Nat.mul_assoc h1 (2 ^ 64), Nat.mul_comm (2 ^ 64) (2 ^ (k - 64) * 2 ^ 64), ← Nat.mul_assoc h1, ← Nat.mul_assoc h1]
  rw [h8, Nat.shiftLeft_eq]
  generalize h1 * 2 ^ (k - 64) = X
  generalize l1 * 2 ^ (k - 64) = Y
  refine ⟨by omega, by omega, by omega⟩
theorem down_near (h1 l1 k : Nat) (hh : h1 ≤ 18446744073709551615) (hl : l1 ≤ 18446744073709551615) (hk : k < 64) :
    Tw ((h1 * 18446744073709551616 + l1) / 2 ^ k) (h1 >>> k) ((l1 >>> k) ||| ((h1 <<< (64 - k)) % 2 ^ 64)) := by
  have e : 2 ^ 64 = 2 ^ k * 2 ^ (64 - k) := by rw [← Nat.pow_add]; congr 1; omega
  have hp : 0 < 2 ^ k := Nat.pow_pos (by decide)
  have hq : 0 < 2 ^ (64 - k) := Nat.pow_pos (by decide)
  have h3 : l1 >>> k < 2 ^ (64 - k) := by
    rw [Nat.shiftRight_eq_div_pow]; exact Nat.div_lt_of_lt_mul (by rw [← e]; omega)
  have h4 : (h1 <<< (64 - k)) % 2 ^ 64 = (h1 % 2 ^ k) <<< (64 - k) := by
    rw [Nat.shiftLeft_eq, Nat.shiftLeft_eq, e, Nat.mul_mod_mul_right]
  have h5 : (l1 >>> k) ||| ((h1 <<< (64 - k)) % 2 ^ 64) = (h1 % 2 ^ k) * 2 ^ (64 - k) + l1 >>> k := by
    rw [h4, Nat.or_comm, ← Nat.shiftLeft_add_eq_or_of_lt h3, Nat.shiftLeft_eq]
  rw [h5]
  have h7 : h1 * 18446744073709551616 + l1 = (h1 / 2 ^ k * 18446744073709551616 + h1 % 2 ^ k * 2 ^ (64 - k)) * 2 ^ k + l1 := by
    have a1 : h1 * 18446744073709551616 = (2 ^ k * (h1 / 2 ^ k) + h1 % 2 ^ k) * 18446744073709551616 := by rw [Nat.div_add_mod]
    have a2 : h1 % 2 ^ k * 18446744073709551616 = h1 % 2 ^ k * 2 ^ (64 - k) * 2 ^ k := by
      rw [Nat.mul_assoc, Nat.mul_comm (2 ^ (64 - k)), ← e]
    rw [a1, Nat.add_mul, a2, Nat.add_mul, Nat.mul_comm (2 ^ k), Nat.mul_right_comm]
  rw [h7, Nat.add_comm, Nat.add_mul_div_right _ _ hp, Nat.shiftRight_eq_div_pow, Nat.shiftRight_eq_div_pow]
  rw [Nat.shiftRight_eq_div_pow] at h3
  have h8 : (h1 % 2 ^ k) * 2 ^ (64 - k) + l1 / 2 ^ k < 2 ^ 64 := by
    have := Nat.mod_lt h1 hp
    have h11 : (h1 % 2 ^ k + 1) * 2 ^ (64 - k) ≤ 2 ^ k * 2 ^ (64 - k) := Nat.mul_le_mul this (Nat.le_refl _)
    rw [Nat.add_mul, Nat.one_mul, ← e] at h11
    omega
  have h9 : h1 / 2 ^ k ≤ h1 := Nat.div_le_self _ _
  generalize (h1 % 2 ^ k) * 2 ^ (64 - k) = X at *
  generalize l1 / 2 ^ k = Y at *
  generalize h1 / 2 ^ k = Z at *
  clear h3 h4 h5 h7 e hp hq
  refine ⟨by omega, by omega, by omega⟩
theorem down_far (h1 l1 k : Nat) (hh : h1 ≤ 18446744073709551615) (hl : l1 ≤ 18446744073709551615) (hk : 64 ≤ k) :
    Tw ((h1 * 18446744073709551616 + l1) / 2 ^ k) 0 (h1 >>> (k - 64)) := by
  have e : 2 ^ k = 2 ^ 64 * 2 ^ (k - 64) := by rw [← Nat.pow_add]; congr 1; omega
  rw [e, ← Nat.div_div_eq_div_mul, Nat.shiftRight_eq_div_pow, show (h1 * 18446744073709551616 + l1) / 2 ^ 64 = h1 by omega]
  have := Nat.div_le_self h1 (2 ^ (k - 64))
  refine ⟨by omega, by omega, by omega⟩

theorem shl_min (x i : Nat) : (x <<< i) % 2 ^ 64 = (x <<< (min i 64)) % 2 ^ 64 := by
  by_cases h : i ≤ 64
  · rw [Nat.min_eq_left h]
  · rw [Nat.min_eq_right (by omega), Nat.shiftLeft_eq, Nat.shiftLeft_eq, Nat.mul_mod_left, show 2 ^ i = 2 ^ (i - 64) * 2 ^ 64 by rw [← Nat.pow_add]; congr 1; omega, ← Nat.mul_assoc, Nat.mul_mod_left]
theorem shr_min (x i : Nat) (hx : x ≤ 18446744073709551615) : x >>> i = x >>> (min i 64) := by
  by_cases h : i ≤ 64
  · rw [Nat.min_eq_left h]
  · have h1 : 2 ^ 64 ≤ 2 ^ i := Nat.pow_le_pow_right (by decide) (by omega)
    rw [Nat.min_eq_right (by omega), Nat.shiftRight_eq_div_pow, Nat.shiftRight_eq_div_pow, Nat.div_eq_of_lt (by omega), Nat.div_eq_of_lt (by omega)]
theorem Tw.one {n h l h' l' : Nat} (a : Tw n h l) (b : Tw n h' l') : h = h' ∧ l = l' := by
  obtain ⟨e, a1, a2⟩ := a
  obtain ⟨e', b1, b2⟩ := b
  omega
set_option maxHeartbeats 1000000 in
theorem up_any {a h1 l1 h l : Nat} (k : Nat) (hk : k ≤ 9223372036854775807) (ha : Tw a h1 l1) (hs : Tw ((a * 2 ^ k) % 340282366920938463463374607431768211456) h l) (w : World) :
    Calls Tryz.prog 119 #[.agg #[.int .u64 h1, .int .u64 l1], .int .i64 k] w fun e w' => e = .returned (.agg #[.int .u64 h, .int .u64 l]) ∧ Below w.heap.size w w' := by
  refine cps fun Q hQ => ?_
  obtain ⟨ea, hh, hl⟩ := ha
  rw [ea] at hs
  by_cases h64 : 64 ≤ k
  · obtain ⟨e1, e2⟩ := hs.one (up_far h1 l1 k h64)
    obtain ⟨i, rfl⟩ : ∃ i, k = 64 + i := ⟨k - 64, by omega⟩
    rw [show 64 + i - 64 = i by omega] at e1
    have hv := wrapShl l1 (min i 64)
    rw [← shl_min, ← e1] at hv
    subst e2
    have hki : ((64 + i : Nat) : Int) - 64 = i := by omega
    clear hs e1 ea
    have hk64 : (64 : Int) ≤ ((64 + i : Nat) : Int) := by omega
    generalize ((64 + i : Nat) : Int) = K at *
    go_enter Tryz.func119, Tryz.ntmps119
    go_wp2
    refine bodyPost_ret (v := .agg #[.int .u64 h, .int .u64 0]) (by simp [results, Tryz.results119, go_sem]) rfl (hQ.out _ _ ⟨rfl, ?_⟩)
    exact bmore (bmore (Below.refl _ _) _) _
  · obtain ⟨e1, e2⟩ := hs.one (up_near h1 l1 k hh hl (by omega))
    have v1 := wrapShl h1 k
    have v2 := wrapShl l1 k
    have v3 := shrN l1 (64 - k)
    have v4 := u64_or_nat ((h1 <<< k) % 2 ^ 64) (l1 >>> (64 - k)) (Nat.mod_lt _ (by decide)) (Nat.lt_of_le_of_lt (Nat.shiftRight_le _ _) (by omega))
    rw [← e1] at v4
    rw [← e2] at v2
    have hk1 : k < 64 := by omega
    have hq : (64 : Int) - k = ((64 - k : Nat) : Int) := by omega
    clear hs e1 e2 ea h64
    generalize 64 - k = j at *
    generalize l1 >>> j = x at *
    generalize h1 <<< k % 2 ^ 64 = y at *
    go_enter Tryz.func119, Tryz.ntmps119
    go_wp2
    go_region
    all_goals
      go_wp2
      refine bodyPost_ret (v := .agg #[.int .u64 h, .int .u64 l]) (by simp [results, Tryz.results119, go_sem]) rfl (hQ.out _ _ ⟨rfl, ?_⟩)
      exact (bmore (bmore (Below.refl _ _) _) _).drew
set_option maxHeartbeats 1000000 in
theorem down_any {a h1 l1 h l : Nat} (k : Nat) (hk : k ≤ 9223372036854775807) (ha : Tw a h1 l1) (hs : Tw (a / 2 ^ k) h l) (w : World) :
    Calls Tryz.prog 118 #[.agg #[.int .u64 h1, .int .u64 l1], .int .i64 k] w fun e w' => e = .returned (.agg #[.int .u64 h, .int .u64 l]) ∧ Below w.heap.size w w' := by
  refine cps fun Q hQ => ?_
  obtain ⟨ea, hh, hl⟩ := ha
  rw [ea] at hs
  by_cases h64 : 64 ≤ k
  · obtain ⟨e1, e2⟩ := hs.one (down_far h1 l1 k hh hl h64)
    obtain ⟨i, rfl⟩ : ∃ i, k = 64 + i := ⟨k - 64, by omega⟩
    rw [show 64 + i - 64 = i by omega] at e2
    have hv := shrN h1 (min i 64)
    rw [← shr_min _ _ hh, ← e2] at hv
    subst e1
    have hki : ((64 + i : Nat) : Int) - 64 = i := by omega
    clear hs e2 ea
    have hk64 : (64 : Int) ≤ ((64 + i : Nat) : Int) := by omega
    generalize ((64 + i : Nat) : Int) = K at *
    go_enter Tryz.func118, Tryz.ntmps118
    go_wp2
    refine bodyPost_ret (v := .agg #[.int .u64 0, .int .u64 l]) (by simp [results, Tryz.results118, go_sem]) rfl (hQ.out _ _ ⟨rfl, ?_⟩)
    exact bmore (bmore (Below.refl _ _) _) _
  · obtain ⟨e1, e2⟩ := hs.one (down_near h1 l1 k hh hl (by omega))
    have v1 := shrN h1 k
    have v2 := shrN l1 k
    have v3 := wrapShl h1 (64 - k)
    have v4 := u64_or_nat (l1 >>> k) ((h1 <<< (64 - k)) % 2 ^ 64) (Nat.lt_of_le_of_lt (Nat.shiftRight_le _ _) (by omega)) (Nat.mod_lt _ (by decide))
    rw [← e2] at v4
    rw [← e1] at v1
    have hk1 : k < 64 := by omega
    have hq : (64 : Int) - k = ((64 - k : Nat) : Int) := by omega
    clear hs e1 e2 ea h64
    generalize 64 - k = j at *
    generalize l1 >>> k = x at *
    generalize h1 <<< j % 2 ^ 64 = y at *
    go_enter Tryz.func118, Tryz.ntmps118
    go_wp2
    go_region
    all_goals
      go_wp2
      refine bodyPost_ret (v := .agg #[.int .u64 h, .int .u64 l]) (by simp [results, Tryz.results118, go_sem]) rfl (hQ.out _ _ ⟨rfl, ?_⟩)
      exact (bmore (bmore (Below.refl _ _) _) _).drew
end Go.Proofs.YtheliihkkoohnaaGreat

namespace Go.Proofs.YtheliihkkoohnaaGreat
set_option maxRecDepth 100000
open Go.ChangeShapes Go.WideShapes Go.ChangeAt Go.RowKit
set_option linter.unusedVariables false

set_option maxHeartbeats 1000000 in
theorem tshl_any {a h1 l1 h l : Nat} {c : Bool} (k : Nat) (hk : k ≤ 9223372036854775807) (ha : Tw a h1 l1) (hs : Tw ((a * 2 ^ k) % 340282366920938463463374607431768211456) h l) (hc : c = decide (340282366920938463463374607431768211456 ≤ a * 2 ^ k)) (w : World) :
    Calls Tryz.prog 99 #[.agg #[.int .u64 h1, .int .u64 l1], .int .i64 k] w fun e w' => e = .returned (.tuple #[.agg #[.int .u64 h, .int .u64 l], .bool c, .nilIface]) ∧ Below w.heap.size w w' := by
  refine cps fun Q hQ => ?_
  have k1 := fun w => up_any k hk ha hs w
  obtain ⟨T, hT⟩ : ∃ T, T = (a * 2 ^ k) % 340282366920938463463374607431768211456 / 2 ^ k := ⟨_, rfl⟩
  have hTlt : T < 340282366920938463463374607431768211456 := by rw [hT]; exact Nat.lt_of_le_of_lt (Nat.div_le_self _ _) (Nat.mod_lt _ (by decide))
  have hq : (!decide (T = a)) = decide (340282366920938463463374607431768211456 ≤ a * 2 ^ k) := by
    have hp : 0 < 2 ^ k := Nat.pow_pos (by decide)
    by_cases h0 : 340282366920938463463374607431768211456 ≤ a * 2 ^ k
    · have : T ≠ a := by
        intro h1
        rw [hT] at h1
        have h2 := Nat.div_mul_le_self ((a * 2 ^ k) % 340282366920938463463374607431768211456) (2 ^ k)
        rw [h1] at h2
        have h3 := Nat.mod_lt (a * 2 ^ k) (show 0 < 340282366920938463463374607431768211456 by decide)
        omega
      simp [this, h0]
    · have : T = a := by rw [hT, Nat.mod_eq_of_lt (by omega), Nat.mul_div_cancel _ hp]
      simp [this, h0]
  obtain ⟨h3, l3, ht⟩ : ∃ h3 l3, Tw T h3 l3 := ⟨T / 18446744073709551616, T % 18446744073709551616, by omega, by omega, by omega⟩
  have hTT : Tw ((a * 2 ^ k) % 340282366920938463463374607431768211456 / 2 ^ k) h3 l3 := hT ▸ ht
  have k2 := fun w => down_any k hk hs hTT w
  have hc2 : c = !(decide (h3 = h1) && decide (l3 = l1)) := by
    rw [hc, ← hq]
    by_cases hh : h3 = h1 ∧ l3 = l1
    · rw [hh.1, hh.2] at ht ⊢
      simp
      have := ht.eq.trans ha.eq.symm
      exact this
    · have : ¬ T = a := fun h => hh (by rw [h] at ht; exact ht.one ha)
      rw [decide_eq_false this]
      by_cases h5 : h3 = h1
      · have : l3 ≠ l1 := fun h6 => hh ⟨h5, h6⟩
        simp [this]
      · simp [h5]
  have hcase : (h1 = h3 ∧ l1 = l3 ∧ c = false) ∨ (h1 = h3 ∧ ¬ (l3 : Int) = l1 ∧ c = true) ∨ (¬ (h3 : Int) = h1 ∧ c = true) := by
    by_cases g1 : h3 = h1
    · by_cases g2 : l3 = l1
      · exact .inl ⟨g1.symm, g2.symm, by rw [hc2]; simp [g1, g2]⟩
      · exact .inr (.inl ⟨g1.symm, by omega, by rw [hc2]; simp [g2]⟩)
    · exact .inr (.inr ⟨by omega, by rw [hc2]; simp [g1]⟩)
  clear hc hc2 ht hs ha hq hTT hT hTlt
  rcases hcase with ⟨rfl, rfl, rfl⟩ | ⟨rfl, g2, rfl⟩ | ⟨g1, rfl⟩
  all_goals
    go_enter Tryz.func99, Tryz.ntmps99
    go_wp2_with (go_at_call 119; refine (k1 _).mono ?_; rintro e w1 ⟨rfl, hb1⟩; obtain ⟨hc1, hf1⟩ := bcell hb1; have hz : w.heap.size + 1 < w1.heap.size := by have := hb1.size; simp at this; omega)
    have hz0 : w.heap.size < w1.heap.size := by omega
    refine wpC_region (fun W => W.cell? ⟨w.heap.size, 0, none⟩ = some (.int .u64 h1) ∧ W.cell? ⟨w.heap.size, 1, none⟩ = some (.int .u64 l1) ∧ W.cell? ⟨w1.heap.size, 0, none⟩ = some (.int .u64 h) ∧ W.cell? ⟨w1.heap.size, 1, none⟩ = some (.int .u64 l)) (by kernel_rfl) ?_
    refine wpC_take 0 (v := ?_) rfl (by kernel_rfl) (fun _ _ _ h => h) (by kernel_rfl) ?_ ?_; rotate_left; · (intro wC hC; obtain ⟨c1, c2, c3, c4⟩ := hC; go_simp <;> with_reducible rfl)
    refine wpC_take 1 (v := ?_) rfl (by kernel_rfl) (fun _ _ _ h => h) (by kernel_rfl) ?_ ?_; rotate_left; · (intro wC hC; obtain ⟨c1, c2, c3, c4⟩ := hC; go_simp <;> with_reducible rfl)
    refine wpC_take 2 (v := ?_) rfl (by kernel_rfl) (fun _ _ _ h => h) (by kernel_rfl) ?_ ?_; rotate_left; · (intro wC hC; obtain ⟨c1, c2, c3, c4⟩ := hC; go_simp <;> with_reducible rfl)
    refine wpC_take 4 (v := ?_) rfl (by kernel_rfl) (fun _ _ _ h => h) (by kernel_rfl) ?_ ?_; rotate_left; · (intro wC hC; obtain ⟨c1, c2, c3, c4⟩ := hC; go_simp <;> with_reducible rfl)
    refine wpC_step 3 rfl (by kernel_rfl) (by kernel_rfl) (by simp [go_sem, hc1, hz0]) (fun K hK => ?_)
    go_simp
    go_wp2_with ((go_at_call 118; refine (k2 _).mono ?_; rintro e w2 ⟨rfl, hb2⟩; obtain ⟨hc2, hf2⟩ := bcell hb2; have hz2 : w1.heap.size < w2.heap.size := by have := hb2.size; simp at this; omega))
    try (refine hK _ _ ?_; clear hK K)
    refine wpC_take 5 (v := ?_) rfl (by kernel_rfl) (fun _ _ _ h => h) (by kernel_rfl) ?_ ?_; rotate_left; · (intro wC hC; obtain ⟨c1, c2, c3, c4⟩ := hC; go_simp <;> with_reducible rfl)
    refine wpC_step 6 rfl (by kernel_rfl) (by kernel_rfl) (by simp [go_sem, hc1, hc2, hz0]) (fun K hK => ?_)
    go_simp
    try (refine hK _ _ ?_; clear hK K)
    refine wpC_step 7 rfl (by kernel_rfl) (by kernel_rfl) (by simp [go_sem, hc1, hc2, hz0]) (fun K hK => ?_)
    go_simp
    try (refine hK _ _ ?_; clear hK K)
    refine wpC_step 8 rfl (by kernel_rfl) (by kernel_rfl) (by simp [go_sem, hc1, hc2, hz0]) (fun K hK => ?_)
    go_simp
    try (refine hK _ _ ?_; clear hK K)
    refine wpC_done (by kernel_rfl) (by simp [go_sem, hc1, hc2, hz0]) ?_
    go_wp2
    refine bodyPost_ret (v := .tuple #[.agg #[.int .u64 h, .int .u64 l], .bool _, .nilIface]) (by simp [results, Tryz.results99, go_sem, hc1, hc2, hz, hz0]) rfl (hQ.out _ _ ⟨rfl, ?_⟩)
    exact bset (bset (bthen (bdrew (bmore (bthen (bmore (bmore (Below.refl _ _) _) _) hb1) _)) hb2) (by omega) _ _) (by omega) _ _

set_option maxHeartbeats 1000000 in
theorem tshr_any {a h1 l1 h l : Nat} {c : Bool} (k : Nat) (hk : k ≤ 9223372036854775807) (ha : Tw a h1 l1) (hs : Tw (a / 2 ^ k) h l) (hc : c = decide (a % 2 ^ k ≠ 0)) (w : World) :
    Calls Tryz.prog 88 #[.agg #[.int .u64 h1, .int .u64 l1], .int .i64 k] w fun e w' => e = .returned (.tuple #[.agg #[.int .u64 h, .int .u64 l], .bool c, .nilIface]) ∧ Below w.heap.size w w' := by
  refine cps fun Q hQ => ?_
  have k1 := fun w => down_any k hk ha hs w
  obtain ⟨T, hT⟩ : ∃ T, T = (a / 2 ^ k * 2 ^ k) % 340282366920938463463374607431768211456 := ⟨_, rfl⟩
  have hTlt : T < 340282366920938463463374607431768211456 := by rw [hT]; exact Nat.mod_lt _ (by decide)
  have hq : (!decide (T = a)) = decide (a % 2 ^ k ≠ 0) := by
    have h1 := Nat.div_add_mod a (2 ^ k)
    have h2 := ha.lt
    rw [Nat.mul_comm] at h1
    have h3 : T = a / 2 ^ k * 2 ^ k := by rw [hT, Nat.mod_eq_of_lt (by omega)]
    rw [← h3] at h1
    by_cases h0 : a % 2 ^ k = 0
    · have : T = a := by omega
      simp [this, h0]
    · have : T ≠ a := by omega
      simp [this, h0]
  obtain ⟨h3, l3, ht⟩ : ∃ h3 l3, Tw T h3 l3 := ⟨T / 18446744073709551616, T % 18446744073709551616, by omega, by omega, by omega⟩
  have hTT : Tw ((a / 2 ^ k * 2 ^ k) % 340282366920938463463374607431768211456) h3 l3 := hT ▸ ht
  have k2 := fun w => up_any k hk hs hTT w
  have hc2 : c = !(decide (h3 = h1) && decide (l3 = l1)) := by
    rw [hc, ← hq]
    by_cases hh : h3 = h1 ∧ l3 = l1
    · rw [hh.1, hh.2] at ht ⊢
      simp
      have := ht.eq.trans ha.eq.symm
      exact this
    · have : ¬ T = a := fun h => hh (by rw [h] at ht; exact ht.one ha)
      rw [decide_eq_false this]
      by_cases h5 : h3 = h1
      · have : l3 ≠ l1 := fun h6 => hh ⟨h5, h6⟩
        simp [this]
      · simp [h5]
  have hcase : (h1 = h3 ∧ l1 = l3 ∧ c = false) ∨ (h1 = h3 ∧ ¬ (l3 : Int) = l1 ∧ c = true) ∨ (¬ (h3 : Int) = h1 ∧ c = true) := by
    by_cases g1 : h3 = h1
    · by_cases g2 : l3 = l1
      · exact .inl ⟨g1.symm, g2.symm, by rw [hc2]; simp [g1, g2]⟩
      · exact .inr (.inl ⟨g1.symm, by omega, by rw [hc2]; simp [g2]⟩)
    · exact .inr (.inr ⟨by omega, by rw [hc2]; simp [g1]⟩)
  clear hc hc2 ht hs ha hq hTT hT hTlt
  rcases hcase with ⟨rfl, rfl, rfl⟩ | ⟨rfl, g2, rfl⟩ | ⟨g1, rfl⟩
  all_goals
    go_enter Tryz.func88, Tryz.ntmps88
    go_wp2_with (go_at_call 118; refine (k1 _).mono ?_; rintro e w1 ⟨rfl, hb1⟩; obtain ⟨hc1, hf1⟩ := bcell hb1; have hz : w.heap.size + 1 < w1.heap.size := by have := hb1.size; simp at this; omega)
    have hz0 : w.heap.size < w1.heap.size := by omega
    refine wpC_region (fun W => W.cell? ⟨w.heap.size, 0, none⟩ = some (.int .u64 h1) ∧ W.cell? ⟨w.heap.size, 1, none⟩ = some (.int .u64 l1) ∧ W.cell? ⟨w1.heap.size, 0, none⟩ = some (.int .u64 h) ∧ W.cell? ⟨w1.heap.size, 1, none⟩ = some (.int .u64 l)) (by kernel_rfl) ?_
    refine wpC_take 0 (v := ?_) rfl (by kernel_rfl) (fun _ _ _ h => h) (by kernel_rfl) ?_ ?_; rotate_left; · (intro wC hC; obtain ⟨c1, c2, c3, c4⟩ := hC; go_simp <;> with_reducible rfl)
    refine wpC_take 1 (v := ?_) rfl (by kernel_rfl) (fun _ _ _ h => h) (by kernel_rfl) ?_ ?_; rotate_left; · (intro wC hC; obtain ⟨c1, c2, c3, c4⟩ := hC; go_simp <;> with_reducible rfl)
    refine wpC_take 2 (v := ?_) rfl (by kernel_rfl) (fun _ _ _ h => h) (by kernel_rfl) ?_ ?_; rotate_left; · (intro wC hC; obtain ⟨c1, c2, c3, c4⟩ := hC; go_simp <;> with_reducible rfl)
    refine wpC_take 4 (v := ?_) rfl (by kernel_rfl) (fun _ _ _ h => h) (by kernel_rfl) ?_ ?_; rotate_left; · (intro wC hC; obtain ⟨c1, c2, c3, c4⟩ := hC; go_simp <;> with_reducible rfl)
    refine wpC_step 3 rfl (by kernel_rfl) (by kernel_rfl) (by simp [go_sem, hc1, hz0]) (fun K hK => ?_)
    go_simp
    go_wp2_with ((go_at_call 119; refine (k2 _).mono ?_; rintro e w2 ⟨rfl, hb2⟩; obtain ⟨hc2, hf2⟩ := bcell hb2; have hz2 : w1.heap.size < w2.heap.size := by have := hb2.size; simp at this; omega))
    try (refine hK _ _ ?_; clear hK K)
    refine wpC_take 5 (v := ?_) rfl (by kernel_rfl) (fun _ _ _ h => h) (by kernel_rfl) ?_ ?_; rotate_left; · (intro wC hC; obtain ⟨c1, c2, c3, c4⟩ := hC; go_simp <;> with_reducible rfl)
    refine wpC_step 6 rfl (by kernel_rfl) (by kernel_rfl) (by simp [go_sem, hc1, hc2, hz0]) (fun K hK => ?_)
    go_simp
    try (refine hK _ _ ?_; clear hK K)
    refine wpC_step 7 rfl (by kernel_rfl) (by kernel_rfl) (by simp [go_sem, hc1, hc2, hz0]) (fun K hK => ?_)
    go_simp
    try (refine hK _ _ ?_; clear hK K)
    refine wpC_step 8 rfl (by kernel_rfl) (by kernel_rfl) (by simp [go_sem, hc1, hc2, hz0]) (fun K hK => ?_)
    go_simp
    try (refine hK _ _ ?_; clear hK K)
    refine wpC_done (by kernel_rfl) (by simp [go_sem, hc1, hc2, hz0]) ?_
    go_wp2
    refine bodyPost_ret (v := .tuple #[.agg #[.int .u64 h, .int .u64 l], .bool _, .nilIface]) (by simp [results, Tryz.results88, go_sem, hc1, hc2, hz, hz0]) rfl (hQ.out _ _ ⟨rfl, ?_⟩)
    exact bset (bset (bthen (bdrew (bmore (bthen (bmore (bmore (Below.refl _ _) _) _) hb1) _)) hb2) (by omega) _ _) (by omega) _ _
end Go.Proofs.YtheliihkkoohnaaGreat

namespace Go.Proofs.YtheliihkkoohnaaGreat
set_option maxRecDepth 100000
set_option linter.unusedVariables false
set_option linter.unusedSimpArgs false

/-! ### strings of bits: runs, what they mean, and the string of a number (plain mathematics) -/
abbrev noughts (k : Nat) : List Bool := List.replicate k false
def runL : List Bool → Nat
  | [] => 0
  | b :: l => 1 + (l.takeWhile (· == b)).length
def onesL (l : List Bool) : Bool := l.getD 0 false
def restL (l : List Bool) : List Bool := l.drop (runL l + 1)
def regL (l : List Bool) : Int := if onesL l then (runL l : Int) - 1 else -(runL l : Int)
def expL (l : List Bool) : Nat := numOf ((restL l ++ noughts 2).take 2)
def fracL (l : List Bool) : Nat := numOf ((restL l).drop 2)
def scaleL (l : List Bool) : Int := 4 * regL l + expL l
def wordL (l : List Bool) : Nat := numOf (true :: (((restL l).drop 2) ++ noughts 63).take 63)

theorem takeWhile_rep (b : Bool) (r : Nat) (t : List Bool) (ht : t = [] ∨ ∃ u, t = (!b) :: u) : (List.replicate r b ++ t).takeWhile (· == b) = List.replicate r b := by
  induction r with
  | zero =>
    rcases ht with rfl | ⟨u, rfl⟩
    · rfl
    · cases b <;> rfl
  | succ r ih => rw [List.replicate_succ, List.cons_append, List.takeWhile_cons_of_pos (by simp), ih]
theorem runL_rep (b : Bool) (r : Nat) (t : List Bool) (ht : t = [] ∨ ∃ u, t = (!b) :: u) : runL (List.replicate (r + 1) b ++ t) = r + 1 := by
  rw [List.replicate_succ, List.cons_append, runL, takeWhile_rep b r t ht, List.length_replicate]; omega
theorem onesL_rep (b : Bool) (r : Nat) (t : List Bool) : onesL (List.replicate (r + 1) b ++ t) = b := by
  rw [List.replicate_succ, List.cons_append]; rfl
theorem restL_end (b : Bool) (r : Nat) : restL (List.replicate (r + 1) b) = [] := by
  have := runL_rep b r [] (.inl rfl)
  rw [List.append_nil] at this
  rw [restL, this, List.drop_of_length_le (by simp)]
theorem restL_rep (b : Bool) (r : Nat) (u : List Bool) : restL (List.replicate (r + 1) b ++ (!b) :: u) = u := by
  rw [restL, runL_rep b r _ (.inr ⟨u, rfl⟩), show r + 1 + 1 = (List.replicate (r + 1) b).length + 1 by simp, List.drop_append]
  simp
/-- each string begins with a run -/
theorem split_run (l : List Bool) (h : l ≠ []) : ∃ b r t, l = List.replicate (r + 1) b ++ t ∧ (t = [] ∨ ∃ u, t = (!b) :: u) := by
  induction l with
  | nil => exact absurd rfl h
  | cons a l ih =>
    cases l with
    | nil => exact ⟨a, 0, [], rfl, .inl rfl⟩
    | cons c l =>
      obtain ⟨b, r, t, he, ht⟩ := ih (by simp)
      by_cases hab : a = b
      · subst hab
        exact ⟨a, r + 1, t, by rw [he, List.replicate_succ (n := r + 1), List.cons_append], ht⟩
      · have : b = !a := by cases a <;> cases b <;> simp_all
        subst this
        refine ⟨a, 0, c :: l, rfl, .inr ⟨List.replicate r (!a) ++ t, ?_⟩⟩
        rw [he, List.replicate_succ, List.cons_append]
theorem numOf_append (a b : List Bool) : numOf (a ++ b) = numOf a * 2 ^ b.length + numOf b := by
  have := numOf_acc b (numOf a)
  rw [← this]; simp [numOf]
theorem numOf_noughts (k : Nat) : numOf (noughts k) = 0 := by
  induction k with
  | zero => rfl
  | succ k ih => rw [noughts, List.replicate_succ, numOf_cons]; simpa using ih
theorem bitsOf_numOf (l : List Bool) : bitsOf (numOf l) l.length = l := by
  apply List.ext_getElem?
  intro j
  by_cases hj : j < l.length
  · rw [bitsOf_get _ _ _ hj, List.getElem?_eq_getElem hj, numOf_testBit, show l.length - 1 - (l.length - 1 - j) = j by omega, List.getD_eq_getElem?_getD, List.getElem?_eq_getElem hj]
    simp; omega
  · rw [List.getElem?_eq_none (by rw [bitsOf_length]; omega), List.getElem?_eq_none (by omega)]
theorem numOf_inj {a b : List Bool} (hl : a.length = b.length) (h : numOf a = numOf b) : a = b := by
  rw [← bitsOf_numOf a, ← bitsOf_numOf b, h, hl]
theorem noughts_add (i j : Nat) : noughts i ++ noughts j = noughts (i + j) := by simp [noughts]
theorem take_noughts (i j : Nat) (h : j ≤ i) : (noughts i).take j = noughts j := by simp [noughts, Nat.min_eq_left h]
structure SameL (a b : List Bool) : Prop where
  ones : onesL a = onesL b
  run : runL a = runL b
  exp : expL a = expL b
  word : wordL a = wordL b
theorem SameL.scale {a b : List Bool} (h : SameL a b) : scaleL a = scaleL b := by unfold scaleL regL; rw [h.ones, h.run, h.exp]
/-! ### the string of a number -/
def headK (k : Int) : List Bool := if 0 ≤ k then List.replicate (k.toNat + 1) true ++ [false] else List.replicate (-k).toNat false ++ [true]
def canon (s : Int) (f : Nat) : List Bool := headK (s / 4) ++ bitsOf (s % 4).toNat 2 ++ (bitsOf f 64).drop 1
theorem headK_rep (b : Bool) (r : Nat) : headK (if b then ((r + 1 : Nat) : Int) - 1 else -((r + 1 : Nat) : Int)) = List.replicate (r + 1) b ++ [!b] := by
  cases b
  · simp only [Bool.false_eq_true, if_false, headK]
    rw [if_neg (by omega), show (- -((r + 1 : Nat) : Int)).toNat = r + 1 by omega]; rfl
  · simp only [if_true, headK]
    rw [if_pos (by omega), show (((r + 1 : Nat) : Int) - 1).toNat + 1 = r + 1 by omega]; rfl
theorem headK_form (k : Int) : ∃ b r, headK k = List.replicate (r + 1) b ++ [!b] ∧ k = if b then ((r + 1 : Nat) : Int) - 1 else -((r + 1 : Nat) : Int) := by
  by_cases h : 0 ≤ k
  · refine ⟨true, k.toNat, ?_, ?_⟩
    · rw [headK, if_pos h]; rfl
    · rw [if_pos rfl]; omega
  · refine ⟨false, (-k).toNat - 1, ?_, ?_⟩
    · rw [headK, if_neg h, show (-k).toNat - 1 + 1 = (-k).toNat by omega]; rfl
    · rw [if_neg (by simp)]; omega
theorem numOf_bits (x n : Nat) : numOf (bitsOf x n) = x % 2 ^ n := by
  apply Nat.eq_of_testBit_eq
  intro i
  rw [Nat.testBit_mod_two_pow, numOf_testBit, bitsOf_length, bitsOf_getD]
  by_cases hi : i < n
  · rw [show n - 1 - (n - 1 - i) = i by omega]; simp [hi]; omega
  · simp [hi]
theorem top_word (f : Nat) (h : 9223372036854775808 ≤ f) (h2 : f < 18446744073709551616) : bitsOf f 64 = true :: (bitsOf f 64).drop 1 := by
  have hl : (bitsOf f 64).length = 64 := bitsOf_length _ _
  have hn := numOf_bits f 64
  cases hc : bitsOf f 64 with
  | nil => rw [hc] at hl; cases hl
  | cons b l =>
    rw [hc] at hl hn
    have hl2 : l.length = 63 := by simpa using hl
    have := numOf_lt l
    rw [numOf_cons, hl2] at hn
    rw [hl2] at this
    cases b
    · simp at hn; omega
    · rfl
theorem padE (u : List Bool) (h : u.length ≤ 63) : (u ++ noughts 2).take 2 ++ (u.drop 2 ++ noughts 63).take 63 = u ++ noughts (65 - u.length) := by
  match u with
  | [] => rfl
  | [a] => rfl
  | a :: b :: v =>
    have hv : v.length ≤ 61 := by simpa using h
    simp only [List.cons_append, List.take_succ_cons, List.take_zero, List.drop_succ_cons, List.drop_zero, List.nil_append, List.length_cons]
    congr 2
    rw [List.take_append, List.take_of_length_le (by omega), take_noughts _ _ (by omega)]
    congr 2; omega
/-- and what a string means has that string, noughts behind it -/
theorem canon_parse (t : List Bool) (ht : true ∈ t) (hl : t.length ≤ 64) : ∃ z, canon (scaleL t) (wordL t) = t ++ noughts z ∧ 2 ≤ z := by
  have hne : t ≠ [] := by rintro rfl; cases ht
  have key : ∀ (b : Bool) (r : Nat) (u : List Bool), runL t = r + 1 → onesL t = b → restL t = u → r + u.length ≤ 63 →
      canon (scaleL t) (wordL t) = List.replicate (r + 1) b ++ (!b) :: (u ++ noughts (65 - u.length)) := by
    intro b r u h1 h2 h3 h4
    have he : expL t = numOf ((u ++ noughts 2).take 2) := by rw [expL, h3]
    have hlen : ((u ++ noughts 2).take 2).length = 2 := by simp
    have he4 := numOf_lt ((u ++ noughts 2).take 2)
    rw [hlen, ← he] at he4
    have hs : scaleL t = 4 * (if b then ((r + 1 : Nat) : Int) - 1 else -((r + 1 : Nat) : Int)) + expL t := by unfold scaleL regL; rw [h1, h2]
    have hh := headK_rep b r
    generalize (if b then ((r + 1 : Nat) : Int) - 1 else -((r + 1 : Nat) : Int)) = k at *
    have hk : scaleL t / 4 = k := by omega
    have hm : (scaleL t % 4).toNat = expL t := by omega
    have hw : (bitsOf (wordL t) 64).drop 1 = (u.drop 2 ++ noughts 63).take 63 := by
      have hl2 : (true :: (u.drop 2 ++ noughts 63).take 63).length = 64 := by simp
      have := bitsOf_numOf (true :: (u.drop 2 ++ noughts 63).take 63)
      rw [hl2] at this
      rw [wordL, h3, this]; rfl
    have hb2 : bitsOf (expL t) 2 = (u ++ noughts 2).take 2 := by
      have := bitsOf_numOf ((u ++ noughts 2).take 2)
      rw [hlen] at this
      rw [he, this]
    rw [canon, hk, hm, hh, hw, hb2, List.append_assoc, List.append_assoc, padE u (by omega)]
    rfl
  obtain ⟨b, r, tl, rfl, htl⟩ := split_run t hne
  rcases htl with rfl | ⟨u, rfl⟩
  · rw [List.append_nil] at *
    have hb : b = true := (List.mem_replicate.1 ht).2.symm
    subst hb
    have h1 := runL_rep true r [] (.inl rfl)
    have h2 := onesL_rep true r []
    rw [List.append_nil] at h1 h2
    rw [List.length_replicate] at hl
    refine ⟨66, ?_, by omega⟩
    rw [key true r [] h1 h2 (restL_end true r) (by simp; omega)]
    rfl
  · have hlu : r + u.length ≤ 62 := by simp at hl; omega
    refine ⟨65 - u.length, ?_, by omega⟩
    rw [key b r u (runL_rep b r _ (.inr ⟨u, rfl⟩)) (onesL_rep b r _) (restL_rep b r u) (by omega)]
    simp
theorem wordL_bounds (t : List Bool) : 9223372036854775808 ≤ wordL t ∧ wordL t < 18446744073709551616 := by
  have h1 : (((restL t).drop 2 ++ noughts 63).take 63).length = 63 := by simp
  have h2 := numOf_lt (((restL t).drop 2 ++ noughts 63).take 63)
  unfold wordL
  rw [numOf_cons]
  rw [h1] at *
  simp; omega
end Go.Proofs.YtheliihkkoohnaaGreat

namespace Go.Proofs.YtheliihkkoohnaaGreat
set_option maxRecDepth 100000
open Go.ChangeShapes Go.WideShapes Go.ChangeAt Go.RowKit

theorem lowest_any (n : Nat) (hn : n ≤ 64) (w : World) :
    Calls Tryz.prog 95 #[.int .i64 n] w fun e w' => e = .returned (.int .u64 ((2^n - 1 : Nat) : Int)) ∧ w' = w := by
  refine cps fun Q hQ => ?_
  go_enter Tryz.func95, Tryz.ntmps95
  go_wp2
  refine hQ.out _ _ ⟨congrArg Ending.returned (congrArg (Value.int IntKind.u64) (wrapMask n hn)), rfl⟩

/-- may there be a field? -/
def isField (at_ n : Int) : Bool := decide (0 ≤ at_ ∧ at_ ≤ 64 ∧ 0 ≤ n ∧ n ≤ 64 - at_)
theorem fits_any (at_ n : Int) (w : World) :
    Calls Tryz.prog 94 #[.int .i64 at_, .int .i64 n] w fun e w' => e = .returned (.bool (isField at_ n)) ∧ w' = w := by
  refine cps fun Q hQ => ?_
  go_enter Tryz.func94, Tryz.ntmps94
  go_wp2
  all_goals
    refine hQ.out _ _ ⟨congrArg Ending.returned (congrArg Value.bool ?_), rfl⟩
    simp only [isField, Bool.decide_and]
    simp [*] <;> omega
/-! ### Mask -/
/-! ### Field -/
def fieldOf (x at_ n : Nat) : Nat := (x >>> at_) % 2 ^ n
theorem lfield_ok (x : Nat) (at_ n : Int) (hx : x < 2^64) (hf : isField at_ n = true) (w : World) :
    Calls Tryz.prog 61 #[.int .u64 x, .int .i64 at_, .int .i64 n] w fun e w' => e = .returned (.tuple #[.int .u64 (fieldOf x at_.toNat n.toNat : Nat), .nilIface]) ∧ ∃ q, w' = w.drewN q := by
  have hf' := hf
  simp [isField] at hf'
  obtain ⟨a, rfl⟩ := Int.eq_ofNat_of_zero_le hf'.1
  obtain ⟨m, rfl⟩ := Int.eq_ofNat_of_zero_le hf'.2.2.1
  refine cps fun Q hQ => ?_
  go_enter Tryz.func61, Tryz.ntmps61
  go_wp2_with (go_at_call 94; refine (fits_any _ _ _).mono ?_; rintro e w' ⟨rfl, rfl⟩)
  go_quiet ((go_at_call 95; exact Calls.quiet_of_same (lowest_any m (by omega) _)))
  go_wp2
  refine hQ.out _ _ ⟨ret_ix ?_, nq, rfl⟩
  rw [shrN, u64_and_nat _ _ (Nat.lt_of_le_of_lt (Nat.shiftRight_le _ _) hx) (mask_lt m (by omega))]
  simp [fieldOf, Nat.and_two_pow_sub_one_eq_mod]
/-! ### Put -/
theorem not_bit (t i : Nat) (ht : t < 2 ^ 64) (hi : i < 64) : (18446744073709551615 - t).testBit i = !t.testBit i := by
  have := Nat.testBit_two_pow_sub_succ (x := t) (n := 64) ht i
  rw [show 18446744073709551615 - t = 2 ^ 64 - (t + 1) by omega, this]
  simp [hi]
end Go.Proofs.YtheliihkkoohnaaGreat

namespace Go.Proofs.YtheliihkkoohnaaGreat
set_option maxRecDepth 100000
open Go.ChangeShapes Go.WideShapes Go.ChangeAt Go.RowKit

/-! ### Extend -/
def extOf (x n : Nat) : Int := ((x % 2 ^ n : Nat) : Int) - ((x.testBit (n - 1)).toNat * 2 ^ n : Nat)
theorem numOf_bitsOf (x n : Nat) : numOf (bitsOf x n) = x % 2 ^ n := by
  apply Nat.eq_of_testBit_eq
  intro i
  rw [numOf_testBit, bitsOf_length, Nat.testBit_mod_two_pow, bitsOf_getD]
  by_cases h : i < n
  · have e : n - 1 - (n - 1 - i) = i := by omega
    have e2 : n - 1 - i < n := by omega
    simp [h, e, e2]
  · simp [h]
theorem top_bit (y m : Nat) (h : y < 2 * 2 ^ m) : y.testBit m = decide (2 ^ m ≤ y) := by
  have h0 : 0 < 2 ^ m := Nat.pos_of_ne_zero (by simp)
  rw [Nat.testBit_eq_decide_div_mod_eq]
  by_cases hc : 2 ^ m ≤ y
  · have h1 : 1 ≤ y / 2 ^ m := (Nat.le_div_iff_mul_le h0).2 (by omega)
    have h2 : y / 2 ^ m < 2 := (Nat.div_lt_iff_lt_mul h0).2 (by omega)
    have : y / 2 ^ m = 1 := by omega
    simp [hc, this]
  · rw [Nat.div_eq_of_lt (by omega)]; simp; omega
theorem ext_eq (x n : Nat) (h1 : 1 ≤ n) (h2 : n ≤ 64) : wrap64 (IntKind.u64.wrap ((x : Int) * 2 ^ (64 - n))) / 2 ^ (64 - n) = extOf x n := by
  obtain ⟨d, hd⟩ : ∃ d, d = 64 - n := ⟨_, rfl⟩
  rw [← hd]
  have e64 : 2 ^ n * 2 ^ d = 2 ^ 64 := by rw [← Nat.pow_add]; congr 1; omega
  have e63 : 2 ^ (n - 1) * 2 ^ d = 2 ^ 63 := by rw [← Nat.pow_add]; congr 1; omega
  have hnn : 2 ^ n = 2 * 2 ^ (n - 1) := by rw [← Nat.pow_succ']; congr 1; omega
  have hd0 : 0 < 2 ^ d := Nat.pos_of_ne_zero (by simp)
  have hy : x % 2 ^ n < 2 ^ n := Nat.mod_lt _ (Nat.pos_of_ne_zero (by simp))
  rw [wrapShl, Nat.shiftLeft_eq, ← e64, Nat.mul_mod_mul_right]
  have hb : x.testBit (n - 1) = decide (2 ^ (n - 1) ≤ x % 2 ^ n) := by
    rw [← top_bit _ _ (by omega), Nat.testBit_mod_two_pow]; simp; omega
  rw [extOf, hb]
  generalize x % 2 ^ n = y at *
  have ed : ((2 : Int) ^ d) = ((2 ^ d : Nat) : Int) := by simp
  rw [ed]
  have hlt : y * 2 ^ d < 2 ^ 64 := by rw [← e64]; exact Nat.mul_lt_mul_of_pos_right hy hd0
  by_cases hc : 2 ^ (n - 1) ≤ y
  · have hge : 2 ^ 63 ≤ y * 2 ^ d := by rw [← e63]; exact Nat.mul_le_mul_right _ hc
    have e : wrap64 ((y * 2 ^ d : Nat) : Int) = ((y : Int) - (2 ^ n : Nat)) * (2 ^ d : Nat) := by
      rw [Int.sub_mul, ← Int.natCast_mul, ← Int.natCast_mul, e64]; unfold wrap64; omega
    rw [e, Int.mul_ediv_cancel _ (by omega)]; simp [hc]
  · have hl : y * 2 ^ d < 2 ^ 63 := by rw [← e63]; exact Nat.mul_lt_mul_of_pos_right (by omega) hd0
    have e : wrap64 ((y * 2 ^ d : Nat) : Int) = (y : Int) * (2 ^ d : Nat) := by
      rw [← Int.natCast_mul]; unfold wrap64; omega
    rw [e, Int.mul_ediv_cancel _ (by omega)]; simp [hc]
theorem lext_ok (x n : Nat) (h1 : 1 ≤ n) (h2 : n ≤ 64) (w : World) :
    Calls Tryz.prog 92 #[.int .u64 x, .int .i64 n] w fun e w' => e = .returned (.tuple #[.int .i64 (extOf x n), .nilIface]) ∧ w' = w := by
  refine cps fun Q hQ => ?_
  go_enter Tryz.func92, Tryz.ntmps92
  go_wp2
  exact hQ.out _ _ ⟨ret_ix (ext_eq x n h1 h2), rfl⟩
end Go.Proofs.YtheliihkkoohnaaGreat

namespace Go.Proofs.YtheliihkkoohnaaGreat
set_option maxRecDepth 100000
open Go.ChangeShapes Go.WideShapes Go.ChangeAt Go.RowKit

/-! ### which of api's Codes an error is -/
def codeOf (c : Int) : Int := if 1 ≤ c ∧ c ≤ 24 then c else -1
theorem further_any (c : Int) (w : World) : Calls Tryz.prog 23 #[.iface 51 (.int .i64 c)] w fun e w' => e = .returned (.int .i64 (if 13 ≤ c ∧ c ≤ 24 then c else -1)) ∧ w' = w := by
  have he := fun w a b => Lib.run_eql_iface_int (P := Tryz.prog) w (t := 25) (tx := 51) (k := .i64) a b Tryz.underlying25 (by kernel_rfl) Tryz.underlying51
  refine cps fun Q hQ => ?_
  go_enter Tryz.func23, Tryz.ntmps23
  go_wp2
  all_goals exact hQ.out _ _ ⟨ret_i (by simp only [beq_iff_eq, beq_eq_false_iff_ne] at *; split <;> omega), rfl⟩
theorem code_nil (w : World) : Calls Tryz.prog 9 #[.nilIface] w fun e w' => e = .returned (.int .i64 0) ∧ w' = w := by
  refine cps fun Q hQ => ?_
  go_enter Tryz.func9, Tryz.ntmps9
  go_wp2
  exact hQ.out _ _ ⟨rfl, rfl⟩
theorem code_any (c : Int) (w : World) : Calls Tryz.prog 9 #[.iface 51 (.int .i64 c)] w fun e w' => e = .returned (.int .i64 (codeOf c)) ∧ w' = w := by
  have he := fun w a b => Lib.run_eql_iface_int (P := Tryz.prog) w (t := 25) (tx := 51) (k := .i64) a b Tryz.underlying25 (by kernel_rfl) Tryz.underlying51
  refine cps fun Q hQ => ?_
  go_enter Tryz.func9, Tryz.ntmps9
  go_wp2_with (go_at_call 23; refine (further_any c _).mono ?_; rintro e w' ⟨rfl, rfl⟩)
  all_goals exact hQ.out _ _ ⟨ret_i (by simp only [beq_iff_eq, beq_eq_false_iff_ne] at *; unfold codeOf; repeat' split <;> omega), rfl⟩
end Go.Proofs.YtheliihkkoohnaaGreat

namespace Go.Proofs.YtheliihkkoohnaaGreat
open Go.ChangeShapes Go.WideShapes Go.ChangeAt Go.RowKit
set_option linter.unusedVariables false
set_option linter.unusedSimpArgs false
set_option maxRecDepth 100000

/-! ### widths -/
abbrev Wd (n : Nat) : Prop := n = 8 ∨ n = 16 ∨ n = 32 ∨ n = 64
def isW (n : Int) : Bool := decide (n = 8) || (decide (n = 16) || (decide (n = 32) || decide (n = 64)))
theorem isW_yes {n : Int} (h : isW n = true) : ∃ m : Nat, n = m ∧ Wd m := by
  simp only [isW, Bool.or_eq_true, decide_eq_true_eq] at h
  rcases h with rfl | rfl | rfl | rfl
  · exact ⟨8, rfl, .inl rfl⟩
  · exact ⟨16, rfl, .inr (.inl rfl)⟩
  · exact ⟨32, rfl, .inr (.inr (.inl rfl))⟩
  · exact ⟨64, rfl, .inr (.inr (.inr rfl))⟩
theorem isW_no {n : Int} (h : isW n = false) : n ≠ 8 ∧ n ≠ 16 ∧ n ≠ 32 ∧ n ≠ 64 := by
  simp only [isW, Bool.or_eq_false_iff, decide_eq_false_iff_not] at h
  exact ⟨h.1, h.2.1, h.2.2.1, h.2.2.2⟩
theorem isW_of {m : Nat} (h : Wd m) : isW m = true := by rcases h with rfl | rfl | rfl | rfl <;> rfl

/-! ### slices.Contains of a row of integers -/
theorem index_any (g : Nat) (c : Nat) (n : Int) (l : List Int) (hl : l.length ≤ 1099511627776) (w : World) (h : ∀ j (hj : j < l.length), w.cell? ⟨g, j, none⟩ = some (.int .i64 l[j])) :
    Calls Tryz.prog 125 #[.slice (some ⟨g, 0, none⟩) l.length c, .int .i64 n] w fun e w' => (∃ r : Int, e = .returned (.int .i64 r) ∧ -1 ≤ r ∧ r ≤ 1099511627776 ∧ (0 ≤ r ↔ n ∈ l)) ∧ w' = w := by
  refine cps fun Q hQ => ?_
  have H : Hid (∀ j (hj : j < l.length), w.cell? ⟨g, j, none⟩ = some (.int .i64 l[j])) := h
  clear h
  go_enter Tryz.func125, Tryz.ntmps125
  go_wp2
  go_loop [8] (fun iv => ∃ i : Nat, i ≤ l.length ∧ iv = .int .i64 i ∧ Hid (∀ j (hj : j < l.length), j < i → l[j] ≠ n)) (fun iv => l.length - (intOf iv).toNat)
  case atStart => exact ⟨0, Nat.zero_le _, rfl, fun j hj h => by omega⟩
  case round =>
    obtain ⟨i, hi, rfl, hst⟩ := hrel
    by_cases hlt : i < l.length
    · have hc := H.out i hlt
      obtain ⟨x, hx⟩ : ∃ x, x = l[i] := ⟨_, rfl⟩
      rw [← hx] at hc
      have HX : Hid (x = l[i]) := hx
      clear hx
      by_cases he : n = x
      · have HE : Hid (n ∈ l) := by show _ ∈ _; rw [he, HX.out]; exact List.getElem_mem _
        have he2 : (n == x) = true := beq_iff_eq.2 he
        clear he
        go_wp2
        exact hQ.out _ _ ⟨⟨i, rfl, by omega, by omega, ⟨fun _ => HE.out, fun _ => by omega⟩⟩, rfl⟩
      · have HE : Hid (n ≠ x) := he
        have he2 : (n == x) = false := beq_eq_false_iff_ne.2 he
        clear he
        go_wp2
        go_round
        case rel => exact ⟨i + 1, by omega, by go_num, fun j hj h => by
          by_cases g : j = i
          · subst g; rw [← HX.out]; exact fun e => HE.out e.symm
          · exact hst.out j hj (by omega)⟩
        case measure => simp [intOf]; omega
    · have HN : Hid (n ∉ l) := fun hm => by
        obtain ⟨j, hj, e⟩ := List.getElem_of_mem hm
        exact hst.out j hj (by omega) e
      clear hst
      go_wp2
      exact hQ.out _ _ ⟨⟨-1, rfl, by omega, by omega, ⟨fun h => by omega, fun h => absurd h HN.out⟩⟩, rfl⟩
theorem contains_any (g : Nat) (c : Nat) (n : Int) (l : List Int) (b : Bool) (hb : b = decide (n ∈ l)) (hl : l.length ≤ 1099511627776) (w : World) (h : ∀ j (hj : j < l.length), w.cell? ⟨g, j, none⟩ = some (.int .i64 l[j])) :
    Calls Tryz.prog 105 #[.slice (some ⟨g, 0, none⟩) l.length c, .int .i64 n] w fun e w' => e = .returned (.bool b) ∧ w' = w := by
  have k := index_any g c n l hl w h
  have K : Hid (Calls _ _ _ _ _) := k
  have HB : Hid (b = decide (n ∈ l)) := hb
  clear k h hb
  refine cps fun Q hQ => ?_
  go_enter Tryz.func105, Tryz.ntmps105
  go_wp2_with (go_at_call 125; refine K.out.mono ?_; rintro e w' ⟨⟨r, rfl, h1, h2, h3⟩, hw⟩; rw [hw]; clear hw w'; have h4 : decide (0 ≤ r) = b := (decide_eq_decide.2 h3).trans HB.out.symm; clear h3)
  exact hQ.out _ _ ⟨by rw [← h4]; rfl, rfl⟩
theorem widths_any (w : World) : Calls Tryz.prog 106 #[] w fun e w' => e = .returned (.slice (some ⟨w.heap.size, 0, none⟩) 4 4) ∧ w' = w.alloc (.cells #[.int .i64 8, .int .i64 16, .int .i64 32, .int .i64 64] 3) := by
  refine cps fun Q hQ => ?_
  go_enter Tryz.func106, Tryz.ntmps106
  go_wp2
  exact hQ.out _ _ ⟨rfl, rfl⟩
theorem known_any (n : Int) (w : World) : Calls Tryz.prog 70 #[.int .i64 n] w fun e w' => e = .returned (.bool (isW n)) ∧ Below w.heap.size w w' := by
  have k := contains_any w.heap.size 4 n [8, 16, 32, 64] (isW n) (by simp [isW]) (by decide) (w.alloc (.cells #[.int .i64 8, .int .i64 16, .int .i64 32, .int .i64 64] 3)) (fun j hj => by
    refine (World.cell?_alloc_at _ _ _ _ rfl).trans ?_
    have : j = 0 ∨ j = 1 ∨ j = 2 ∨ j = 3 := by simp at hj; omega
    rcases this with rfl | rfl | rfl | rfl <;> rfl)
  have K : Hid (Calls Tryz.prog 105 #[.slice (some ⟨w.heap.size, 0, none⟩) 4 4, .int .i64 n] (w.alloc (.cells #[.int .i64 8, .int .i64 16, .int .i64 32, .int .i64 64] 3)) _) := k
  clear k
  refine cps fun Q hQ => ?_
  go_enter Tryz.func70, Tryz.ntmps70
  go_wp2_with (first
    | (go_at_call 106; refine (widths_any _).mono ?_; rintro e w' ⟨rfl, rfl⟩)
    | (go_at_call 105; refine K.out.mono ?_; rintro e w' ⟨rfl, hw⟩; rw [hw]; clear hw w'))
  exact hQ.out _ _ ⟨rfl, (Below.refl _ _).alloc (Nat.le_refl _) _⟩
theorem is_width (n : Int) (w : World) : Calls Tryz.prog 21 #[.int .i64 n] w fun e w' => e = .returned (.bool (isW n)) ∧ w' = w := by
  cases hb : isW n
  · obtain ⟨h1, h2, h3, h4⟩ := isW_no hb
    clear hb
    refine cps fun Q hQ => ?_
    go_enter Tryz.func21, Tryz.ntmps21
    go_wp2
    all_goals first | exact hQ.out _ _ ⟨rfl, rfl⟩ | (refine hQ.out _ _ ⟨ret_b ?_, rfl⟩; simp; omega)
  · obtain ⟨m, rfl, hm⟩ := isW_yes hb
    clear hb
    refine cps fun Q hQ => ?_
    rcases hm with rfl | rfl | rfl | rfl
    all_goals
      go_enter Tryz.func21, Tryz.ntmps21
      go_wp2
      exact hQ.out _ _ ⟨rfl, rfl⟩
theorem nar_any (n : Nat) (h1 : 1 ≤ n) (h2 : n ≤ 64) (w : World) : Calls Tryz.prog 56 #[.int .i64 n] w fun e w' => e = .returned (.int .u64 (2 ^ (n - 1) : Nat)) ∧ w' = w := by
  have hp : 2 ^ (n - 1) < 2 ^ 64 := Nat.pow_lt_pow_right (by decide) (by omega)
  have e1 : ((2 : Int) ^ (n - 1)) = ((2 ^ (n - 1) : Nat) : Int) := by simp
  have HE : Hid (IntKind.u64.wrap ((2 : Int) ^ (n - 1)) = ((2 ^ (n - 1) : Nat) : Int)) := by
    show _ = _
    rw [e1, wrapN, Nat.mod_eq_of_lt hp]
  clear e1 hp
  refine cps fun Q hQ => ?_
  go_enter Tryz.func56, Tryz.ntmps56
  go_wp2
  refine hQ.out _ _ ⟨ret_i ?_, rfl⟩
  rw [← HE.out]
theorem power_any (k : Nat) (hk : k ≤ 63) (w : World) : Calls Tryz.prog 111 #[.int .i64 k] w fun e w' => e = .returned (.int .u64 (2 ^ k : Nat)) ∧ w' = w := by
  refine cps fun Q hQ => ?_
  go_enter Tryz.func111, Tryz.ntmps111
  go_wp2
  go_loop [3, 4] (fun pv iv => ∃ i p : Nat, i ≤ k ∧ pv = .int .u64 p ∧ iv = .int .i64 i ∧ Hid (p = 2 ^ i)) (fun _ iv => k - (intOf iv).toNat)
  case atStart => exact ⟨0, 1, Nat.zero_le _, rfl, rfl, rfl⟩
  case round =>
    obtain ⟨i, p, hi, rfl, rfl, hp⟩ := hrel
    by_cases hlt : i < k
    · have hb : 2 * p ≤ 18446744073709551615 := by
        rw [hp.out, ← Nat.pow_succ']
        have : (2 : Nat) ^ (i + 1) ≤ 2 ^ 63 := Nat.pow_le_pow_right (by decide) (by omega)
        omega
      go_wp2
      go_round
      case rel => exact ⟨i + 1, 2 * p, by omega, by go_num, by go_num, by show _ = _; rw [hp.out, Nat.pow_succ']⟩
      case measure => simp [intOf]; omega
    · have hin : i = k := by omega
      subst hin
      have HP : Hid (p = 2 ^ i) := hp
      clear hp
      go_wp2
      exact hQ.out _ _ ⟨ret_i (by rw [HP.out]), rfl⟩
theorem power_sub (n : Nat) (h1 : 1 ≤ n) (h2 : n ≤ 64) (w : World) : Calls Tryz.prog 111 #[.int .i64 ((n : Int) - 1)] w fun e w' => e = .returned (.int .u64 (2 ^ (n - 1) : Nat)) ∧ w' = w := by
  have e : (n : Int) - 1 = ((n - 1 : Nat) : Int) := by omega
  rw [e]
  exact power_any (n - 1) (by omega) w
theorem wd_le {n : Nat} (h : Wd n) : 8 ≤ n ∧ n ≤ 64 := by rcases h with rfl | rfl | rfl | rfl <;> omega
end Go.Proofs.YtheliihkkoohnaaGreat

namespace Go.Proofs.YtheliihkkoohnaaGreat
open Go.ChangeShapes Go.WideShapes Go.ChangeAt Go.RowKit
set_option linter.unusedVariables false
set_option linter.unusedSimpArgs false
set_option maxRecDepth 100000

/-! ### patterns, folded -/
theorem fieldOf_low (x n : Nat) : fieldOf x (0 : Int).toNat ((n : Int)).toNat = x % 2 ^ n := by simp [fieldOf]
theorem fold_ok (n x : Nat) (hn : Wd n) (hx : x < 2 ^ 64) (w : World) :
    Calls Tryz.prog 37 #[.int .i64 n, .int .u64 x] w fun e w' => e = .returned (.tuple #[.int .u64 (x % 2 ^ n : Nat), .nilIface]) ∧ Below w.heap.size w w' := by
  have k1 := known_any n
  rw [isW_of hn] at k1
  have hw := wd_le hn
  have k2 := fun w => lfield_ok x 0 n hx (by simp [isField]; omega) w
  simp only [fieldOf_low] at k2
  clear hx hn hw
  refine cps fun Q hQ => ?_
  generalize x % 2 ^ n = y at *
  go_enter Tryz.func37, Tryz.ntmps37
  go_wp2_with (first
    | (go_at_call 70; refine (k1 _).mono ?_; rintro e w1 ⟨rfl, hb1⟩)
    | (go_at_call 61; refine (k2 _).mono ?_; rintro e w' ⟨rfl, q, rfl⟩))
  exact hQ.out _ _ ⟨rfl, below_drewN hb1 q⟩
theorem fold_no (n : Int) (x : Nat) (hn : isW n = false) (w : World) :
    Calls Tryz.prog 37 #[.int .i64 n, .int .u64 x] w fun e w' => e = .returned (.tuple #[.int .u64 0, .iface 51 (.int .i64 2)]) ∧ Below w.heap.size w w' := by
  have k1 := known_any n
  rw [hn] at k1
  clear hn
  refine cps fun Q hQ => ?_
  go_enter Tryz.func37, Tryz.ntmps37
  go_wp2_with (go_at_call 70; refine (k1 _).mono ?_; rintro e w1 ⟨rfl, hb1⟩)
  exact hQ.out _ _ ⟨rfl, hb1⟩
theorem rfold_ok (n x : Nat) (hn : Wd n) (w : World) :
    Calls Tryz.prog 87 #[.int .i64 n, .int .u64 x] w fun e w' => e = .returned (.tuple #[.int .u64 (x % 2 ^ n : Nat), .int .i64 0]) ∧ Below w.heap.size w w' := by
  have k1 := is_width n
  rw [isW_of hn] at k1
  have hw := (wd_le hn).2
  have hnum := numOf_bitsOf x n
  clear hn
  refine cps fun Q hQ => ?_
  rw [← hnum] at hQ
  clear hnum
  go_enter Tryz.func87, Tryz.ntmps87
  go_wp2_with (first
    | (go_at_call 21; refine (k1 _).mono ?_; rintro e w1 ⟨rfl, rfl⟩)
    | (go_at_call 109; refine (text_any x n hw _).mono ?_; rintro e w2 ⟨s, rfl, hs, hb⟩)
    | (go_at_call 110; go_must (refine (number_any _ _ hs (by rw [bitsOf_length]; exact hw) _).mono ?_); rintro e w' ⟨rfl, rfl⟩))
  exact hQ.out _ _ ⟨rfl, hb⟩
/-! ### Kind -/
def kindOf (n y : Nat) : Int := if y = 0 then 0 else if y = 2 ^ (n - 1) then 2 else 1
theorem kind_ok (n x : Nat) (hn : Wd n) (hx : x < 2 ^ 64) (w : World) :
    Calls Tryz.prog 32 #[.int .i64 n, .int .u64 x] w fun e w' => e = .returned (.tuple #[.int .i64 (kindOf n (x % 2 ^ n)), .nilIface]) ∧ Below w.heap.size w w' := by
  have k1 := fold_ok n x hn hx
  have hw := wd_le hn
  have k2 := nar_any n (by omega) hw.2
  clear hn hx
  refine cps fun Q hQ => ?_
  unfold kindOf at hQ
  generalize x % 2 ^ n = y at *
  generalize 2 ^ (n - 1) = m at *
  by_cases h0 : y = 0
  · subst h0
    rw [if_pos rfl] at hQ
    go_enter Tryz.func32, Tryz.ntmps32
    go_wp2_with (go_at_call 37; refine (k1 _).mono ?_; rintro e w1 ⟨rfl, hb1⟩)
    exact hQ.out _ _ ⟨rfl, hb1⟩
  · rw [if_neg h0] at hQ
    have hd : ((y : Int) == 0) = false := beq_eq_false_iff_ne.2 (by omega)
    by_cases hm : y = m
    · rw [if_pos hm] at hQ
      have hd2 : ((y : Int) == (m : Int)) = true := beq_iff_eq.2 (by omega)
      clear h0 hm
      go_enter Tryz.func32, Tryz.ntmps32
      go_wp2_with (first
        | (go_at_call 37; refine (k1 _).mono ?_; rintro e w1 ⟨rfl, hb1⟩)
        | (go_at_call 56; refine (k2 _).mono ?_; rintro e w1 ⟨rfl, rfl⟩))
      exact hQ.out _ _ ⟨rfl, hb1⟩
    · rw [if_neg hm] at hQ
      have hd2 : ((y : Int) == (m : Int)) = false := beq_eq_false_iff_ne.2 (by omega)
      clear h0 hm
      go_enter Tryz.func32, Tryz.ntmps32
      go_wp2_with (first
        | (go_at_call 37; refine (k1 _).mono ?_; rintro e w1 ⟨rfl, hb1⟩)
        | (go_at_call 56; refine (k2 _).mono ?_; rintro e w1 ⟨rfl, rfl⟩))
      exact hQ.out _ _ ⟨rfl, hb1⟩
theorem kind_no (n : Int) (x : Nat) (hn : isW n = false) (w : World) :
    Calls Tryz.prog 32 #[.int .i64 n, .int .u64 x] w fun e w' => e = .returned (.tuple #[.int .i64 0, .iface 51 (.int .i64 2)]) ∧ Below w.heap.size w w' := by
  have k1 := fold_no n x hn
  clear hn
  refine cps fun Q hQ => ?_
  go_enter Tryz.func32, Tryz.ntmps32
  go_wp2_with (go_at_call 37; refine (k1 _).mono ?_; rintro e w1 ⟨rfl, hb1⟩)
  exact hQ.out _ _ ⟨rfl, hb1⟩
theorem rkind_ok (n x : Nat) (hn : Wd n) (w : World) :
    Calls Tryz.prog 107 #[.int .i64 n, .int .u64 x] w fun e w' => e = .returned (.tuple #[.int .i64 (kindOf n (x % 2 ^ n)), .int .i64 0]) ∧ Below w.heap.size w w' := by
  have k1 := rfold_ok n x hn
  have hw := wd_le hn
  have k2 := power_sub n (by omega) hw.2
  clear hn
  refine cps fun Q hQ => ?_
  unfold kindOf at hQ
  generalize x % 2 ^ n = y at *
  generalize 2 ^ (n - 1) = m at *
  by_cases h0 : y = 0
  · subst h0
    rw [if_pos rfl] at hQ
    go_enter Tryz.func107, Tryz.ntmps107
    go_wp2_with (go_at_call 87; refine (k1 _).mono ?_; rintro e w1 ⟨rfl, hb1⟩)
    exact hQ.out _ _ ⟨rfl, hb1⟩
  · rw [if_neg h0] at hQ
    have hd : ((y : Int) == 0) = false := beq_eq_false_iff_ne.2 (by omega)
    by_cases hm : y = m
    · rw [if_pos hm] at hQ
      have hd2 : ((y : Int) == (m : Int)) = true := beq_iff_eq.2 (by omega)
      clear h0 hm
      go_enter Tryz.func107, Tryz.ntmps107
      go_wp2_with (first
        | (go_at_call 87; refine (k1 _).mono ?_; rintro e w1 ⟨rfl, hb1⟩)
        | (go_at_call 111; refine (k2 _).mono ?_; rintro e w1 ⟨rfl, rfl⟩))
      exact hQ.out _ _ ⟨rfl, hb1⟩
    · rw [if_neg hm] at hQ
      have hd2 : ((y : Int) == (m : Int)) = false := beq_eq_false_iff_ne.2 (by omega)
      clear h0 hm
      go_enter Tryz.func107, Tryz.ntmps107
      go_wp2_with (first
        | (go_at_call 87; refine (k1 _).mono ?_; rintro e w1 ⟨rfl, hb1⟩)
        | (go_at_call 111; refine (k2 _).mono ?_; rintro e w1 ⟨rfl, rfl⟩))
      exact hQ.out _ _ ⟨rfl, hb1⟩
/-! ### Rank, Pattern -/
theorem rank_ok (n x : Nat) (hn : Wd n) (w : World) :
    Calls Tryz.prog 57 #[.int .i64 n, .int .u64 x] w fun e w' => e = .returned (.tuple #[.int .i64 (extOf x n), .nilIface]) ∧ Below w.heap.size w w' := by
  have k1 := known_any n
  rw [isW_of hn] at k1
  have hw := wd_le hn
  have k2 := lext_ok x n (by omega) hw.2
  clear hn
  refine cps fun Q hQ => ?_
  generalize extOf x n = y at *
  go_enter Tryz.func57, Tryz.ntmps57
  go_wp2_with (first
    | (go_at_call 70; refine (k1 _).mono ?_; rintro e w1 ⟨rfl, hb1⟩)
    | (go_at_call 92; refine (k2 _).mono ?_; rintro e w' ⟨rfl, rfl⟩))
  exact hQ.out _ _ ⟨rfl, hb1⟩
end Go.Proofs.YtheliihkkoohnaaGreat

namespace Go.Proofs.YtheliihkkoohnaaGreat
open Go.ChangeShapes Go.WideShapes Go.ChangeAt Go.RowKit
set_option linter.unusedVariables false
set_option linter.unusedSimpArgs false
set_option maxRecDepth 100000

/-! ### the document's codec: patterns as strings -/
theorem fold6_any (n x : Nat) (hn : Wd n) (w : World) :
    Calls Tryz.prog 48 #[.int .i64 n, .int .u64 x] w fun e w' => e = .returned (.int .u64 (x % 2 ^ n : Nat)) ∧ Below w.heap.size w w' := by
  have k1 := rfold_ok n x hn
  clear hn
  refine cps fun Q hQ => ?_
  generalize x % 2 ^ n = y at *
  go_enter Tryz.func48, Tryz.ntmps48
  go_wp2_with (go_at_call 87; refine (k1 _).mono ?_; rintro e w1 ⟨rfl, hb1⟩)
  exact hQ.out _ _ ⟨rfl, hb1⟩
def minusU (x : Nat) : Nat := (18446744073709551616 - x) % 18446744073709551616
theorem minusU_wrap (x : Nat) (hx : x < 2 ^ 64) : IntKind.u64.wrap (-(x : Int)) = (minusU x : Int) := by
  rw [IntKind.wrap_u64]; unfold minusU; omega
theorem minusU_lt (x : Nat) : minusU x < 2 ^ 64 := Nat.mod_lt _ (by decide)
theorem neg6_any (n x : Nat) (hn : Wd n) (hx : x < 2 ^ 64) (w : World) :
    Calls Tryz.prog 28 #[.int .i64 n, .int .u64 x] w fun e w' => e = .returned (.int .u64 (minusU x % 2 ^ n : Nat)) ∧ Below w.heap.size w w' := by
  have k1 := fold6_any n (minusU x) hn
  have e1 := minusU_wrap x hx
  have e2 : IntKind.u64.wrap (0 - (x : Int)) = (minusU x : Int) := by rw [← e1]; congr 1; omega
  clear hn hx
  refine cps fun Q hQ => ?_
  generalize minusU x % 2 ^ n = y at *
  generalize minusU x = z at *
  go_enter Tryz.func28, Tryz.ntmps28
  go_wp2_with (go_at_call 48; refine (k1 _).mono ?_; rintro e w1 ⟨rfl, hb1⟩)
  exact hQ.out _ _ ⟨rfl, hb1⟩
def strS (n x : Nat) : List Bool := (if x.testBit (n - 1) then bitsOf (minusU x) n else bitsOf x n).drop 1
theorem bits_top (x n : Nat) (h : 1 ≤ n) (s : ByteArray) (hs : IsBits s (bitsOf x n)) (hj : 0 < s.size) : (s[0]'hj).toNat = 48 + (x.testBit (n - 1)).toNat := by
  rw [isBits_get hs 0 hj, bitsOf_getD, Nat.sub_zero]
  have : 0 < n := h
  simp only [this, decide_true, Bool.true_and]
  cases x.testBit (n - 1) <;> rfl
theorem string6_any (n x : Nat) (h1 : 1 ≤ n) (h2 : n ≤ 64) (hx : x < 2 ^ 64) (w : World) :
    Calls Tryz.prog 126 #[.int .i64 n, .int .u64 x] w fun e w' => ∃ s, e = .returned (.string s) ∧ IsBits s (strS n x) ∧ Below w.heap.size w w' := by
  have e2 : IntKind.u64.wrap (0 - (x : Int)) = (minusU x : Int) := by rw [← minusU_wrap x hx]; congr 1; omega
  have e1 := minusU_wrap x hx
  clear hx
  refine cps fun Q hQ => ?_
  unfold strS at hQ
  cases hb0 : x.testBit (n - 1)
  all_goals
    rw [hb0] at hQ
    go_enter Tryz.func126, Tryz.ntmps126
    go_wp2_with (first
      | (have chk := hsz; go_at_call 109; refine (text_any (minusU x) n h2 _).mono ?_; rintro e w2 ⟨s2, rfl, hs2, hb2⟩; have hsz2 := isBits_size hs2; rw [bitsOf_length] at hsz2; have r1 := slice_l (P := Tryz.prog) (s := s2) Tryz.underlying9 1 1 rfl (by omega))
      | (go_at_call 109; refine (text_any x n h2 _).mono ?_; rintro e w1 ⟨s, rfl, hs, hb⟩; have hsz := isBits_size hs; rw [bitsOf_length] at hsz; have hs0 := bits_top x n h1 s hs (by omega); rw [hb0] at hs0; have r1 := slice_l (P := Tryz.prog) (s := s) Tryz.underlying9 1 1 rfl (by omega)))
  · have e : ((bitsOf x n).drop 1).take (n - 1) = (bitsOf x n).drop 1 := List.take_of_length_le (by rw [List.length_drop, bitsOf_length]; exact Nat.le_refl _)
    exact hQ.out _ _ ⟨_, rfl, by have := isBits_extract hs 1 n; rw [e] at this; exact this, hb⟩
  · have e : ((bitsOf (minusU x) n).drop 1).take (n - 1) = (bitsOf (minusU x) n).drop 1 := List.take_of_length_le (by rw [List.length_drop, bitsOf_length]; exact Nat.le_refl _)
    exact hQ.out _ _ ⟨_, rfl, by have := isBits_extract hs2 1 n; rw [e] at this; exact this, hb.trans (hb2.mono hb.size)⟩
/-- what a run is, place by place -/
theorem runL_of (l : List Bool) (k : Nat) (h0 : 0 < k) (hk : k ≤ l.length) (hs : ∀ j, j < k → l.getD j false = l.getD 0 false) (he : k < l.length → l.getD k false ≠ l.getD 0 false) : runL l = k := by
  have hne : l ≠ [] := by rintro rfl; simp at hk; omega
  obtain ⟨b, r, t, rfl, ht⟩ := split_run l hne
  rw [runL_rep b r t ht]
  have g0 : (List.replicate (r + 1) b ++ t).getD 0 false = b := by rw [List.replicate_succ]; rfl
  have gin : ∀ j, j < r + 1 → (List.replicate (r + 1) b ++ t).getD j false = b := fun j hj => by
    rw [List.getD_eq_getElem?_getD, List.getElem?_append_left (by simpa using hj), List.getElem?_replicate, if_pos hj]; rfl
  rw [g0] at hs he
  rcases Nat.lt_trichotomy (r + 1) k with h | h | h
  · exfalso
    have h2 := hs (r + 1) h
    rcases ht with rfl | ⟨u, rfl⟩
    · simp at hk; omega
    · rw [List.getD_eq_getElem?_getD, List.getElem?_append_right (by simp)] at h2
      simp at h2
  · exact h
  · exact absurd (gin k h) (he (by rw [List.length_append, List.length_replicate]; omega))
theorem run6_any (s : ByteArray) (l : List Bool) (hs : IsBits s l) (h0 : 0 < l.length) (hl : l.length ≤ 1048576) (w : World) :
    Calls Tryz.prog 127 #[.string s] w fun e w' => e = .returned (.int .i64 (runL l : Nat)) ∧ ∃ q, w' = w.drewN q := by
  have hsz := isBits_size hs
  obtain ⟨n, hn⟩ : ∃ n, n = l.length := ⟨_, rfl⟩
  have HN : Hid (n = l.length) := hn
  rw [← hn] at hsz h0 hl
  clear hn
  have heqs : Hid (∀ k (hk : k < n), ((((s[k]'(by omega)).toNat : Int) == ((s[0]'(by omega)).toNat : Int)) = (l.getD k false == l.getD 0 false))) := fun k hk => by
    rw [isBits_get hs k (by omega), isBits_get hs 0 (by omega)]
    cases l.getD k false <;> cases l.getD 0 false <;> rfl
  clear hs
  refine cps fun Q hQ => ?_
  go_enter Tryz.func127, Tryz.ntmps127
  go_wp2
  go_loopw [3] (fun i wr => ∃ k q : Nat, k ≤ n ∧ i = .int .i64 k ∧ Hid (∀ j, j < k → l.getD j false = l.getD 0 false) ∧ wr = w.drewN q) (fun i _ => n - (intOf i).toNat)
  case atStart => exact ⟨0, 0, Nat.zero_le _, rfl, fun j hj => absurd hj (by omega), rfl⟩
  case round =>
    obtain ⟨k, q, hk, rfl, hsame, rfl⟩ := hrel
    by_cases hlt : k < n
    · have hlt' : (k : Int) < n := by omega
      cases hbit : (l.getD k false == l.getD 0 false) with
      | true =>
        have heq : Hid _ := heqs.out k hlt; rw [hbit] at heq
        go_wp2
        go_quiet (fail)
        have heq' := heq.out
        go_wp2
        go_roundw
        case rel => exact ⟨k + 1, _, by omega, by go_num, fun j hj => by rcases Nat.lt_succ_iff_lt_or_eq.1 hj with c | c; exact hsame.out j c; subst c; simpa using hbit, rfl⟩
        case measure => simp [intOf]; omega
      | false =>
        have heq : Hid _ := heqs.out k hlt; rw [hbit] at heq
        have hk0 : 0 < k := by rcases Nat.eq_zero_or_pos k with c | c; subst c; simp at hbit; exact c
        have hR : runL l = k := runL_of l k hk0 (by rw [← HN.out]; exact hk) hsame.out (fun _ => by simpa using hbit)
        rw [hR] at hQ
        clear hR
        go_wp2
        go_quiet (fail)
        have heq' := heq.out
        go_wp2
        exact hQ.out _ _ ⟨rfl, _, World.drewN_drewN _ _ _⟩
    · have hlt' : decide ((k : Int) < n) = false := by simpa using hlt
      have hkn : k = n := by omega
      have hR : runL l = k := runL_of l k (by omega) (by rw [← HN.out]; exact hk) hsame.out (fun h => by rw [← HN.out] at h; exact absurd h hlt)
      rw [hR] at hQ
      clear hR
      go_wp2
      go_quiet (fail)
      go_wp2
      exact hQ.out _ _ ⟨rfl, _, World.drewN_drewN _ _ _⟩
end Go.Proofs.YtheliihkkoohnaaGreat
