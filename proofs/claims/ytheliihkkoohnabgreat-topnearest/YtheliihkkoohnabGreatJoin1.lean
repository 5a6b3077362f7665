import Derived.WalkKit
import Derived.WalkLawsBesides
import Derived.WalkSpells
import Derived.ProofKit
import Derived.OpenShut
import Derived.Deep.QuietTactic
import Derived.BigQuiet
import Derived.Deep.RegionWith
import Derived.Test.YtheliihkkoohnabGreatRows
import Derived.Lib.BitFns
import Derived.Lib.Tables
import Derived.Lib.IfaceEq
import Derived.Deep.RegionLaw
import Derived.Deep.CutBlock
import Derived.Deep.CutRange
namespace Go.Proofs.YtheliihkkoohnabGreat
set_option maxRecDepth 100000
open Go.ChangeShapes Go.WideShapes Go.ChangeAt Go.RowKit

theorem cps {P : Program} {f : FuncId} {args : Array Value} {w : World} {R : Ending → World → Prop}
    (h : ∀ Q, Hid (∀ e w', R e w' → Q e w') → Calls P f args w Q) : Calls P f args w R := h R (fun _ _ h => h)

/-- the world of a pure call: some draws, nothing else -/
theorem below_drewN {B : Nat} {a w : World} (h : Below B a w) (n : Nat) : Below B a (w.drewN n) := ⟨h.os, h.tape, h.output, h.size, h.block⟩

/-! ### append of one element -/
theorem append1 {P : Program} {w0 : World} {ops : Array Oper} {rest : List Oper} {o : Oper} {a : Act} {Q : Exit → Act → World → Prop} {u : Value} (hgd : o.guard = none) (s x : Operand) (t : TypeId)
    (ho : o.op = .call { callee := .builtin .append, args := #[s, x], argTypes := #[t, t] })
    (base : Nat) (e : TypeId) (i : TypeInfo) (z : Value) (bytes : Nat) (ht : P.underlying t = some (.slice e)) (hi : P.info? e = some i) (hz : i.zero = some z)
    (hsize : i.size = 1) (hby : i.bytes = bytes) (hzs : z.cells.size = 1)
    (v : Value) (n : Nat) (xs : List Value) (hown : w0.ownsRow base e 1 v n xs) (hs : a.eval s = v) (hu : u.oneCell' = true)
    (hx : a.eval x = .slice (some ⟨w0.heap.size, 0, none⟩) 1 1)
    (hbytes : (n + 1) * bytes ≤ 140737488355328) (hb1 : 0 < bytes) (hbase : base ≤ w0.heap.size)
    (h : ∀ v' w', w'.ownsRow base e 1 v' (n + 1) (xs ++ [u]) → Below base w0 w' → v' ≠ .slice none 0 0 → w0.grownBy w' v.ownBlock → wpList P ops Q rest (a.put o.dst v') w') :
    wpList P ops Q (o :: rest) a (w0.alloc (.cells #[u] e)) := by
  have hle : n + 1 ≤ (n + 1) * bytes := Nat.le_mul_of_pos_right _ hb1
  refine wpList_append_own _ hgd s x t ho base e i z 1 bytes ht hi hz hsize hby hzs (by decide) v n xs hs (hown.alloc _) ⟨w0.heap.size, 0, none⟩ 1 1 [u] hx rfl ?_ ?_ ?_ hbytes ?_ ?_
  · intro j y hj
    match j, hj with
    | 0, hj => simp at hj; subst hj; simp [Addr.add]
  · intro y hy; simp at hy; subst hy; exact hu
  · unfold maxLen; omega
  · simp; omega
  · intro v' w' h1 h2 h3
    have hlt := hown.lt
    refine h v' w' h1 (((Below.refl base w0).alloc hbase _).grown h2 (by simp; omega) (fun k hk => (hlt k hk).1)) ?_ ?_
    · intro hv; have := (h3.1 hv).2; omega
    · exact ⟨h2.os, h2.tape, h2.output, Nat.le_trans (by simp) h2.size, fun k hk hne => (h2.block k (by simp; omega) hne).trans (Below.heap_alloc w0 _ _ hk)⟩

/-- 'string(b)', b a row of the call's own -/
theorem run_convert_own {P : Program} {w : World} {base : Nat} {src dst e : TypeId} {v : Value} {n : Nat} (l : List UInt8) (hown : w.ownsRow base e 1 v n (l.map fun b => .int .u8 b.toNat))
    (hs : P.underlying src = some (.slice e)) (he : P.underlying e = some (.int .u8)) (hd : P.underlying dst = some .string) :
    (convert src dst v).run P w = .ok (.string ⟨l.toArray⟩) w := by
  obtain ⟨h1, h2⟩ := hown
  rcases h2 with ⟨rfl, rfl⟩ | ⟨g, cap, cur, rfl, _, hg, hn, _, hsz, ht⟩
  · have hl : l = [] := by simpa using h1
    subst hl
    exact run_convert_bytes_nil w src e hs he 0 0 dst hd
  · have hl : l.length = n := by simpa using h1
    subst hl
    refine run_convert_bytes_back w src dst e _ cap l hs he hd ?_
    intro j hj
    have hc : cur[j]? = some (.int .u8 (l[j].toNat : Int)) := by
      have e1 : (cur.toList.take (l.length * 1))[j]? = (l.map fun b => Value.int .u8 (b.toNat : Int))[j]? := by rw [ht]
      rw [List.getElem?_take_of_lt (by omega)] at e1
      simpa [hj] using e1
    unfold Addr.add; split <;> simp_all [World.cell?]

/-! ### words -/
theorem ext64 {a b : Nat} (ha : a < 2^64) (hb : b < 2^64) (h : ∀ i, i < 64 → a.testBit i = b.testBit i) : a = b := by
  apply Nat.eq_of_testBit_eq
  intro i
  by_cases hi : i < 64
  · exact h i hi
  · rw [Nat.testBit_lt_two_pow (Nat.lt_of_lt_of_le ha (Nat.pow_le_pow_right (by decide) (by omega))), Nat.testBit_lt_two_pow (Nat.lt_of_lt_of_le hb (Nat.pow_le_pow_right (by decide) (by omega)))]
theorem wrapI {n : Int} (h : -9223372036854775808 ≤ n ∧ n ≤ 9223372036854775807) : IntKind.i64.wrap n = n := by simp [IntKind.wrap, IntKind.bits, IntKind.signed]; omega
theorem wrapN (x : Nat) : IntKind.u64.wrap (x : Int) = ((x % 2^64 : Nat) : Int) := by rw [IntKind.wrap_u64]; omega
theorem wrapShl (x k : Nat) : IntKind.u64.wrap ((x : Int) * 2 ^ k) = (((x <<< k) % 2^64 : Nat) : Int) := by
  rw [Nat.shiftLeft_eq, ← wrapN]; simp
theorem shrN (x k : Nat) : (x : Int) / 2 ^ k = ((x >>> k : Nat) : Int) := by rw [Nat.shiftRight_eq_div_pow]; simp
/-- the lowest n bits' mask, as the code reckons it -/
theorem wrapMask (n : Nat) (hn : n ≤ 64) : IntKind.u64.wrap (IntKind.u64.wrap (2 ^ n) - 1) = ((2^n - 1 : Nat) : Int) := by
  have e : ((2:Int) ^ n) = ((2 ^ n : Nat) : Int) := by simp
  rw [e, wrapN]
  rcases Nat.lt_or_ge n 64 with h | h
  · have h1 : 2^n < 2^64 := Nat.pow_lt_pow_right (by decide) h
    have h2 : 0 < 2^n := Nat.pos_of_ne_zero (by simp)
    rw [Nat.mod_eq_of_lt h1, IntKind.wrap_u64]; omega
  · have : n = 64 := by omega
    subst this; rw [IntKind.wrap_u64]; decide
theorem mask_lt (n : Nat) (hn : n ≤ 64) : 2^n - 1 < 2^64 := by
  have : 2^n ≤ 2^64 := Nat.pow_le_pow_right (by decide) hn
  have h2 : 0 < 2^n := Nat.pos_of_ne_zero (by simp)
  omega

/-! ### bits as text -/
def bitByte (b : Bool) : UInt8 := if b then 49 else 48
def IsBits (s : ByteArray) (l : List Bool) : Prop := s.data.toList = l.map bitByte
def bitsOf (x n : Nat) : List Bool := (List.range n).map fun j => x.testBit (n - 1 - j)
def numOf (l : List Bool) : Nat := l.foldl (fun a b => 2 * a + b.toNat) 0
theorem bitsOf_length (x n : Nat) : (bitsOf x n).length = n := by simp [bitsOf]
theorem bitsOf_get (x n j : Nat) (h : j < n) : (bitsOf x n)[j]? = some (x.testBit (n - 1 - j)) := by
  simp [bitsOf, h]
theorem numOf_snoc (l : List Bool) (b : Bool) : numOf (l ++ [b]) = 2 * numOf l + b.toNat := by simp [numOf]
theorem numOf_acc (l : List Bool) (a : Nat) : l.foldl (fun a b => 2 * a + b.toNat) a = a * 2 ^ l.length + numOf l := by
  induction l generalizing a with
  | nil => simp [numOf]
  | cons b l ih => simp only [List.foldl_cons, numOf, List.length_cons]; rw [ih, ih (2 * 0 + b.toNat)]; simp only [Nat.pow_succ]; rw [Nat.add_mul, Nat.add_mul, Nat.add_assoc]; congr 1; rw [Nat.mul_comm (2 ^ l.length) 2, ← Nat.mul_assoc, Nat.mul_comm a 2]; simp
theorem numOf_cons (b : Bool) (l : List Bool) : numOf (b :: l) = b.toNat * 2 ^ l.length + numOf l := by
  have := numOf_acc l (2 * 0 + b.toNat); simpa [numOf] using this
theorem numOf_lt (l : List Bool) : numOf l < 2 ^ l.length := by
  induction l with
  | nil => simp [numOf]
  | cons b l ih => rw [numOf_cons, List.length_cons, Nat.pow_succ]; cases b <;> simp <;> omega
theorem numOf_testBit (l : List Bool) (i : Nat) : (numOf l).testBit i = (decide (i < l.length) && l.getD (l.length - 1 - i) false) := by
  induction l with
  | nil => simp [numOf]
  | cons b l ih =>
    have hlt := numOf_lt l
    rw [numOf_cons, Nat.mul_comm]
    rw [Nat.testBit_two_pow_mul_add _ hlt]
    by_cases h : i < l.length
    · rw [if_pos h, ih]
      have e : l.length + 1 - 1 - i = (l.length - 1 - i) + 1 := by omega
      simp only [List.length_cons, e, List.getD_cons_succ]
      simp [h, Nat.lt_succ_of_lt h]
    · rw [if_neg h]
      by_cases h2 : i = l.length
      · subst h2; cases b <;> simp
      · have h3 : ¬ i < (b :: l).length := by simp; omega
        have h4 : 1 ≤ i - l.length := by omega
        simp only [h3, decide_false, Bool.false_and]
        have : b.toNat < 2 ^ (i - l.length) := Nat.lt_of_lt_of_le (show b.toNat < 2 by cases b <;> decide) (by rw [show (2:Nat) = 2^1 from rfl]; exact Nat.pow_le_pow_right (by decide) h4)
        exact Nat.testBit_lt_two_pow this
/-- shown and read again: the lowest n bits -/
theorem bitsOf_getD (x n j : Nat) : (bitsOf x n).getD j false = (decide (j < n) && x.testBit (n - 1 - j)) := by
  by_cases h : j < n
  · rw [List.getD_eq_getElem?_getD, bitsOf_get x n j h]; simp [h]
  · rw [List.getD_eq_getElem?_getD, List.getElem?_eq_none (by rw [bitsOf_length]; omega)]; simp [h]
theorem isBits_size {s : ByteArray} {l : List Bool} (h : IsBits s l) : s.size = l.length := by
  have := congrArg List.length h; simpa using this
theorem isBits_get {s : ByteArray} {l : List Bool} (h : IsBits s l) (j : Nat) (hj : j < s.size) : s[j] = bitByte (l.getD j false) := by
  have hl := isBits_size h
  have e : s.data.toList[j]? = (l.map bitByte)[j]? := by rw [h]
  rw [List.getElem?_map, List.getElem?_eq_getElem (by simpa using hj), List.getElem?_eq_getElem (by omega)] at e
  simp only [Option.map_some, Option.some.injEq] at e
  rw [List.getD_eq_getElem?_getD, List.getElem?_eq_getElem (by omega)]
  exact e
theorem isBits_extract {s : ByteArray} {l : List Bool} (h : IsBits s l) (a b : Nat) : IsBits (s.extract a b) ((l.drop a).take (b - a)) := by
  unfold IsBits at *
  rw [ByteArray.data_extract]
  simp only [Array.toList_extract, List.extract_eq_take_drop, h, List.map_take, List.map_drop]
theorem isBits_append {s t : ByteArray} {l m : List Bool} (h : IsBits s l) (k : IsBits t m) : IsBits (s ++ t) (l ++ m) := by
  unfold IsBits at *
  simp [h, k]

theorem nat_of_u64 {a : Int} (h : (Lit.int .u64 a).wf = true) : ∃ x : Nat, a = x ∧ x < 2 ^ 64 := by
  have := bounds_u64 h
  exact ⟨a.toNat, by omega, by omega⟩

/-! ### pieces of a text -/
theorem slice_h {P : Program} {t : TypeId} {s : ByteArray} (ht : P.underlying t = some .string) (h : Int) (n : Nat) (hn : h = n) (h2 : n ≤ s.size) (wx : World) :
    (Instr.slice t (.string s) none (some (.int .i64 h)) none).run P wx = .ok (.string (s.extract 0 n)) wx := by
  subst hn
  exact run_slice_string_h wx t s ht .i64 n (by omega) (by omega)
theorem slice_l {P : Program} {t : TypeId} {s : ByteArray} (ht : P.underlying t = some .string) (l : Int) (n : Nat) (hn : l = n) (h2 : n ≤ s.size) (wx : World) :
    (Instr.slice t (.string s) (some (.int .i64 l)) none none).run P wx = .ok (.string (s.extract n s.size)) wx := by
  subst hn
  exact run_slice_string_l wx t s ht .i64 n (by omega) (by omega)

/-! ### results -/
theorem ret_i {k : IntKind} {a b : Int} (h : a = b) : Ending.returned (.int k a) = .returned (.int k b) := by rw [h]
theorem ret_b {a b : Bool} (h : a = b) : Ending.returned (.bool a) = .returned (.bool b) := by rw [h]
theorem ret_ix {k : IntKind} {a b : Int} {u : Value} (h : a = b) : Ending.returned (.tuple #[.int k a, u]) = .returned (.tuple #[.int k b, u]) := by rw [h]
theorem ret_bix {x y : Bool} {k : IntKind} {a b : Int} {u : Value} (g : x = y) (h : a = b) : Ending.returned (.tuple #[.bool x, .int k a, u]) = .returned (.tuple #[.bool y, .int k b, u]) := by rw [g, h]
end Go.Proofs.YtheliihkkoohnabGreat

namespace Go.Proofs.YtheliihkkoohnabGreat
set_option maxRecDepth 100000
set_option linter.unusedVariables false
set_option linter.unusedSimpArgs false

/-! ### strings of bits: runs, what they mean, and the string of a number (plain mathematics) -/
abbrev noughts (k : Nat) : List Bool := List.replicate k false
def runL : List Bool → Nat
  | [] => 0
  | b :: l => 1 + (l.takeWhile (· == b)).length
def onesL (l : List Bool) : Bool := l.getD 0 false
def restL (l : List Bool) : List Bool := l.drop (runL l + 1)
def regL (l : List Bool) : Int := if onesL l then (runL l : Int) - 1 else -(runL l : Int)
def expL (l : List Bool) : Nat := numOf ((restL l ++ noughts 2).take 2)
def fracL (l : List Bool) : Nat := numOf ((restL l).drop 2)
def scaleL (l : List Bool) : Int := 4 * regL l + expL l
def wordL (l : List Bool) : Nat := numOf (true :: (((restL l).drop 2) ++ noughts 63).take 63)

theorem takeWhile_rep (b : Bool) (r : Nat) (t : List Bool) (ht : t = [] ∨ ∃ u, t = (!b) :: u) : (List.replicate r b ++ t).takeWhile (· == b) = List.replicate r b := by
  induction r with
  | zero =>
    rcases ht with rfl | ⟨u, rfl⟩
    · rfl
    · cases b <;> rfl
  | succ r ih => rw [List.replicate_succ, List.cons_append, List.takeWhile_cons_of_pos (by simp), ih]
theorem runL_rep (b : Bool) (r : Nat) (t : List Bool) (ht : t = [] ∨ ∃ u, t = (!b) :: u) : runL (List.replicate (r + 1) b ++ t) = r + 1 := by
  rw [List.replicate_succ, List.cons_append, runL, takeWhile_rep b r t ht, List.length_replicate]; omega
theorem onesL_rep (b : Bool) (r : Nat) (t : List Bool) : onesL (List.replicate (r + 1) b ++ t) = b := by
  rw [List.replicate_succ, List.cons_append]; rfl
theorem restL_end (b : Bool) (r : Nat) : restL (List.replicate (r + 1) b) = [] := by
  have := runL_rep b r [] (.inl rfl)
  rw [List.append_nil] at this
  rw [restL, this, List.drop_of_length_le (by simp)]
theorem restL_rep (b : Bool) (r : Nat) (u : List Bool) : restL (List.replicate (r + 1) b ++ (!b) :: u) = u := by
  rw [restL, runL_rep b r _ (.inr ⟨u, rfl⟩), show r + 1 + 1 = (List.replicate (r + 1) b).length + 1 by simp, List.drop_append]
  simp
/-- each string begins with a run -/
theorem split_run (l : List Bool) (h : l ≠ []) : ∃ b r t, l = List.replicate (r + 1) b ++ t ∧ (t = [] ∨ ∃ u, t = (!b) :: u) := by
  induction l with
  | nil => exact absurd rfl h
  | cons a l ih =>
    cases l with
    | nil => exact ⟨a, 0, [], rfl, .inl rfl⟩
    | cons c l =>
      obtain ⟨b, r, t, he, ht⟩ := ih (by simp)
      by_cases hab : a = b
      · subst hab
        exact ⟨a, r + 1, t, by rw [he, List.replicate_succ (n := r + 1), List.cons_append], ht⟩
      · have : b = !a := by cases a <;> cases b <;> simp_all
        subst this
        refine ⟨a, 0, c :: l, rfl, .inr ⟨List.replicate r (!a) ++ t, ?_⟩⟩
        rw [he, List.replicate_succ, List.cons_append]
theorem numOf_append (a b : List Bool) : numOf (a ++ b) = numOf a * 2 ^ b.length + numOf b := by
  have := numOf_acc b (numOf a)
  rw [← this]; simp [numOf]
theorem numOf_noughts (k : Nat) : numOf (noughts k) = 0 := by
  induction k with
  | zero => rfl
  | succ k ih => rw [noughts, List.replicate_succ, numOf_cons]; simpa using ih
theorem bitsOf_numOf (l : List Bool) : bitsOf (numOf l) l.length = l := by
  apply List.ext_getElem?
  intro j
  by_cases hj : j < l.length
  · rw [bitsOf_get _ _ _ hj, List.getElem?_eq_getElem hj, numOf_testBit, show l.length - 1 - (l.length - 1 - j) = j by omega, List.getD_eq_getElem?_getD, List.getElem?_eq_getElem hj]
    simp; omega
  · rw [List.getElem?_eq_none (by rw [bitsOf_length]; omega), List.getElem?_eq_none (by omega)]
theorem numOf_inj {a b : List Bool} (hl : a.length = b.length) (h : numOf a = numOf b) : a = b := by
  rw [← bitsOf_numOf a, ← bitsOf_numOf b, h, hl]
theorem noughts_add (i j : Nat) : noughts i ++ noughts j = noughts (i + j) := by simp [noughts]
theorem take_noughts (i j : Nat) (h : j ≤ i) : (noughts i).take j = noughts j := by simp [noughts, Nat.min_eq_left h]
structure SameL (a b : List Bool) : Prop where
  ones : onesL a = onesL b
  run : runL a = runL b
  exp : expL a = expL b
  word : wordL a = wordL b
theorem SameL.scale {a b : List Bool} (h : SameL a b) : scaleL a = scaleL b := by unfold scaleL regL; rw [h.ones, h.run, h.exp]
/-! ### the string of a number -/
def headK (k : Int) : List Bool := if 0 ≤ k then List.replicate (k.toNat + 1) true ++ [false] else List.replicate (-k).toNat false ++ [true]
def canon (s : Int) (f : Nat) : List Bool := headK (s / 4) ++ bitsOf (s % 4).toNat 2 ++ (bitsOf f 64).drop 1
theorem headK_rep (b : Bool) (r : Nat) : headK (if b then ((r + 1 : Nat) : Int) - 1 else -((r + 1 : Nat) : Int)) = List.replicate (r + 1) b ++ [!b] := by
  cases b
  · simp only [Bool.false_eq_true, if_false, headK]
    rw [if_neg (by omega), show (- -((r + 1 : Nat) : Int)).toNat = r + 1 by omega]; rfl
  · simp only [if_true, headK]
    rw [if_pos (by omega), show (((r + 1 : Nat) : Int) - 1).toNat + 1 = r + 1 by omega]; rfl
theorem headK_form (k : Int) : ∃ b r, headK k = List.replicate (r + 1) b ++ [!b] ∧ k = if b then ((r + 1 : Nat) : Int) - 1 else -((r + 1 : Nat) : Int) := by
  by_cases h : 0 ≤ k
  · refine ⟨true, k.toNat, ?_, ?_⟩
    · rw [headK, if_pos h]; rfl
    · rw [if_pos rfl]; omega
  · refine ⟨false, (-k).toNat - 1, ?_, ?_⟩
    · rw [headK, if_neg h, show (-k).toNat - 1 + 1 = (-k).toNat by omega]; rfl
    · rw [if_neg (by simp)]; omega
theorem numOf_bits (x n : Nat) : numOf (bitsOf x n) = x % 2 ^ n := by
  apply Nat.eq_of_testBit_eq
  intro i
  rw [Nat.testBit_mod_two_pow, numOf_testBit, bitsOf_length, bitsOf_getD]
  by_cases hi : i < n
  · rw [show n - 1 - (n - 1 - i) = i by omega]; simp [hi]; omega
  · simp [hi]
theorem top_word (f : Nat) (h : 9223372036854775808 ≤ f) (h2 : f < 18446744073709551616) : bitsOf f 64 = true :: (bitsOf f 64).drop 1 := by
  have hl : (bitsOf f 64).length = 64 := bitsOf_length _ _
  have hn := numOf_bits f 64
  cases hc : bitsOf f 64 with
  | nil => rw [hc] at hl; cases hl
  | cons b l =>
    rw [hc] at hl hn
    have hl2 : l.length = 63 := by simpa using hl
    have := numOf_lt l
    rw [numOf_cons, hl2] at hn
    rw [hl2] at this
    cases b
    · simp at hn; omega
    · rfl
theorem padE (u : List Bool) (h : u.length ≤ 63) : (u ++ noughts 2).take 2 ++ (u.drop 2 ++ noughts 63).take 63 = u ++ noughts (65 - u.length) := by
  match u with
  | [] => rfl
  | [a] => rfl
  | a :: b :: v =>
    have hv : v.length ≤ 61 := by simpa using h
    simp only [List.cons_append, List.take_succ_cons, List.take_zero, List.drop_succ_cons, List.drop_zero, List.nil_append, List.length_cons]
    congr 2
    rw [List.take_append, List.take_of_length_le (by omega), take_noughts _ _ (by omega)]
    congr 2; omega
/-- and what a string means has that string, noughts behind it -/
theorem canon_parse (t : List Bool) (ht : true ∈ t) (hl : t.length ≤ 64) : ∃ z, canon (scaleL t) (wordL t) = t ++ noughts z ∧ 2 ≤ z := by
  have hne : t ≠ [] := by rintro rfl; cases ht
  have key : ∀ (b : Bool) (r : Nat) (u : List Bool), runL t = r + 1 → onesL t = b → restL t = u → r + u.length ≤ 63 →
      canon (scaleL t) (wordL t) = List.replicate (r + 1) b ++ (!b) :: (u ++ noughts (65 - u.length)) := by
    intro b r u h1 h2 h3 h4
    have he : expL t = numOf ((u ++ noughts 2).take 2) := by rw [expL, h3]
    have hlen : ((u ++ noughts 2).take 2).length = 2 := by simp
    have he4 := numOf_lt ((u ++ noughts 2).take 2)
    rw [hlen, ← he] at he4
    have hs : scaleL t = 4 * (if b then ((r + 1 : Nat) : Int) - 1 else -((r + 1 : Nat) : Int)) + expL t := by unfold scaleL regL; rw [h1, h2]
    have hh := headK_rep b r
    generalize (if b then ((r + 1 : Nat) : Int) - 1 else -((r + 1 : Nat) : Int)) = k at *
    have hk : scaleL t / 4 = k := by omega
    have hm : (scaleL t % 4).toNat = expL t := by omega
    have hw : (bitsOf (wordL t) 64).drop 1 = (u.drop 2 ++ noughts 63).take 63 := by
      have hl2 : (true :: (u.drop 2 ++ noughts 63).take 63).length = 64 := by simp
      have := bitsOf_numOf (true :: (u.drop 2 ++ noughts 63).take 63)
      rw [hl2] at this
      rw [wordL, h3, this]; rfl
    have hb2 : bitsOf (expL t) 2 = (u ++ noughts 2).take 2 := by
      have := bitsOf_numOf ((u ++ noughts 2).take 2)
      rw [hlen] at this
      rw [he, this]
    rw [canon, hk, hm, hh, hw, hb2, List.append_assoc, List.append_assoc, padE u (by omega)]
    rfl
  obtain ⟨b, r, tl, rfl, htl⟩ := split_run t hne
  rcases htl with rfl | ⟨u, rfl⟩
  · rw [List.append_nil] at *
    have hb : b = true := (List.mem_replicate.1 ht).2.symm
    subst hb
    have h1 := runL_rep true r [] (.inl rfl)
    have h2 := onesL_rep true r []
    rw [List.append_nil] at h1 h2
    rw [List.length_replicate] at hl
    refine ⟨66, ?_, by omega⟩
    rw [key true r [] h1 h2 (restL_end true r) (by simp; omega)]
    rfl
  · have hlu : r + u.length ≤ 62 := by simp at hl; omega
    refine ⟨65 - u.length, ?_, by omega⟩
    rw [key b r u (runL_rep b r _ (.inr ⟨u, rfl⟩)) (onesL_rep b r _) (restL_rep b r u) (by omega)]
    simp
theorem wordL_bounds (t : List Bool) : 9223372036854775808 ≤ wordL t ∧ wordL t < 18446744073709551616 := by
  have h1 : (((restL t).drop 2 ++ noughts 63).take 63).length = 63 := by simp
  have h2 := numOf_lt (((restL t).drop 2 ++ noughts 63).take 63)
  unfold wordL
  rw [numOf_cons]
  rw [h1] at *
  simp; omega
end Go.Proofs.YtheliihkkoohnabGreat

set_option maxRecDepth 100000
namespace Go.Proofs.YtheliihkkoohnabGreat
open Go.ChangeShapes Go.WideShapes Go.ChangeAt Go.RowKit

theorem infoU8 : (Tryz.prog.info? 5).map (fun i => (i.zero, i.size, i.bytes)) = some (some (.int .u8 0), 1, 1) := by kernel_rfl

def chars (l : List Bool) : List Value := l.map fun b => .int .u8 (bitByte b).toNat
theorem bit_char (x k : Nat) : ((48 + ((x : Int) / 2 ^ k).tmod 2) % 256) = ((bitByte (x.testBit k)).toNat : Int) := by
  rw [shrN, Nat.testBit_eq_decide_div_mod_eq, Nat.shiftRight_eq_div_pow]
  generalize x / 2 ^ k = y
  rw [Int.tmod_eq_emod_of_nonneg (by omega)]
  rcases Nat.mod_two_eq_zero_or_one y with h | h
  · have : ((y:Int)) % 2 = 0 := by omega
    rw [this]; simp [bitByte, h]
  · have : ((y:Int)) % 2 = 1 := by omega
    rw [this]; simp [bitByte, h]

theorem bitsOf_step (x n k : Nat) (h : k < n) : (bitsOf x n).take (k + 1) = (bitsOf x n).take k ++ [x.testBit (n - 1 - k)] := by
  rw [List.take_add_one, bitsOf_get x n k h]; rfl

theorem text_any (x : Nat) (n : Nat) (hn : n ≤ 64) (w : World) :
    Calls Tryz.prog 27 #[.int .u64 x, .int .i64 n] w fun e w' => ∃ s, e = .returned (.string s) ∧ IsBits s (bitsOf x n) ∧ Below w.heap.size w w' := by
  obtain ⟨i0, hi, hz0, hz1, hz2⟩ := info_parts infoU8
  refine cps fun Q hQ => ?_
  go_enter Tryz.func27, Tryz.ntmps27
  go_wp2
  go_loopw [5, 6] (fun v i wr => ∃ k : Nat, k ≤ n ∧ i = .int .i64 ((n : Int) - 1 - k) ∧ wr.ownsRow w.heap.size 5 1 v k (chars ((bitsOf x n).take k)) ∧ Below w.heap.size w wr)
    (fun _ i _ => (intOf i + 1).toNat)
  case atStart => exact ⟨0, Nat.zero_le _, by simp, World.ownsRow_nil _ _ _ _, Below.refl _ _⟩
  case round =>
    obtain ⟨k, hk, rfl, hown, hb⟩ := hrel
    have hs := hb.size
    by_cases hlt : k < n
    · go_wp2_with (at_builtin; go_must (refine append1 rfl _ _ 78 rfl w.heap.size 5 i0 (.int .u8 0) 1 Tryz.underlying78 hi hz0 hz1 hz2 rfl _ _ _ hown rfl rfl rfl (by omega) (by omega) hs ?_); intro v' w1 hown1 hb1 hne1 _)
      go_roundw
      case rel => exact ⟨k + 1, by omega, by go_num, by rw [bitsOf_step x n k hlt]; simpa [chars, bit_char] using hown1, hb.trans hb1⟩
      case measure => simp [intOf]; omega
    · have hkn : k = n := by omega
      subst hkn
      have hcv := run_convert_own (P := Tryz.prog) ((bitsOf x k).map bitByte) (by simpa [chars, bitsOf_length, List.take_of_length_le, Function.comp_def] using hown) Tryz.underlying78 Tryz.underlying5 Tryz.underlying9
      go_wp2
      exact hQ.out _ _ ⟨_, rfl, by simp [IsBits], hb⟩

theorem numOf_step (l : List Bool) (k : Nat) (h : k < l.length) : numOf (l.take (k + 1)) = 2 * numOf (l.take k) + (l.getD k false).toNat := by
  rw [List.take_add_one, List.getElem?_eq_getElem h, List.getD_eq_getElem?_getD, List.getElem?_eq_getElem h]
  exact numOf_snoc _ _
theorem num_char (b : Bool) (m : Nat) : IntKind.u64.wrap (IntKind.u64.wrap (2 * (m : Int)) + (((bitByte b).toNat : Int) - 48) % 256) = (((2 * m + b.toNat) % 2^64 : Nat) : Int) := by
  rw [IntKind.wrap_u64, IntKind.wrap_u64]
  cases b <;> simp [bitByte] <;> omega
theorem number_any (s : ByteArray) (l : List Bool) (hs : IsBits s l) (hl : l.length ≤ 64) (w : World) :
    Calls Tryz.prog 28 #[.string s] w fun e w' => e = .returned (.int .u64 (numOf l : Nat)) ∧ w' = w := by
  have hsz := isBits_size hs
  refine cps fun Q hQ => ?_
  go_enter Tryz.func28, Tryz.ntmps28
  go_wp2
  go_loop [3, 4] (fun v i => ∃ k : Nat, k ≤ s.size ∧ i = .int .i64 k ∧ v = .int .u64 (numOf (l.take k) : Nat)) (fun _ i => s.size - (intOf i).toNat)
  case atStart => exact ⟨0, Nat.zero_le _, rfl, rfl⟩
  case round =>
    obtain ⟨k, hk, rfl, rfl⟩ := hrel
    by_cases hlt : k < s.size
    · go_wp2
      go_round
      case rel =>
        have h2 : numOf (l.take (k + 1)) < 2 ^ 64 := Nat.lt_of_lt_of_le (numOf_lt _) (Nat.pow_le_pow_right (by decide) (by rw [List.length_take]; omega))
        refine ⟨k + 1, by omega, by go_num, ?_⟩
        rw [isBits_get hs k hlt, num_char, ← numOf_step l k (by omega), Nat.mod_eq_of_lt h2]
      case measure => simp [intOf]; omega
    · go_wp2
      have hkn : k = s.size := by omega
      subst hkn
      exact hQ.out _ _ ⟨by rw [List.take_of_length_le (by omega)], rfl⟩

/-! ### the library's Len64, LeadingZeros64 -/
set_option maxRecDepth 100000 in
theorem len8tab_size : (Lib.len8tab.size : Int) = 256 := by
  have : Lib.len8tab.size = 256 := by decide
  omega
theorem len8_get (y : Int) (h : y.toNat < Lib.len8tab.size) : ((Lib.len8tab[y.toNat]'h).toNat : Int) = Lib.len8 y := by
  unfold Lib.len8
  rw [getElem?_pos Lib.len8tab y.toNat h]
  rfl
theorem len8_fin (k P X : Nat) (K : Int) (y : Int) (hP : P = 2 ^ k) (hK : K = k) (h0 : 0 ≤ y) (h1 : y ≤ 255) (hk : k ≤ 56) (hX : X < 2 ^ 64) (hPX : P ≤ X) (hy : y.toNat = X / P) :
    wrap64 (K + wrap64 (Lib.len8 y)) = (Lib.bitLen X : Int) := by
  rw [Lib.len8_of y h0 h1, hK]
  have l := Lib.bitLen_le8' y h0 h1
  have s := Lib.bitLen_shift k X (hP ▸ hPX) hX
  rw [← hP] at s
  rw [hy] at l ⊢
  generalize Lib.bitLen (X / P) = a at *
  generalize Lib.bitLen X = b at *
  clear hP hX hPX hy h0 h1
  unfold wrap64
  omega
theorem len8_fin0 (X : Nat) (y : Int) (h0 : 0 ≤ y) (h1 : y ≤ 255) (hy : y.toNat = X) :
    wrap64 (wrap64 (Lib.len8 y)) = (Lib.bitLen X : Int) := by
  rw [Lib.len8_of y h0 h1]
  have l := Lib.bitLen_le8' y h0 h1
  rw [hy] at l ⊢
  generalize Lib.bitLen X = b at *
  clear h0 h1 hy
  unfold wrap64
  omega
set_option maxRecDepth 100000 in
theorem len64_int (x : Int) (h0 : 0 ≤ x) (h1 : x ≤ 18446744073709551615) (w : World) :
    Calls Tryz.prog 110 #[.int .u64 x] w fun e w' => e = .returned (.int .i64 (Lib.bitLen x.toNat)) ∧ w' = w := by
  have hsz := len8tab_size
  go_enter Tryz.func110, Tryz.ntmps110
  go_wp2
  all_goals (go_ret; refine ⟨congrArg Ending.returned (congrArg (Value.int IntKind.i64) ?_), rfl⟩; rw [len8_get]; clear hsz)
  all_goals first
    | exact len8_fin 56 72057594037927936 x.toNat 56 (x / 4294967296 / 65536 / 256) rfl rfl (by omega) (by omega) (by decide) (by omega) (by omega) (by omega)
    | exact len8_fin 48 281474976710656 x.toNat 48 (x / 4294967296 / 65536) rfl rfl (by omega) (by omega) (by decide) (by omega) (by omega) (by omega)
    | exact len8_fin 40 1099511627776 x.toNat 40 (x / 4294967296 / 256) rfl rfl (by omega) (by omega) (by decide) (by omega) (by omega) (by omega)
    | exact len8_fin 32 4294967296 x.toNat 32 (x / 4294967296) rfl rfl (by omega) (by omega) (by decide) (by omega) (by omega) (by omega)
    | exact len8_fin 24 16777216 x.toNat 24 (x / 65536 / 256) rfl rfl (by omega) (by omega) (by decide) (by omega) (by omega) (by omega)
    | exact len8_fin 16 65536 x.toNat 16 (x / 65536) rfl rfl (by omega) (by omega) (by decide) (by omega) (by omega) (by omega)
    | exact len8_fin 8 256 x.toNat 8 (x / 256) rfl rfl (by omega) (by omega) (by decide) (by omega) (by omega) (by omega)
    | exact len8_fin0 x.toNat x (by omega) (by omega) rfl
theorem len64_any (x : Nat) (hx : x < 18446744073709551616) (w : World) :
    Calls Tryz.prog 110 #[.int .u64 x] w fun e w' => e = .returned (.int .i64 (Lib.bitLen x)) ∧ w' = w := by
  have := len64_int (x : Int) (by omega) (by omega) w
  simpa using this
end Go.Proofs.YtheliihkkoohnabGreat

namespace Go.Proofs.YtheliihkkoohnabGreat
set_option maxRecDepth 100000
open Go.ChangeShapes Go.WideShapes Go.ChangeAt Go.RowKit

theorem lowest_any (n : Nat) (hn : n ≤ 64) (w : World) :
    Calls Tryz.prog 92 #[.int .i64 n] w fun e w' => e = .returned (.int .u64 ((2^n - 1 : Nat) : Int)) ∧ w' = w := by
  refine cps fun Q hQ => ?_
  go_enter Tryz.func92, Tryz.ntmps92
  go_wp2
  refine hQ.out _ _ ⟨congrArg Ending.returned (congrArg (Value.int IntKind.u64) (wrapMask n hn)), rfl⟩

/-- may there be a field? -/
def isField (at_ n : Int) : Bool := decide (0 ≤ at_ ∧ at_ ≤ 64 ∧ 0 ≤ n ∧ n ≤ 64 - at_)
theorem fits_any (at_ n : Int) (w : World) :
    Calls Tryz.prog 91 #[.int .i64 at_, .int .i64 n] w fun e w' => e = .returned (.bool (isField at_ n)) ∧ w' = w := by
  refine cps fun Q hQ => ?_
  go_enter Tryz.func91, Tryz.ntmps91
  go_wp2
  all_goals
    refine hQ.out _ _ ⟨congrArg Ending.returned (congrArg Value.bool ?_), rfl⟩
    simp only [isField, Bool.decide_and]
    simp [*] <;> omega
/-! ### Mask -/
/-! ### Field -/
def fieldOf (x at_ n : Nat) : Nat := (x >>> at_) % 2 ^ n
theorem lfield_ok (x : Nat) (at_ n : Int) (hx : x < 2^64) (hf : isField at_ n = true) (w : World) :
    Calls Tryz.prog 69 #[.int .u64 x, .int .i64 at_, .int .i64 n] w fun e w' => e = .returned (.tuple #[.int .u64 (fieldOf x at_.toNat n.toNat : Nat), .nilIface]) ∧ ∃ q, w' = w.drewN q := by
  have hf' := hf
  simp [isField] at hf'
  obtain ⟨a, rfl⟩ := Int.eq_ofNat_of_zero_le hf'.1
  obtain ⟨m, rfl⟩ := Int.eq_ofNat_of_zero_le hf'.2.2.1
  refine cps fun Q hQ => ?_
  go_enter Tryz.func69, Tryz.ntmps69
  go_wp2_with (go_at_call 91; refine (fits_any _ _ _).mono ?_; rintro e w' ⟨rfl, rfl⟩)
  go_quiet ((go_at_call 92; exact Calls.quiet_of_same (lowest_any m (by omega) _)))
  go_wp2
  refine hQ.out _ _ ⟨ret_ix ?_, nq, rfl⟩
  rw [shrN, u64_and_nat _ _ (Nat.lt_of_le_of_lt (Nat.shiftRight_le _ _) hx) (mask_lt m (by omega))]
  simp [fieldOf, Nat.and_two_pow_sub_one_eq_mod]
/-! ### Put -/
theorem not_bit (t i : Nat) (ht : t < 2 ^ 64) (hi : i < 64) : (18446744073709551615 - t).testBit i = !t.testBit i := by
  have := Nat.testBit_two_pow_sub_succ (x := t) (n := 64) ht i
  rw [show 18446744073709551615 - t = 2 ^ 64 - (t + 1) by omega, this]
  simp [hi]
end Go.Proofs.YtheliihkkoohnabGreat

namespace Go.Proofs.YtheliihkkoohnabGreat
set_option maxRecDepth 100000
open Go.ChangeShapes Go.WideShapes Go.ChangeAt Go.RowKit

/-! ### Extend -/
def extOf (x n : Nat) : Int := ((x % 2 ^ n : Nat) : Int) - ((x.testBit (n - 1)).toNat * 2 ^ n : Nat)
theorem numOf_bitsOf (x n : Nat) : numOf (bitsOf x n) = x % 2 ^ n := by
  apply Nat.eq_of_testBit_eq
  intro i
  rw [numOf_testBit, bitsOf_length, Nat.testBit_mod_two_pow, bitsOf_getD]
  by_cases h : i < n
  · have e : n - 1 - (n - 1 - i) = i := by omega
    have e2 : n - 1 - i < n := by omega
    simp [h, e, e2]
  · simp [h]
theorem top_bit (y m : Nat) (h : y < 2 * 2 ^ m) : y.testBit m = decide (2 ^ m ≤ y) := by
  have h0 : 0 < 2 ^ m := Nat.pos_of_ne_zero (by simp)
  rw [Nat.testBit_eq_decide_div_mod_eq]
  by_cases hc : 2 ^ m ≤ y
  · have h1 : 1 ≤ y / 2 ^ m := (Nat.le_div_iff_mul_le h0).2 (by omega)
    have h2 : y / 2 ^ m < 2 := (Nat.div_lt_iff_lt_mul h0).2 (by omega)
    have : y / 2 ^ m = 1 := by omega
    simp [hc, this]
  · rw [Nat.div_eq_of_lt (by omega)]; simp; omega
theorem ext_eq (x n : Nat) (h1 : 1 ≤ n) (h2 : n ≤ 64) : wrap64 (IntKind.u64.wrap ((x : Int) * 2 ^ (64 - n))) / 2 ^ (64 - n) = extOf x n := by
  obtain ⟨d, hd⟩ : ∃ d, d = 64 - n := ⟨_, rfl⟩
  rw [← hd]
  have e64 : 2 ^ n * 2 ^ d = 2 ^ 64 := by rw [← Nat.pow_add]; congr 1; omega
  have e63 : 2 ^ (n - 1) * 2 ^ d = 2 ^ 63 := by rw [← Nat.pow_add]; congr 1; omega
  have hnn : 2 ^ n = 2 * 2 ^ (n - 1) := by rw [← Nat.pow_succ']; congr 1; omega
  have hd0 : 0 < 2 ^ d := Nat.pos_of_ne_zero (by simp)
  have hy : x % 2 ^ n < 2 ^ n := Nat.mod_lt _ (Nat.pos_of_ne_zero (by simp))
  rw [wrapShl, Nat.shiftLeft_eq, ← e64, Nat.mul_mod_mul_right]
  have hb : x.testBit (n - 1) = decide (2 ^ (n - 1) ≤ x % 2 ^ n) := by
    rw [← top_bit _ _ (by omega), Nat.testBit_mod_two_pow]; simp; omega
  rw [extOf, hb]
  generalize x % 2 ^ n = y at *
  have ed : ((2 : Int) ^ d) = ((2 ^ d : Nat) : Int) := by simp
  rw [ed]
  have hlt : y * 2 ^ d < 2 ^ 64 := by rw [← e64]; exact Nat.mul_lt_mul_of_pos_right hy hd0
  by_cases hc : 2 ^ (n - 1) ≤ y
  · have hge : 2 ^ 63 ≤ y * 2 ^ d := by rw [← e63]; exact Nat.mul_le_mul_right _ hc
    have e : wrap64 ((y * 2 ^ d : Nat) : Int) = ((y : Int) - (2 ^ n : Nat)) * (2 ^ d : Nat) := by
      rw [Int.sub_mul, ← Int.natCast_mul, ← Int.natCast_mul, e64]; unfold wrap64; omega
    rw [e, Int.mul_ediv_cancel _ (by omega)]; simp [hc]
  · have hl : y * 2 ^ d < 2 ^ 63 := by rw [← e63]; exact Nat.mul_lt_mul_of_pos_right (by omega) hd0
    have e : wrap64 ((y * 2 ^ d : Nat) : Int) = (y : Int) * (2 ^ d : Nat) := by
      rw [← Int.natCast_mul]; unfold wrap64; omega
    rw [e, Int.mul_ediv_cancel _ (by omega)]; simp [hc]
theorem lext_ok (x n : Nat) (h1 : 1 ≤ n) (h2 : n ≤ 64) (w : World) :
    Calls Tryz.prog 89 #[.int .u64 x, .int .i64 n] w fun e w' => e = .returned (.tuple #[.int .i64 (extOf x n), .nilIface]) ∧ w' = w := by
  refine cps fun Q hQ => ?_
  go_enter Tryz.func89, Tryz.ntmps89
  go_wp2
  exact hQ.out _ _ ⟨ret_ix (ext_eq x n h1 h2), rfl⟩
end Go.Proofs.YtheliihkkoohnabGreat

namespace Go.Proofs.YtheliihkkoohnabGreat
set_option maxRecDepth 100000
open Go.ChangeShapes Go.WideShapes Go.ChangeAt Go.RowKit

/-! ### which of api's Codes an error is -/
end Go.Proofs.YtheliihkkoohnabGreat

namespace Go.Proofs.YtheliihkkoohnabGreat
open Go.ChangeShapes Go.WideShapes Go.ChangeAt Go.RowKit
set_option linter.unusedVariables false
set_option linter.unusedSimpArgs false
set_option maxRecDepth 100000

/-! ### widths -/
abbrev Wd (n : Nat) : Prop := n = 8 ∨ n = 16 ∨ n = 32 ∨ n = 64
def isW (n : Int) : Bool := decide (n = 8) || (decide (n = 16) || (decide (n = 32) || decide (n = 64)))
theorem isW_yes {n : Int} (h : isW n = true) : ∃ m : Nat, n = m ∧ Wd m := by
  simp only [isW, Bool.or_eq_true, decide_eq_true_eq] at h
  rcases h with rfl | rfl | rfl | rfl
  · exact ⟨8, rfl, .inl rfl⟩
  · exact ⟨16, rfl, .inr (.inl rfl)⟩
  · exact ⟨32, rfl, .inr (.inr (.inl rfl))⟩
  · exact ⟨64, rfl, .inr (.inr (.inr rfl))⟩
theorem isW_no {n : Int} (h : isW n = false) : n ≠ 8 ∧ n ≠ 16 ∧ n ≠ 32 ∧ n ≠ 64 := by
  simp only [isW, Bool.or_eq_false_iff, decide_eq_false_iff_not] at h
  exact ⟨h.1, h.2.1, h.2.2.1, h.2.2.2⟩
theorem isW_of {m : Nat} (h : Wd m) : isW m = true := by rcases h with rfl | rfl | rfl | rfl <;> rfl

/-! ### slices.Contains of a row of integers -/
theorem index_any (g : Nat) (c : Nat) (n : Int) (l : List Int) (hl : l.length ≤ 1099511627776) (w : World) (h : ∀ j (hj : j < l.length), w.cell? ⟨g, j, none⟩ = some (.int .i64 l[j])) :
    Calls Tryz.prog 113 #[.slice (some ⟨g, 0, none⟩) l.length c, .int .i64 n] w fun e w' => (∃ r : Int, e = .returned (.int .i64 r) ∧ -1 ≤ r ∧ r ≤ 1099511627776 ∧ (0 ≤ r ↔ n ∈ l)) ∧ w' = w := by
  refine cps fun Q hQ => ?_
  have H : Hid (∀ j (hj : j < l.length), w.cell? ⟨g, j, none⟩ = some (.int .i64 l[j])) := h
  clear h
  go_enter Tryz.func113, Tryz.ntmps113
  go_wp2
  go_loop [8] (fun iv => ∃ i : Nat, i ≤ l.length ∧ iv = .int .i64 i ∧ Hid (∀ j (hj : j < l.length), j < i → l[j] ≠ n)) (fun iv => l.length - (intOf iv).toNat)
  case atStart => exact ⟨0, Nat.zero_le _, rfl, fun j hj h => by omega⟩
  case round =>
    obtain ⟨i, hi, rfl, hst⟩ := hrel
    by_cases hlt : i < l.length
    · have hc := H.out i hlt
      obtain ⟨x, hx⟩ : ∃ x, x = l[i] := ⟨_, rfl⟩
      rw [← hx] at hc
      have HX : Hid (x = l[i]) := hx
      clear hx
      by_cases he : n = x
      · have HE : Hid (n ∈ l) := by show _ ∈ _; rw [he, HX.out]; exact List.getElem_mem _
        have he2 : (n == x) = true := beq_iff_eq.2 he
        clear he
        go_wp2
        exact hQ.out _ _ ⟨⟨i, rfl, by omega, by omega, ⟨fun _ => HE.out, fun _ => by omega⟩⟩, rfl⟩
      · have HE : Hid (n ≠ x) := he
        have he2 : (n == x) = false := beq_eq_false_iff_ne.2 he
        clear he
        go_wp2
        go_round
        case rel => exact ⟨i + 1, by omega, by go_num, fun j hj h => by
          by_cases g : j = i
          · subst g; rw [← HX.out]; exact fun e => HE.out e.symm
          · exact hst.out j hj (by omega)⟩
        case measure => simp [intOf]; omega
    · have HN : Hid (n ∉ l) := fun hm => by
        obtain ⟨j, hj, e⟩ := List.getElem_of_mem hm
        exact hst.out j hj (by omega) e
      clear hst
      go_wp2
      exact hQ.out _ _ ⟨⟨-1, rfl, by omega, by omega, ⟨fun h => by omega, fun h => absurd h HN.out⟩⟩, rfl⟩
theorem contains_any (g : Nat) (c : Nat) (n : Int) (l : List Int) (b : Bool) (hb : b = decide (n ∈ l)) (hl : l.length ≤ 1099511627776) (w : World) (h : ∀ j (hj : j < l.length), w.cell? ⟨g, j, none⟩ = some (.int .i64 l[j])) :
    Calls Tryz.prog 102 #[.slice (some ⟨g, 0, none⟩) l.length c, .int .i64 n] w fun e w' => e = .returned (.bool b) ∧ w' = w := by
  have k := index_any g c n l hl w h
  have K : Hid (Calls _ _ _ _ _) := k
  have HB : Hid (b = decide (n ∈ l)) := hb
  clear k h hb
  refine cps fun Q hQ => ?_
  go_enter Tryz.func102, Tryz.ntmps102
  go_wp2_with (go_at_call 113; refine K.out.mono ?_; rintro e w' ⟨⟨r, rfl, h1, h2, h3⟩, hw⟩; rw [hw]; clear hw w'; have h4 : decide (0 ≤ r) = b := (decide_eq_decide.2 h3).trans HB.out.symm; clear h3)
  exact hQ.out _ _ ⟨by rw [← h4]; rfl, rfl⟩
theorem widths_any (w : World) : Calls Tryz.prog 103 #[] w fun e w' => e = .returned (.slice (some ⟨w.heap.size, 0, none⟩) 4 4) ∧ w' = w.alloc (.cells #[.int .i64 8, .int .i64 16, .int .i64 32, .int .i64 64] 3) := by
  refine cps fun Q hQ => ?_
  go_enter Tryz.func103, Tryz.ntmps103
  go_wp2
  exact hQ.out _ _ ⟨rfl, rfl⟩
theorem known_any (n : Int) (w : World) : Calls Tryz.prog 77 #[.int .i64 n] w fun e w' => e = .returned (.bool (isW n)) ∧ Below w.heap.size w w' := by
  have k := contains_any w.heap.size 4 n [8, 16, 32, 64] (isW n) (by simp [isW]) (by decide) (w.alloc (.cells #[.int .i64 8, .int .i64 16, .int .i64 32, .int .i64 64] 3)) (fun j hj => by
    refine (World.cell?_alloc_at _ _ _ _ rfl).trans ?_
    have : j = 0 ∨ j = 1 ∨ j = 2 ∨ j = 3 := by simp at hj; omega
    rcases this with rfl | rfl | rfl | rfl <;> rfl)
  have K : Hid (Calls Tryz.prog 102 #[.slice (some ⟨w.heap.size, 0, none⟩) 4 4, .int .i64 n] (w.alloc (.cells #[.int .i64 8, .int .i64 16, .int .i64 32, .int .i64 64] 3)) _) := k
  clear k
  refine cps fun Q hQ => ?_
  go_enter Tryz.func77, Tryz.ntmps77
  go_wp2_with (first
    | (go_at_call 103; refine (widths_any _).mono ?_; rintro e w' ⟨rfl, rfl⟩)
    | (go_at_call 102; refine K.out.mono ?_; rintro e w' ⟨rfl, hw⟩; rw [hw]; clear hw w'))
  exact hQ.out _ _ ⟨rfl, (Below.refl _ _).alloc (Nat.le_refl _) _⟩
theorem is_width (n : Int) (w : World) : Calls Tryz.prog 6 #[.int .i64 n] w fun e w' => e = .returned (.bool (isW n)) ∧ w' = w := by
  cases hb : isW n
  · obtain ⟨h1, h2, h3, h4⟩ := isW_no hb
    clear hb
    refine cps fun Q hQ => ?_
    go_enter Tryz.func6, Tryz.ntmps6
    go_wp2
    all_goals first | exact hQ.out _ _ ⟨rfl, rfl⟩ | (refine hQ.out _ _ ⟨ret_b ?_, rfl⟩; simp; omega)
  · obtain ⟨m, rfl, hm⟩ := isW_yes hb
    clear hb
    refine cps fun Q hQ => ?_
    rcases hm with rfl | rfl | rfl | rfl
    all_goals
      go_enter Tryz.func6, Tryz.ntmps6
      go_wp2
      exact hQ.out _ _ ⟨rfl, rfl⟩
theorem nar_any (n : Nat) (h1 : 1 ≤ n) (h2 : n ≤ 64) (w : World) : Calls Tryz.prog 64 #[.int .i64 n] w fun e w' => e = .returned (.int .u64 (2 ^ (n - 1) : Nat)) ∧ w' = w := by
  have hp : 2 ^ (n - 1) < 2 ^ 64 := Nat.pow_lt_pow_right (by decide) (by omega)
  have e1 : ((2 : Int) ^ (n - 1)) = ((2 ^ (n - 1) : Nat) : Int) := by simp
  have HE : Hid (IntKind.u64.wrap ((2 : Int) ^ (n - 1)) = ((2 ^ (n - 1) : Nat) : Int)) := by
    show _ = _
    rw [e1, wrapN, Nat.mod_eq_of_lt hp]
  clear e1 hp
  refine cps fun Q hQ => ?_
  go_enter Tryz.func64, Tryz.ntmps64
  go_wp2
  refine hQ.out _ _ ⟨ret_i ?_, rfl⟩
  rw [← HE.out]
theorem power_any (k : Nat) (hk : k ≤ 63) (w : World) : Calls Tryz.prog 8 #[.int .i64 k] w fun e w' => e = .returned (.int .u64 (2 ^ k : Nat)) ∧ w' = w := by
  refine cps fun Q hQ => ?_
  go_enter Tryz.func8, Tryz.ntmps8
  go_wp2
  go_loop [3, 4] (fun pv iv => ∃ i p : Nat, i ≤ k ∧ pv = .int .u64 p ∧ iv = .int .i64 i ∧ Hid (p = 2 ^ i)) (fun _ iv => k - (intOf iv).toNat)
  case atStart => exact ⟨0, 1, Nat.zero_le _, rfl, rfl, rfl⟩
  case round =>
    obtain ⟨i, p, hi, rfl, rfl, hp⟩ := hrel
    by_cases hlt : i < k
    · have hb : 2 * p ≤ 18446744073709551615 := by
        rw [hp.out, ← Nat.pow_succ']
        have : (2 : Nat) ^ (i + 1) ≤ 2 ^ 63 := Nat.pow_le_pow_right (by decide) (by omega)
        omega
      go_wp2
      go_round
      case rel => exact ⟨i + 1, 2 * p, by omega, by go_num, by go_num, by show _ = _; rw [hp.out, Nat.pow_succ']⟩
      case measure => simp [intOf]; omega
    · have hin : i = k := by omega
      subst hin
      have HP : Hid (p = 2 ^ i) := hp
      clear hp
      go_wp2
      exact hQ.out _ _ ⟨ret_i (by rw [HP.out]), rfl⟩
theorem power_sub (n : Nat) (h1 : 1 ≤ n) (h2 : n ≤ 64) (w : World) : Calls Tryz.prog 8 #[.int .i64 ((n : Int) - 1)] w fun e w' => e = .returned (.int .u64 (2 ^ (n - 1) : Nat)) ∧ w' = w := by
  have e : (n : Int) - 1 = ((n - 1 : Nat) : Int) := by omega
  rw [e]
  exact power_any (n - 1) (by omega) w
theorem wd_le {n : Nat} (h : Wd n) : 8 ≤ n ∧ n ≤ 64 := by rcases h with rfl | rfl | rfl | rfl <;> omega
end Go.Proofs.YtheliihkkoohnabGreat

namespace Go.Proofs.YtheliihkkoohnabGreat
open Go.ChangeShapes Go.WideShapes Go.ChangeAt Go.RowKit
set_option linter.unusedVariables false
set_option linter.unusedSimpArgs false
set_option maxRecDepth 100000

/-! ### patterns, folded -/
theorem fieldOf_low (x n : Nat) : fieldOf x (0 : Int).toNat ((n : Int)).toNat = x % 2 ^ n := by simp [fieldOf]
theorem fold_ok (n x : Nat) (hn : Wd n) (hx : x < 2 ^ 64) (w : World) :
    Calls Tryz.prog 54 #[.int .i64 n, .int .u64 x] w fun e w' => e = .returned (.tuple #[.int .u64 (x % 2 ^ n : Nat), .nilIface]) ∧ Below w.heap.size w w' := by
  have k1 := known_any n
  rw [isW_of hn] at k1
  have hw := wd_le hn
  have k2 := fun w => lfield_ok x 0 n hx (by simp [isField]; omega) w
  simp only [fieldOf_low] at k2
  clear hx hn hw
  refine cps fun Q hQ => ?_
  generalize x % 2 ^ n = y at *
  go_enter Tryz.func54, Tryz.ntmps54
  go_wp2_with (first
    | (go_at_call 77; refine (k1 _).mono ?_; rintro e w1 ⟨rfl, hb1⟩)
    | (go_at_call 69; refine (k2 _).mono ?_; rintro e w' ⟨rfl, q, rfl⟩))
  exact hQ.out _ _ ⟨rfl, below_drewN hb1 q⟩
theorem fold_no (n : Int) (x : Nat) (hn : isW n = false) (w : World) :
    Calls Tryz.prog 54 #[.int .i64 n, .int .u64 x] w fun e w' => e = .returned (.tuple #[.int .u64 0, .iface 29 (.int .i64 2)]) ∧ Below w.heap.size w w' := by
  have k1 := known_any n
  rw [hn] at k1
  clear hn
  refine cps fun Q hQ => ?_
  go_enter Tryz.func54, Tryz.ntmps54
  go_wp2_with (go_at_call 77; refine (k1 _).mono ?_; rintro e w1 ⟨rfl, hb1⟩)
  exact hQ.out _ _ ⟨rfl, hb1⟩
theorem rfold_ok (n x : Nat) (hn : Wd n) (w : World) :
    Calls Tryz.prog 46 #[.int .i64 n, .int .u64 x] w fun e w' => e = .returned (.tuple #[.int .u64 (x % 2 ^ n : Nat), .int .i64 0]) ∧ Below w.heap.size w w' := by
  have k1 := is_width n
  rw [isW_of hn] at k1
  have hw := (wd_le hn).2
  have hnum := numOf_bitsOf x n
  clear hn
  refine cps fun Q hQ => ?_
  rw [← hnum] at hQ
  clear hnum
  go_enter Tryz.func46, Tryz.ntmps46
  go_wp2_with (first
    | (go_at_call 6; refine (k1 _).mono ?_; rintro e w1 ⟨rfl, rfl⟩)
    | (go_at_call 27; refine (text_any x n hw _).mono ?_; rintro e w2 ⟨s, rfl, hs, hb⟩)
    | (go_at_call 28; go_must (refine (number_any _ _ hs (by rw [bitsOf_length]; exact hw) _).mono ?_); rintro e w' ⟨rfl, rfl⟩))
  exact hQ.out _ _ ⟨rfl, hb⟩
/-! ### Kind -/
def kindOf (n y : Nat) : Int := if y = 0 then 0 else if y = 2 ^ (n - 1) then 2 else 1
theorem kind_ok (n x : Nat) (hn : Wd n) (hx : x < 2 ^ 64) (w : World) :
    Calls Tryz.prog 50 #[.int .i64 n, .int .u64 x] w fun e w' => e = .returned (.tuple #[.int .i64 (kindOf n (x % 2 ^ n)), .nilIface]) ∧ Below w.heap.size w w' := by
  have k1 := fold_ok n x hn hx
  have hw := wd_le hn
  have k2 := nar_any n (by omega) hw.2
  clear hn hx
  refine cps fun Q hQ => ?_
  unfold kindOf at hQ
  generalize x % 2 ^ n = y at *
  generalize 2 ^ (n - 1) = m at *
  by_cases h0 : y = 0
  · subst h0
    rw [if_pos rfl] at hQ
    go_enter Tryz.func50, Tryz.ntmps50
    go_wp2_with (go_at_call 54; refine (k1 _).mono ?_; rintro e w1 ⟨rfl, hb1⟩)
    exact hQ.out _ _ ⟨rfl, hb1⟩
  · rw [if_neg h0] at hQ
    have hd : ((y : Int) == 0) = false := beq_eq_false_iff_ne.2 (by omega)
    by_cases hm : y = m
    · rw [if_pos hm] at hQ
      have hd2 : ((y : Int) == (m : Int)) = true := beq_iff_eq.2 (by omega)
      clear h0 hm
      go_enter Tryz.func50, Tryz.ntmps50
      go_wp2_with (first
        | (go_at_call 54; refine (k1 _).mono ?_; rintro e w1 ⟨rfl, hb1⟩)
        | (go_at_call 64; refine (k2 _).mono ?_; rintro e w1 ⟨rfl, rfl⟩))
      exact hQ.out _ _ ⟨rfl, hb1⟩
    · rw [if_neg hm] at hQ
      have hd2 : ((y : Int) == (m : Int)) = false := beq_eq_false_iff_ne.2 (by omega)
      clear h0 hm
      go_enter Tryz.func50, Tryz.ntmps50
      go_wp2_with (first
        | (go_at_call 54; refine (k1 _).mono ?_; rintro e w1 ⟨rfl, hb1⟩)
        | (go_at_call 64; refine (k2 _).mono ?_; rintro e w1 ⟨rfl, rfl⟩))
      exact hQ.out _ _ ⟨rfl, hb1⟩
theorem kind_no (n : Int) (x : Nat) (hn : isW n = false) (w : World) :
    Calls Tryz.prog 50 #[.int .i64 n, .int .u64 x] w fun e w' => e = .returned (.tuple #[.int .i64 0, .iface 29 (.int .i64 2)]) ∧ Below w.heap.size w w' := by
  have k1 := fold_no n x hn
  clear hn
  refine cps fun Q hQ => ?_
  go_enter Tryz.func50, Tryz.ntmps50
  go_wp2_with (go_at_call 54; refine (k1 _).mono ?_; rintro e w1 ⟨rfl, hb1⟩)
  exact hQ.out _ _ ⟨rfl, hb1⟩
theorem rkind_ok (n x : Nat) (hn : Wd n) (w : World) :
    Calls Tryz.prog 40 #[.int .i64 n, .int .u64 x] w fun e w' => e = .returned (.tuple #[.int .i64 (kindOf n (x % 2 ^ n)), .int .i64 0]) ∧ Below w.heap.size w w' := by
  have k1 := rfold_ok n x hn
  have hw := wd_le hn
  have k2 := power_sub n (by omega) hw.2
  clear hn
  refine cps fun Q hQ => ?_
  unfold kindOf at hQ
  generalize x % 2 ^ n = y at *
  generalize 2 ^ (n - 1) = m at *
  by_cases h0 : y = 0
  · subst h0
    rw [if_pos rfl] at hQ
    go_enter Tryz.func40, Tryz.ntmps40
    go_wp2_with (go_at_call 46; refine (k1 _).mono ?_; rintro e w1 ⟨rfl, hb1⟩)
    exact hQ.out _ _ ⟨rfl, hb1⟩
  · rw [if_neg h0] at hQ
    have hd : ((y : Int) == 0) = false := beq_eq_false_iff_ne.2 (by omega)
    by_cases hm : y = m
    · rw [if_pos hm] at hQ
      have hd2 : ((y : Int) == (m : Int)) = true := beq_iff_eq.2 (by omega)
      clear h0 hm
      go_enter Tryz.func40, Tryz.ntmps40
      go_wp2_with (first
        | (go_at_call 46; refine (k1 _).mono ?_; rintro e w1 ⟨rfl, hb1⟩)
        | (go_at_call 8; refine (k2 _).mono ?_; rintro e w1 ⟨rfl, rfl⟩))
      exact hQ.out _ _ ⟨rfl, hb1⟩
    · rw [if_neg hm] at hQ
      have hd2 : ((y : Int) == (m : Int)) = false := beq_eq_false_iff_ne.2 (by omega)
      clear h0 hm
      go_enter Tryz.func40, Tryz.ntmps40
      go_wp2_with (first
        | (go_at_call 46; refine (k1 _).mono ?_; rintro e w1 ⟨rfl, hb1⟩)
        | (go_at_call 8; refine (k2 _).mono ?_; rintro e w1 ⟨rfl, rfl⟩))
      exact hQ.out _ _ ⟨rfl, hb1⟩
/-! ### Rank, Pattern -/
theorem rank_ok (n x : Nat) (hn : Wd n) (w : World) :
    Calls Tryz.prog 65 #[.int .i64 n, .int .u64 x] w fun e w' => e = .returned (.tuple #[.int .i64 (extOf x n), .nilIface]) ∧ Below w.heap.size w w' := by
  have k1 := known_any n
  rw [isW_of hn] at k1
  have hw := wd_le hn
  have k2 := lext_ok x n (by omega) hw.2
  clear hn
  refine cps fun Q hQ => ?_
  generalize extOf x n = y at *
  go_enter Tryz.func65, Tryz.ntmps65
  go_wp2_with (first
    | (go_at_call 77; refine (k1 _).mono ?_; rintro e w1 ⟨rfl, hb1⟩)
    | (go_at_call 89; refine (k2 _).mono ?_; rintro e w' ⟨rfl, rfl⟩))
  exact hQ.out _ _ ⟨rfl, hb1⟩
end Go.Proofs.YtheliihkkoohnabGreat

namespace Go.Proofs.YtheliihkkoohnabGreat
open Go.ChangeShapes Go.WideShapes Go.ChangeAt Go.RowKit
set_option linter.unusedVariables false
set_option linter.unusedSimpArgs false
set_option maxRecDepth 100000

/-! ### the document's codec: patterns as strings -/
theorem fold6_any (n x : Nat) (hn : Wd n) (w : World) :
    Calls Tryz.prog 25 #[.int .i64 n, .int .u64 x] w fun e w' => e = .returned (.int .u64 (x % 2 ^ n : Nat)) ∧ Below w.heap.size w w' := by
  have k1 := rfold_ok n x hn
  clear hn
  refine cps fun Q hQ => ?_
  generalize x % 2 ^ n = y at *
  go_enter Tryz.func25, Tryz.ntmps25
  go_wp2_with (go_at_call 46; refine (k1 _).mono ?_; rintro e w1 ⟨rfl, hb1⟩)
  exact hQ.out _ _ ⟨rfl, hb1⟩
def minusU (x : Nat) : Nat := (18446744073709551616 - x) % 18446744073709551616
theorem minusU_wrap (x : Nat) (hx : x < 2 ^ 64) : IntKind.u64.wrap (-(x : Int)) = (minusU x : Int) := by
  rw [IntKind.wrap_u64]; unfold minusU; omega
theorem minusU_lt (x : Nat) : minusU x < 2 ^ 64 := Nat.mod_lt _ (by decide)
theorem neg6_any (n x : Nat) (hn : Wd n) (hx : x < 2 ^ 64) (w : World) :
    Calls Tryz.prog 12 #[.int .i64 n, .int .u64 x] w fun e w' => e = .returned (.int .u64 (minusU x % 2 ^ n : Nat)) ∧ Below w.heap.size w w' := by
  have k1 := fold6_any n (minusU x) hn
  have e1 := minusU_wrap x hx
  have e2 : IntKind.u64.wrap (0 - (x : Int)) = (minusU x : Int) := by rw [← e1]; congr 1; omega
  clear hn hx
  refine cps fun Q hQ => ?_
  generalize minusU x % 2 ^ n = y at *
  generalize minusU x = z at *
  go_enter Tryz.func12, Tryz.ntmps12
  go_wp2_with (go_at_call 25; refine (k1 _).mono ?_; rintro e w1 ⟨rfl, hb1⟩)
  exact hQ.out _ _ ⟨rfl, hb1⟩
def strS (n x : Nat) : List Bool := (if x.testBit (n - 1) then bitsOf (minusU x) n else bitsOf x n).drop 1
theorem bits_top (x n : Nat) (h : 1 ≤ n) (s : ByteArray) (hs : IsBits s (bitsOf x n)) (hj : 0 < s.size) : (s[0]'hj).toNat = 48 + (x.testBit (n - 1)).toNat := by
  rw [isBits_get hs 0 hj, bitsOf_getD, Nat.sub_zero]
  have : 0 < n := h
  simp only [this, decide_true, Bool.true_and]
  cases x.testBit (n - 1) <;> rfl
theorem string6_any (n x : Nat) (h1 : 1 ≤ n) (h2 : n ≤ 64) (hx : x < 2 ^ 64) (w : World) :
    Calls Tryz.prog 61 #[.int .i64 n, .int .u64 x] w fun e w' => ∃ s, e = .returned (.string s) ∧ IsBits s (strS n x) ∧ Below w.heap.size w w' := by
  have e2 : IntKind.u64.wrap (0 - (x : Int)) = (minusU x : Int) := by rw [← minusU_wrap x hx]; congr 1; omega
  have e1 := minusU_wrap x hx
  clear hx
  refine cps fun Q hQ => ?_
  unfold strS at hQ
  cases hb0 : x.testBit (n - 1)
  all_goals
    rw [hb0] at hQ
    go_enter Tryz.func61, Tryz.ntmps61
    go_wp2_with (first
      | (have chk := hsz; go_at_call 27; refine (text_any (minusU x) n h2 _).mono ?_; rintro e w2 ⟨s2, rfl, hs2, hb2⟩; have hsz2 := isBits_size hs2; rw [bitsOf_length] at hsz2; have r1 := slice_l (P := Tryz.prog) (s := s2) Tryz.underlying9 1 1 rfl (by omega))
      | (go_at_call 27; refine (text_any x n h2 _).mono ?_; rintro e w1 ⟨s, rfl, hs, hb⟩; have hsz := isBits_size hs; rw [bitsOf_length] at hsz; have hs0 := bits_top x n h1 s hs (by omega); rw [hb0] at hs0; have r1 := slice_l (P := Tryz.prog) (s := s) Tryz.underlying9 1 1 rfl (by omega)))
  · have e : ((bitsOf x n).drop 1).take (n - 1) = (bitsOf x n).drop 1 := List.take_of_length_le (by rw [List.length_drop, bitsOf_length]; exact Nat.le_refl _)
    exact hQ.out _ _ ⟨_, rfl, by have := isBits_extract hs 1 n; rw [e] at this; exact this, hb⟩
  · have e : ((bitsOf (minusU x) n).drop 1).take (n - 1) = (bitsOf (minusU x) n).drop 1 := List.take_of_length_le (by rw [List.length_drop, bitsOf_length]; exact Nat.le_refl _)
    exact hQ.out _ _ ⟨_, rfl, by have := isBits_extract hs2 1 n; rw [e] at this; exact this, hb.trans (hb2.mono hb.size)⟩
/-- what a run is, place by place -/
theorem runL_of (l : List Bool) (k : Nat) (h0 : 0 < k) (hk : k ≤ l.length) (hs : ∀ j, j < k → l.getD j false = l.getD 0 false) (he : k < l.length → l.getD k false ≠ l.getD 0 false) : runL l = k := by
  have hne : l ≠ [] := by rintro rfl; simp at hk; omega
  obtain ⟨b, r, t, rfl, ht⟩ := split_run l hne
  rw [runL_rep b r t ht]
  have g0 : (List.replicate (r + 1) b ++ t).getD 0 false = b := by rw [List.replicate_succ]; rfl
  have gin : ∀ j, j < r + 1 → (List.replicate (r + 1) b ++ t).getD j false = b := fun j hj => by
    rw [List.getD_eq_getElem?_getD, List.getElem?_append_left (by simpa using hj), List.getElem?_replicate, if_pos hj]; rfl
  rw [g0] at hs he
  rcases Nat.lt_trichotomy (r + 1) k with h | h | h
  · exfalso
    have h2 := hs (r + 1) h
    rcases ht with rfl | ⟨u, rfl⟩
    · simp at hk; omega
    · rw [List.getD_eq_getElem?_getD, List.getElem?_append_right (by simp)] at h2
      simp at h2
  · exact h
  · exact absurd (gin k h) (he (by rw [List.length_append, List.length_replicate]; omega))
theorem run6_any (s : ByteArray) (l : List Bool) (hs : IsBits s l) (h0 : 0 < l.length) (hl : l.length ≤ 1048576) (w : World) :
    Calls Tryz.prog 62 #[.string s] w fun e w' => e = .returned (.int .i64 (runL l : Nat)) ∧ ∃ q, w' = w.drewN q := by
  have hsz := isBits_size hs
  obtain ⟨n, hn⟩ : ∃ n, n = l.length := ⟨_, rfl⟩
  have HN : Hid (n = l.length) := hn
  rw [← hn] at hsz h0 hl
  clear hn
  have heqs : Hid (∀ k (hk : k < n), ((((s[k]'(by omega)).toNat : Int) == ((s[0]'(by omega)).toNat : Int)) = (l.getD k false == l.getD 0 false))) := fun k hk => by
    rw [isBits_get hs k (by omega), isBits_get hs 0 (by omega)]
    cases l.getD k false <;> cases l.getD 0 false <;> rfl
  clear hs
  refine cps fun Q hQ => ?_
  go_enter Tryz.func62, Tryz.ntmps62
  go_wp2
  go_loopw [3] (fun i wr => ∃ k q : Nat, k ≤ n ∧ i = .int .i64 k ∧ Hid (∀ j, j < k → l.getD j false = l.getD 0 false) ∧ wr = w.drewN q) (fun i _ => n - (intOf i).toNat)
  case atStart => exact ⟨0, 0, Nat.zero_le _, rfl, fun j hj => absurd hj (by omega), rfl⟩
  case round =>
    obtain ⟨k, q, hk, rfl, hsame, rfl⟩ := hrel
    by_cases hlt : k < n
    · have hlt' : (k : Int) < n := by omega
      cases hbit : (l.getD k false == l.getD 0 false) with
      | true =>
        have heq : Hid _ := heqs.out k hlt; rw [hbit] at heq
        go_wp2
        go_quiet (fail)
        have heq' := heq.out
        go_wp2
        go_roundw
        case rel => exact ⟨k + 1, _, by omega, by go_num, fun j hj => by rcases Nat.lt_succ_iff_lt_or_eq.1 hj with c | c; exact hsame.out j c; subst c; simpa using hbit, rfl⟩
        case measure => simp [intOf]; omega
      | false =>
        have heq : Hid _ := heqs.out k hlt; rw [hbit] at heq
        have hk0 : 0 < k := by rcases Nat.eq_zero_or_pos k with c | c; subst c; simp at hbit; exact c
        have hR : runL l = k := runL_of l k hk0 (by rw [← HN.out]; exact hk) hsame.out (fun _ => by simpa using hbit)
        rw [hR] at hQ
        clear hR
        go_wp2
        go_quiet (fail)
        have heq' := heq.out
        go_wp2
        exact hQ.out _ _ ⟨rfl, _, World.drewN_drewN _ _ _⟩
    · have hlt' : decide ((k : Int) < n) = false := by simpa using hlt
      have hkn : k = n := by omega
      have hR : runL l = k := runL_of l k (by omega) (by rw [← HN.out]; exact hk) hsame.out (fun h => by rw [← HN.out] at h; exact absurd h hlt)
      rw [hR] at hQ
      clear hR
      go_wp2
      go_quiet (fail)
      go_wp2
      exact hQ.out _ _ ⟨rfl, _, World.drewN_drewN _ _ _⟩
end Go.Proofs.YtheliihkkoohnabGreat

namespace Go.Proofs.YtheliihkkoohnabGreat
set_option maxRecDepth 100000
open Go.ChangeShapes Go.WideShapes Go.ChangeAt Go.RowKit
set_option linter.unusedVariables false

/-! ### a region whose order is open, some of whose operations read cells that stand still throughout (the class C of worlds) -/
section
variable {P : Program} {ops : Array Oper} {Q : Exit → Act → World → Prop} {md : Region.Mode} {C : World → Prop}

/-- an operation carried past a slot that it doesn't look at; Y: what is known of the slots all the while -/
theorem wpOp_past {j : Nat} {oj : Oper} {dst : Option Tmp} {v : Value} (hj : ops[j]? = some oj)
    (h1 : ∀ d, dst = some d → d ∉ oj.looksAt ops) (h2 : ∀ d, dst = some d → oj.dst ≠ some d) (hsj : ∀ cs b, oj.op ≠ .select cs b)
    (hQ : ∀ c a w, Q (.panic c) (a.put dst v) w → Q (.panic c) a w) {Y : Act → Prop} (hY : ∀ a u, Y a → Y (a.put oj.dst u))
    (hD : ∀ a d, Y a → Y { a with defers := d :: a.defers }) {K : Act → World → Prop} {a : Act} {w : World} (hy : Y a)
    (h : wpOp P ops Q j K (a.put dst v) w) : wpOp P ops Q j (fun a' w' => Y a' ∧ K (a'.put dst v) w') a w := by
  have back : ∀ (b : Act) u w', Y b → K ((b.put dst v).put oj.dst u) w' → Y (b.put oj.dst u) ∧ K ((b.put oj.dst u).put dst v) w' :=
    fun b u w' hb hk => ⟨hY b u hb, by rw [← Act.put_comm b v u h2]; exact hk⟩
  unfold wpOp at h ⊢
  rw [hj] at h ⊢
  simp only [wanted_put oj a dst v h1] at h
  by_cases hw : Region.wanted oj (yielded ops a.tmps) = true
  · simp only [hw, if_true] at h ⊢
    rcases h with h | ⟨ha, hl⟩
    · refine .inl ?_
      unfold Oper.wp at h ⊢
      rw [execOp_put oj hsj a dst v h1] at h
      cases hr : (execOp a.eval oj).run P w with
      | halt x w' =>
        rw [hr] at h
        cases x <;> simp only [Oper.upon] at h ⊢
        exact hQ _ _ _ h
      | ok n w' =>
        rw [hr] at h
        cases n <;> simp only [Oper.upon] at h ⊢
        case value u => exact back a u w' hy h
        case skip => exact back a undef w' hy h
        case defer d =>
          refine back _ undef w' (hD a d hy) ?_
          rw [← Act.put_defers]; exact h
        case enter f args =>
          refine Calls.mono h fun e w'' he => ?_
          cases e with
          | returned u => exact back a u w'' hy he
          | panicked c => exact hQ _ _ _ he
          | outgrown => exact he
        case row r1 r2 => exact Rows.mono h fun u w'' he => back a u w'' hy he
    · refine .inr ⟨?_, hl⟩
      unfold Oper.asks at ha ⊢
      rw [execOp_put oj hsj a dst v h1] at ha
      exact ha
  · simp only [hw] at h ⊢
    exact back a undef w hy h

/-- o yields v in whatever world of the class -/
def YieldsC (C : World → Prop) (P : Program) (ops : Array Oper) (o : Oper) (v : Value) (a : Act) : Prop :=
  (Region.wanted o (yielded ops a.tmps) = true ∧ ∀ w, C w → (execOp a.eval o).run P w = .ok (.value v) w) ∨
  (Region.wanted o (yielded ops a.tmps) = false ∧ v = undef)
/-- every order, and the world stays in the class -/
def wpAnyC (C : World → Prop) (P : Program) (md : Region.Mode) (ops : Array Oper) (Q : Exit → Act → World → Prop) : Nat → Array Bool → Act → World → Prop
  | 0, listed, a, w => C w ∧ Region.ready md ops listed = [] ∧ Q .normal a w
  | fuel + 1, listed, a, w => C w ∧ (Region.ready md ops listed = [] → Q .normal a w) ∧
      ∀ i ∈ Region.ready md ops listed, wpOp P ops Q i (wpAnyC C P md ops Q fuel (listed.setIfInBounds i true)) a w
theorem wpAnyC_sound : ∀ (fuel : Nat) (listed : Array Bool) (a : Act) (w : World), wpAnyC C P md ops Q fuel listed a w → wpAny P md ops Q fuel listed a w
  | 0, _, _, _, h => h.2
  | fuel + 1, listed, _, _, h => ⟨h.2.1, fun i hi => wpOp_mono (fun a w => wpAnyC_sound fuel (listed.setIfInBounds i true) a w) (h.2.2 i hi)⟩
theorem wpC_first {i : Nat} {oi : Oper} {v : Value} (hi : ops[i]? = some oi) (hsel : ∀ (j : Nat) (o : Oper) cs b, ops[j]? = some o → o.op ≠ .select cs b)
    (hQ : ∀ c a w, Q (.panic c) (a.put oi.dst v) w → Q (.panic c) a w) :
    ∀ (fuel : Nat) (listed : Array Bool) (a : Act) (w : World),
      (∀ j oj, ops[j]? = some oj → j ≠ i → listed.getD j true = false → (∀ e ∈ oj.after, Region.binds md e = true → e.on ≠ i) → oi.apart ops oj = true) →
      i ∈ Region.ready md ops listed → YieldsC C P ops oi v a →
      wpAnyC C P md ops Q fuel (listed.setIfInBounds i true) (a.put oi.dst v) w → wpAnyC C P md ops Q (fuel + 1) listed a w := by
  intro fuel
  induction fuel with
  | zero =>
    intro listed a w _ hr hy H
    refine ⟨H.1, fun h => (by rw [h] at hr; cases hr), fun j hj => ?_⟩
    by_cases hji : j = i
    · subst hji
      unfold wpOp
      simp only [hi]
      rcases hy with ⟨hw, hv⟩ | ⟨hw, rfl⟩
      · simp only [hw, if_true, Oper.wp, hv w H.1, Oper.upon]; exact .inl H
      · simp only [hw]; exact H
    · have := ready_mono hj hji
      rw [H.2.1] at this
      cases this
  | succ fuel ih =>
    intro listed a w hfree hr hy H
    refine ⟨H.1, fun h => (by rw [h] at hr; cases hr), fun j hj => ?_⟩
    by_cases hji : j = i
    · subst hji
      unfold wpOp
      simp only [hi]
      rcases hy with ⟨hw, hv⟩ | ⟨hw, rfl⟩
      · simp only [hw, if_true, Oper.wp, hv w H.1, Oper.upon]; exact .inl H
      · simp only [hw]; exact H
    · have g := H.2.2 j (ready_mono hj hji)
      obtain ⟨hjun, oj, hoj, hall⟩ := mem_ready.1 hj
      have hnot : ∀ e ∈ oj.after, Region.binds md e = true → e.on ≠ i := fun e he hb heq => by
        have g1 := hall e he hb
        have g0 := (mem_ready.1 hr).1
        rw [heq] at g1
        rcases Nat.lt_or_ge i listed.size with h' | h'
        · simp [h'] at g0 g1; rw [g0] at g1; cases g1
        · simp [Array.getElem?_eq_none h'] at g1
      obtain ⟨a1, a2, a3⟩ := Oper.apart_spec (hfree j oj hoj hji hjun hnot)
      have g2 := wpOp_past hoj a1 a2 (fun cs b => hsel j oj cs b hoj) hQ (Y := fun b => YieldsC C P ops oi v b)
        (fun b u hb => by unfold YieldsC at *; rw [execOp_put oi (fun cs d => hsel i oi cs d hi) b oj.dst u a3, wanted_put oi b oj.dst u a3]; exact hb)
        (fun b d hb => hb) hy g
      have hfree' : ∀ k ok, ops[k]? = some ok → k ≠ i → (listed.setIfInBounds j true).getD k true = false →
          (∀ e ∈ ok.after, Region.binds md e = true → e.on ≠ i) → oi.apart ops ok = true := fun k ok hk hki hun hno => by
        refine hfree k ok hk hki ?_ hno
        by_cases hjk : j = k
        · subst hjk; exact hjun
        · rw [getD_set_ne true hjk] at hun; exact hun
      refine wpOp_mono (fun a' w' g3 => ih (listed.setIfInBounds j true) a' w' hfree' (ready_mono hr (Ne.symm hji)) g3.1 ?_) g2
      rw [Array.setIfInBounds_comm _ _ hji]
      exact g3.2
/-- such an operation goes first -/
theorem wpC_take (i : Nat) {oi : Oper} {v : Value} {fuel : Nat} {listed : Array Bool} {a : Act} {w : World} (hi : ops[i]? = some oi)
    (hf : (Region.noSelect ops && Region.free md ops listed i && (Region.ready md ops listed).contains i) = true)
    (hQ : ∀ c a w, Q (.panic c) (a.put oi.dst v) w → Q (.panic c) a w) (hwant : Region.wanted oi (yielded ops a.tmps) = true)
    (hy : ∀ w, C w → (execOp a.eval oi).run P w = .ok (.value v) w)
    (h : wpAnyC C P md ops Q fuel (listed.setIfInBounds i true) (a.put oi.dst v) w) : wpAnyC C P md ops Q (fuel + 1) listed a w := by
  simp only [Bool.and_eq_true] at hf
  exact wpC_first hi (Region.noSelect_spec hf.1.1) hQ fuel listed a w (Region.free_spec hi hf.1.2) (by simpa using hf.2) (.inl ⟨hwant, hy⟩) h
/-- one alone may come next -/
theorem wpC_step (i : Nat) {o : Oper} {fuel : Nat} {listed : Array Bool} {a : Act} {w : World} (hi : ops[i]? = some o)
    (hr : Region.ready md ops listed = [i]) (hwant : Region.wanted o (yielded ops a.tmps) = true) (hC : C w)
    (h : ∀ K : Act → World → Prop, (∀ a w, wpAnyC C P md ops Q fuel (listed.setIfInBounds i true) a w → K a w) → Oper.wp P o a w K Q) :
    wpAnyC C P md ops Q (fuel + 1) listed a w := by
  refine ⟨hC, fun h0 => (by rw [h0] at hr; cases hr), fun j hj => ?_⟩
  rw [hr] at hj
  have : j = i := by simpa using hj
  subst this
  unfold wpOp
  simp only [hi, hwant, if_true]
  exact .inl (h _ fun _ _ g => g)
/-- one of two may come next -/
theorem wpC_two (i i' : Nat) {o o' : Oper} {fuel : Nat} {listed : Array Bool} {a : Act} {w : World} (hi : ops[i]? = some o) (hi' : ops[i']? = some o')
    (hr : Region.ready md ops listed = [i, i']) (hwant : Region.wanted o (yielded ops a.tmps) = true) (hwant' : Region.wanted o' (yielded ops a.tmps) = true) (hC : C w)
    (h : ∀ K : Act → World → Prop, (∀ a w, wpAnyC C P md ops Q fuel (listed.setIfInBounds i true) a w → K a w) → Oper.wp P o a w K Q)
    (h' : ∀ K : Act → World → Prop, (∀ a w, wpAnyC C P md ops Q fuel (listed.setIfInBounds i' true) a w → K a w) → Oper.wp P o' a w K Q) :
    wpAnyC C P md ops Q (fuel + 1) listed a w := by
  refine ⟨hC, fun h0 => (by rw [h0] at hr; cases hr), fun j hj => ?_⟩
  rw [hr] at hj
  have hj : j = i ∨ j = i' := by simpa using hj
  unfold wpOp
  rcases hj with rfl | rfl
  · simp only [hi, hwant, if_true]
    exact .inl (h _ fun _ _ g => g)
  · simp only [hi', hwant', if_true]
    exact .inl (h' _ fun _ _ g => g)
theorem wpC_done {listed : Array Bool} {fuel : Nat} {a : Act} {w : World} (hr : Region.ready md ops listed = []) (hC : C w) (h : Q .normal a w) : wpAnyC C P md ops Q fuel listed a w := by
  cases fuel with
  | zero => exact ⟨hC, hr, h⟩
  | succ fuel => exact ⟨hC, fun _ => h, fun i hi => by rw [hr] at hi; cases hi⟩
theorem wpC_region (C : World → Prop) {id : Nat} {a : Act} {w : World} (hm : P.follows .mixedOrders = true)
    (h : wpAnyC C P .any ops Q ops.size (Array.replicate ops.size false) a w.drew) : (Code.region id ops true).wp P Q a w :=
  wp_region_any hm (wpAnyC_sound _ _ _ _ h)
end
end Go.Proofs.YtheliihkkoohnabGreat

namespace Go.Proofs.YtheliihkkoohnabGreat
open Go.ChangeShapes Go.WideShapes Go.ChangeAt Go.RowKit
set_option linter.unusedVariables false
set_option linter.unusedSimpArgs false
set_option maxRecDepth 100000

theorem cthen {a W w : World} (h : Below a.heap.size a W) (hb : Below W.heap.size W w) : Below a.heap.size a w := h.trans (hb.mono h.size)
theorem cmore {a w : World} (h : Below a.heap.size a w) (o : Obj) : Below a.heap.size a (w.alloc o) := h.alloc h.size o
theorem cdrew {a W : World} (h : Below a.heap.size a W) : Below a.heap.size a W.drew := h.drew
theorem cset {a W : World} {b : Nat} (h : Below a.heap.size a W) (hb : a.heap.size ≤ b) (o : Nat) (v : Value) : Below a.heap.size a (W.setCell ⟨b, o, none⟩ v) := h.setCell hb _
theorem ccell {W w1 : World} (hb : Below W.heap.size W w1) : (∀ b o, b < W.heap.size → w1.cell? ⟨b, o, none⟩ = W.cell? ⟨b, o, none⟩) ∧ (∀ b o, b < W.heap.size → w1.frozen? ⟨b, o, none⟩ = W.frozen? ⟨b, o, none⟩) :=
  ⟨fun b o h => hb.cell (p := ⟨b, o, none⟩) h, fun b o h => hb.frozen (p := ⟨b, o, none⟩) h⟩
theorem rowcell {w : World} {m : Nat} {c : Array Value} {t : TypeId} (h : w.heap[m]? = some (.cells c t (0, 0))) (k : Nat) : w.cell? ⟨m, k, none⟩ = c[k]? := by simp [World.cell?, h]
theorem rowfree {w : World} {m : Nat} {c : Array Value} {t : TypeId} (h : w.heap[m]? = some (.cells c t (0, 0))) (k : Nat) : w.frozen? ⟨m, k, none⟩ = false := by simp [World.frozen?, h]
theorem rowset {w : World} {m : Nat} {c : Array Value} {t : TypeId} (h : w.heap[m]? = some (.cells c t (0, 0))) (k : Nat) (v : Value) : (w.setCell ⟨m, k, none⟩ v).heap[m]? = some (.cells (c.setIfInBounds k v) t (0, 0)) :=
  heap_setCell_same w m k c t v h
theorem rownew (w : World) (c : Array Value) (t : TypeId) : (w.alloc (.cells c t)).heap[w.heap.size]? = some (.cells c t (0, 0)) := by
  show (w.heap.push _)[w.heap.size]? = _
  exact Array.getElem?_push_size
theorem rownew' (w : World) (c : Array Value) (t : TypeId) (m : Nat) (h : m = w.heap.size) : (w.alloc (.cells c t)).heap[m]? = some (.cells c t (0, 0)) := by subst h; exact rownew w c t
theorem row8 {w : World} {m : Nat} {u0 u1 u2 u3 u4 u5 u6 u7 v0 v1 v2 v3 v4 v5 v6 v7 : Value} {t : TypeId} (h : w.heap[m]? = some (.cells #[u0, u1, u2, u3, u4, u5, u6, u7] t (0, 0))) :
    ((((((((w.setCell ⟨m, 0, none⟩ v0).setCell ⟨m, 1, none⟩ v1).setCell ⟨m, 2, none⟩ v2).setCell ⟨m, 3, none⟩ v3).setCell ⟨m, 4, none⟩ v4).setCell ⟨m, 5, none⟩ v5).setCell ⟨m, 6, none⟩ v6).setCell ⟨m, 7, none⟩ v7).heap[m]? = some (.cells #[v0, v1, v2, v3, v4, v5, v6, v7] t (0, 0)) := by
  have h := rowset h 0 v0
  simp only [List.setIfInBounds_toArray, List.set_cons_zero, List.set_cons_succ] at h
  have h := rowset h 1 v1
  simp only [List.setIfInBounds_toArray, List.set_cons_zero, List.set_cons_succ] at h
  have h := rowset h 2 v2
  simp only [List.setIfInBounds_toArray, List.set_cons_zero, List.set_cons_succ] at h
  have h := rowset h 3 v3
  simp only [List.setIfInBounds_toArray, List.set_cons_zero, List.set_cons_succ] at h
  have h := rowset h 4 v4
  simp only [List.setIfInBounds_toArray, List.set_cons_zero, List.set_cons_succ] at h
  have h := rowset h 5 v5
  simp only [List.setIfInBounds_toArray, List.set_cons_zero, List.set_cons_succ] at h
  have h := rowset h 6 v6
  simp only [List.setIfInBounds_toArray, List.set_cons_zero, List.set_cons_succ] at h
  have h := rowset h 7 v7
  simp only [List.setIfInBounds_toArray, List.set_cons_zero, List.set_cons_succ] at h
  exact h
theorem cset8 {a W : World} {m : Nat} {v0 v1 v2 v3 v4 v5 v6 v7 : Value} (h : Below a.heap.size a W) (hb : a.heap.size ≤ m) :
    Below a.heap.size a ((((((((W.setCell ⟨m, 0, none⟩ v0).setCell ⟨m, 1, none⟩ v1).setCell ⟨m, 2, none⟩ v2).setCell ⟨m, 3, none⟩ v3).setCell ⟨m, 4, none⟩ v4).setCell ⟨m, 5, none⟩ v5).setCell ⟨m, 6, none⟩ v6).setCell ⟨m, 7, none⟩ v7) :=
  cset (cset (cset (cset (cset (cset (cset (cset h hb 0 v0) hb 1 v1) hb 2 v2) hb 3 v3) hb 4 v4) hb 5 v5) hb 6 v6) hb 7 v7
theorem rowlt {w : World} {m : Nat} {c : Array Value} {t : TypeId} (h : w.heap[m]? = some (.cells c t (0, 0))) : m < w.heap.size := (Array.getElem?_eq_some_iff.1 h).1
/-! ### Split -/
def fdV (neg : Bool) (l : List Bool) : Value := .agg #[.bool neg, .bool (onesL l), .int .i64 (runL l), .int .i64 (regL l), .int .i64 (min (restL l).length 2 : Nat), .int .i64 (expL l), .int .i64 ((restL l).length - 2 : Nat), .int .u64 (fracL l)]
theorem strS_length (n x : Nat) : (strS n x).length = n - 1 := by unfold strS; split <;> rw [List.length_drop, bitsOf_length]
theorem char_eq (b : Bool) : ((48 + ((b.toNat : Nat) : Int)) == 49) = b := by cases b <;> rfl
theorem restL_length (l : List Bool) : (restL l).length = l.length - (runL l + 1) := by unfold restL; rw [List.length_drop]
theorem exp_take (u : List Bool) (E : Nat) (h : (E = u.length ∧ u.length ≤ 2) ∨ (E = 2 ∧ 2 < u.length)) : (u.take E ++ [false, false]).take 2 = (u ++ noughts 2).take 2 := by
  rcases h with ⟨rfl, h⟩ | ⟨rfl, h⟩
  · rw [List.take_of_length_le (Nat.le_refl _)]; rfl
  · rw [List.take_append_of_le_length (by rw [List.length_take]; omega), List.take_append_of_le_length (by omega), List.take_take]; rfl
theorem frac_drop (u : List Bool) (E : Nat) (h : (E = u.length ∧ u.length ≤ 2) ∨ (E = 2 ∧ 2 < u.length)) : u.drop E = u.drop 2 := by
  rcases h with ⟨rfl, h⟩ | ⟨rfl, h⟩
  · rw [List.drop_of_length_le (Nat.le_refl _), List.drop_of_length_le h]
  · rfl
theorem runL_le (l : List Bool) : runL l ≤ l.length := by
  cases l with
  | nil => exact Nat.le_refl _
  | cons b l =>
    have := (List.takeWhile_sublist (· == b) (l := l)).length_le
    rw [runL, List.length_cons]; omega
set_option maxHeartbeats 4000000 in
theorem split6_real (n x : Nat) (hn : Wd n) (hx : x < 2 ^ 64) (hk : kindOf n (x % 2 ^ n) = 1) (w : World) :
    Calls Tryz.prog 41 #[.int .i64 n, .int .u64 x] w fun e w' => e = .returned (.tuple #[fdV (x.testBit (n - 1)) (strS n x), .int .i64 0]) ∧ Below w.heap.size w w' := by
  have k1 := rkind_ok n x hn
  rw [hk] at k1
  have hw := wd_le hn
  have hlen := strS_length n x
  have k2 := string6_any n x (by omega) hw.2 hx
  have k3 := text_any x n hw.2
  have HL : Hid _ := hlen
  clear hn hx hk hlen
  refine cps fun Q hQ => ?_
  generalize strS n x = l at *
  have hl0 : 0 < l.length := by rw [HL.out]; omega
  have hlm : l.length ≤ 1048576 := by rw [HL.out]; omega
  have HLB : Hid (0 < l.length ∧ l.length ≤ 1048576) := ⟨hl0, hlm⟩
  clear hl0 hlm
  go_enter Tryz.func41, Tryz.ntmps41
  go_upto_region 5 with (first
    | (go_at_call 40; refine (k1 _).mono ?_; rintro e w1 ⟨rfl, hb1⟩; have HB1 : Hid (Below _ _ _) := hb1; clear hb1)
    | (go_at_call 61; refine (k2 _).mono ?_; rintro e w2 ⟨s, rfl, hs, hb2⟩; have HB2 : Hid (Below _ _ _) := hb2; clear hb2))
  have HS : Hid (IsBits s l) := hs
  have hsz := isBits_size hs
  rw [HL.out] at hsz
  have hs0 : (s[0]'(by omega)).toNat = 48 + (l.getD 0 false).toNat := by
    rw [isBits_get hs 0 (by omega)]; cases l.getD 0 false <;> rfl
  have e0 := char_eq (l.getD 0 false)
  have HSZ : Hid (s.size = n - 1) := hsz
  have k4 := fun w => run6_any s l HS.out HLB.out.1 HLB.out.2 w
  obtain ⟨o, ho⟩ : ∃ o, o = l.getD 0 false := ⟨_, rfl⟩
  rw [← ho] at hs0 e0
  have HO : Hid (o = onesL l) := ho
  obtain ⟨r, hr⟩ : ∃ r, r = runL l := ⟨_, rfl⟩
  rw [← hr] at k4
  have HR : Hid (r = runL l) := hr
  obtain ⟨b, hbx⟩ : ∃ b, b = x.testBit (n - 1) := ⟨_, rfl⟩
  have HBX : Hid (b = x.testBit (n - 1)) := hbx
  have e1 := char_eq b
  have HTX : Hid (∀ (t : ByteArray) (ht : IsBits t (bitsOf x n)) (hj : 0 < t.size), (t[0]'hj).toNat = 48 + b.toNat) := fun t ht hj => by rw [hbx]; exact bits_top x n (by omega) t ht hj
  clear ho hr hs hbx
  have hn1 : 0 < n - 1 := by omega
  have hn2 : 0 < n := by omega
  go_cut [9] from 29 (fun s9 wx => ∃ m : Nat, s9 = .pointer (some ⟨m, 0, none⟩) ∧ Below w2.heap.size w2 wx ∧ w2.heap.size ≤ m ∧ wx.heap[m]? = some (.cells #[.bool b, .bool o, .int .i64 r, .int .i64 0, .int .i64 0, .int .i64 0, .int .i64 0, .int .u64 0] 70 (0, 0)))
  case first =>
    refine wpC_region (fun W => True) (by kernel_rfl) ?_
    refine wpC_take 0 (v := ?_) rfl (by kernel_rfl) (fun _ _ _ h => h) (by kernel_rfl) ?_ ?_; rotate_left; · (intro wC hC; obtain _ := hC; go_simp <;> with_reducible rfl)
    refine wpC_take 1 (v := ?_) rfl (by kernel_rfl) (fun _ _ _ h => h) (by kernel_rfl) ?_ ?_; rotate_left; · (intro wC hC; obtain _ := hC; go_simp <;> with_reducible rfl)
    refine wpC_take 5 (v := ?_) rfl (by kernel_rfl) (fun _ _ _ h => h) (by kernel_rfl) ?_ ?_; rotate_left; · (intro wC hC; obtain _ := hC; go_simp <;> with_reducible rfl)
    refine wpC_take 6 (v := ?_) rfl (by kernel_rfl) (fun _ _ _ h => h) (by kernel_rfl) ?_ ?_; rotate_left; · (intro wC hC; obtain _ := hC; go_simp <;> with_reducible rfl)
    refine wpC_take 7 (v := ?_) rfl (by kernel_rfl) (fun _ _ _ h => h) (by kernel_rfl) ?_ ?_; rotate_left; · (intro wC hC; obtain _ := hC; go_simp <;> with_reducible rfl)
    refine wpC_take 8 (v := ?_) rfl (by kernel_rfl) (fun _ _ _ h => h) (by kernel_rfl) ?_ ?_; rotate_left; · (intro wC hC; obtain _ := hC; go_simp <;> with_reducible rfl)
    refine wpC_two 2 11 rfl rfl (by kernel_rfl) (by kernel_rfl) (by kernel_rfl) trivial (fun K hK => ?_) (fun K hK => ?_)
    · skip
      go_simp
      go_wp2_with ((go_at_call 27; refine (k3 _).mono ?_; rintro e w3 ⟨t, rfl, ht, hb3⟩; have htz := isBits_size ht; rw [bitsOf_length] at htz; have ht0 := HTX.out t ht (by omega)))
      try (refine hK _ _ ?_; clear hK K)
      have B3 := cthen (cdrew (Below.refl w2.heap.size w2)) hb3
      refine wpC_take 3 (v := ?_) rfl (by kernel_rfl) (fun _ _ _ h => h) (by kernel_rfl) ?_ ?_; rotate_left; · (intro wC hC; obtain _ := hC; go_simp <;> with_reducible rfl)
      refine wpC_take 4 (v := ?_) rfl (by kernel_rfl) (fun _ _ _ h => h) (by kernel_rfl) ?_ ?_; rotate_left; · (intro wC hC; obtain _ := hC; go_simp <;> with_reducible rfl)
      refine wpC_two 9 11 rfl rfl (by kernel_rfl) (by kernel_rfl) (by kernel_rfl) trivial (fun K hK => ?_) (fun K hK => ?_)
      · skip
        go_simp
        go_wp2_with ((go_at_call 62; refine (k4 _).mono ?_; rintro e w4 ⟨rfl, q4, hq4⟩; have hb4 : Below w3.heap.size w3 w4 := hq4 ▸ below_drewN (Below.refl _ _) q4; clear hq4))
        try (refine hK _ _ ?_; clear hK K)
        have B4 := cthen B3 hb4
        refine wpC_take 10 (v := ?_) rfl (by kernel_rfl) (fun _ _ _ h => h) (by kernel_rfl) ?_ ?_; rotate_left; · (intro wC hC; obtain _ := hC; go_simp <;> with_reducible rfl)
        refine wpC_step 11 rfl (by kernel_rfl) (by kernel_rfl) trivial (fun K hK => ?_)
        go_simp
        try (refine hK _ _ ?_; clear hK K)
        refine wpC_step 12 rfl (by kernel_rfl) (by kernel_rfl) trivial (fun K hK => ?_)
        go_simp
        try (refine hK _ _ ?_; clear hK K)
        refine wpC_done (C := fun _ => True) (by kernel_rfl) trivial ?_
        go_wp2_with fail
        go_meet
        case rel => exact ⟨_, rfl, cmore B4 _, B4.size, rownew _ _ _⟩
      · skip
        go_simp
        try (refine hK _ _ ?_; clear hK K)
        refine wpC_step 9 rfl (by kernel_rfl) (by kernel_rfl) trivial (fun K hK => ?_)
        go_simp
        go_wp2_with ((go_at_call 62; refine (k4 _).mono ?_; rintro e w4 ⟨rfl, q4, rfl⟩))
        try (refine hK _ _ ?_; clear hK K)
        refine wpC_take 10 (v := ?_) rfl (by kernel_rfl) (fun _ _ _ h => h) (by kernel_rfl) ?_ ?_; rotate_left; · (intro wC hC; obtain _ := hC; go_simp <;> with_reducible rfl)
        refine wpC_step 12 rfl (by kernel_rfl) (by kernel_rfl) trivial (fun K hK => ?_)
        go_simp
        try (refine hK _ _ ?_; clear hK K)
        refine wpC_done (C := fun _ => True) (by kernel_rfl) trivial ?_
        go_wp2_with fail
        go_meet
        case rel => exact ⟨_, rfl, cset8 (below_drewN (cmore B3 _) _) B3.size, B3.size, row8 (rownew w3 _ _)⟩
    · skip
      go_simp
      try (refine hK _ _ ?_; clear hK K)
      refine wpC_step 2 rfl (by kernel_rfl) (by kernel_rfl) trivial (fun K hK => ?_)
      go_simp
      go_wp2_with ((go_at_call 27; refine (k3 _).mono ?_; rintro e w3 ⟨t, rfl, ht, hb3⟩; have htz := isBits_size ht; rw [bitsOf_length] at htz; have ht0 := HTX.out t ht (by omega); obtain ⟨hc3, hf3⟩ := ccell hb3; have y4 : w2.heap.size < w3.heap.size := (by have := hb3.size; simp at this; omega)))
      try (refine hK _ _ ?_; clear hK K)
      have B3 := cthen (cmore (cdrew (Below.refl w2.heap.size w2)) _) hb3
      have R3 := (hb3.block w2.heap.size (by simp)).trans (rownew w2.drew _ _)
      refine wpC_take 3 (v := ?_) rfl (by kernel_rfl) (fun _ _ _ h => h) (by kernel_rfl) ?_ ?_; rotate_left; · (intro wC hC; obtain _ := hC; go_simp <;> with_reducible rfl)
      refine wpC_take 4 (v := ?_) rfl (by kernel_rfl) (fun _ _ _ h => h) (by kernel_rfl) ?_ ?_; rotate_left; · (intro wC hC; obtain _ := hC; go_simp <;> with_reducible rfl)
      refine wpC_step 9 rfl (by kernel_rfl) (by kernel_rfl) trivial (fun K hK => ?_)
      go_simp
      go_wp2_with ((go_at_call 62; refine (k4 _).mono ?_; rintro e w4 ⟨rfl, q4, rfl⟩))
      try (refine hK _ _ ?_; clear hK K)
      refine wpC_take 10 (v := ?_) rfl (by kernel_rfl) (fun _ _ _ h => h) (by kernel_rfl) ?_ ?_; rotate_left; · (intro wC hC; obtain _ := hC; go_simp <;> with_reducible rfl)
      refine wpC_step 12 rfl (by kernel_rfl) (by kernel_rfl) trivial (fun K hK => ?_)
      go_simp
      try (refine hK _ _ ?_; clear hK K)
      refine wpC_done (C := fun _ => True) (by kernel_rfl) trivial ?_
      go_wp2_with fail
      go_meet
      case rel => exact ⟨_, rfl, cset8 (below_drewN B3 _) (Nat.le_refl _), Nat.le_refl _, row8 R3⟩
  case rest =>
    obtain ⟨m, rfl, HB, hm, hrow⟩ := hcut
    have z1 : w.heap.size < w1.heap.size := by have := HB1.out.size; simp at this; omega
    have z2 := HB2.out.size
    have RB : Hid (w2.heap[w.heap.size]? = some (.cells #[.bool false, .bool false, .int .i64 0, .int .i64 0, .int .i64 0, .int .i64 0, .int .i64 0, .int .u64 0] 70 (0, 0))) :=
      (HB2.out.block _ z1).trans ((HB1.out.block _ (by simp)).trans (rownew w _ _))
    have HBW : Hid (Below w.heap.size w w2) := cthen (cthen (cmore (Below.refl _ _) _) HB1.out) HB2.out
    have z3 : w.heap.size < w2.heap.size := by omega
    have hne1 : ¬ m = w.heap.size := by omega
    have hne2 : ¬ w.heap.size = m := by omega
    clear HB1 HB2 z1 z2
    have c1 := rowcell hrow 1
    have c2 := rowcell hrow 2
    have c0 := rowcell hrow 0
    have c3 := rowcell hrow 3
    have c4 := rowcell hrow 4
    have c5 := rowcell hrow 5
    have c6 := rowcell hrow 6
    have c7 := rowcell hrow 7
    have cf := rowfree hrow
    simp only [List.getElem?_toArray, List.getElem?_cons_zero, List.getElem?_cons_succ] at c0 c1 c2 c3 c4 c5 c6 c7
    have hrl := runL_le l
    rw [← HR.out, HL.out] at hrl
    have HRL : Hid ((restL l).length = n - 1 - (r + 1)) := by
      show _ = _
      rw [restL_length, ← HR.out, HL.out]
    have HRESTB : Hid (IsBits (s.extract (r + 1) (n - 1)) (restL l)) := by
      have := isBits_extract HS.out (r + 1) (n - 1)
      rw [List.take_of_length_le (by rw [List.length_drop, HL.out]; exact Nat.le_refl _), HR.out] at this
      rw [HR.out]; exact this
    have HBB : Hid (Below w2.heap.size w2 wc) := HB
    have HROW : Hid _ := hrow
    have hr4 : ∀ u v z, (((wc.setCell ⟨m, 3, none⟩ u).setCell ⟨m, 4, none⟩ v).setCell ⟨m, 4, none⟩ z).cell? ⟨m, 4, none⟩ = some z := fun u v z => by
      rw [rowcell (rowset (rowset (rowset hrow 3 u) 4 v) 4 z) 4]; rfl
    have hr5 : ∀ u' u v z, ((((wc.setCell ⟨m, 3, none⟩ u').setCell ⟨m, 3, none⟩ u).setCell ⟨m, 4, none⟩ v).setCell ⟨m, 4, none⟩ z).cell? ⟨m, 4, none⟩ = some z := fun u' u v z => by
      rw [rowcell (rowset (rowset (rowset (rowset hrow 3 u') 3 u) 4 v) 4 z) 4]; rfl
    clear hrow HB k1 k2 k3 k4 hs0 e0 e1
    by_cases hrn : r < n - 1
    · obtain ⟨q, hq⟩ : ∃ q, q = n - 1 - (r + 1) := ⟨_, rfl⟩
      have HQ : Hid (q = n - 1 - (r + 1)) := hq
      have r1 := slice_l (P := Tryz.prog) (s := s) Tryz.underlying9 ((r : Int) + 1) (r + 1) (by omega) (by rw [hsz]; omega)
      rw [hsz] at r1
      have hRz : (s.extract (r + 1) (n - 1)).size = q := by rw [isBits_size HRESTB.out, HRL.out, hq]
      generalize s.extract (r + 1) (n - 1) = R at *
      by_cases hq2 : q ≤ 2
      · have hz00 : (⟨#[48, 48]⟩ : ByteArray).size = 2 := rfl
        have hE : (q = q ∧ q ≤ 2) ∨ (q = 2 ∧ 2 < q) := by omega
        have hEu : (q = (restL l).length ∧ (restL l).length ≤ 2) ∨ (q = 2 ∧ 2 < (restL l).length) := by rw [HRL.out, ← HQ.out]; exact hE
        have g1 := slice_h (P := Tryz.prog) (s := R) Tryz.underlying9 (q : Int) q (by first | rfl | omega) (by omega)
        have g2 := slice_l (P := Tryz.prog) (s := R) Tryz.underlying9 (q : Int) q (by first | rfl | omega) (by omega)
        have hez : (R.extract 0 q).size = q := by rw [ByteArray.size_extract]; omega
        have g3 := fun wx => run_string_add_sum (P := Tryz.prog) wx (R.extract 0 q) ⟨#[48, 48]⟩ (by rw [hez, hz00]; omega)
        have hI1 : IsBits (R.extract 0 q ++ ⟨#[48, 48]⟩) ((restL l).take q ++ [false, false]) := by
          have := isBits_append (isBits_extract HRESTB.out 0 q) (show IsBits ⟨#[48, 48]⟩ [false, false] from rfl)
          simpa using this
        have hI2 : IsBits (R.extract q q) ((restL l).drop 2) := by
          have := isBits_extract HRESTB.out q q
          rw [List.take_of_length_le (by rw [List.length_drop, HRL.out, ← HQ.out]; exact Nat.le_refl _), frac_drop _ _ hEu] at this
          exact this
        have hl2 : ((restL l).drop 2).length ≤ 64 := by rw [List.length_drop, HRL.out]; omega
        rw [hRz] at g2
        generalize R.extract q q = F at *
        have hXz : (R.extract 0 q ++ ⟨#[48, 48]⟩).size = q + 2 := by rw [ByteArray.size_append, hez, hz00]
        generalize R.extract 0 q ++ ⟨#[48, 48]⟩ = X at *
        have g4 := slice_h (P := Tryz.prog) (s := X) Tryz.underlying9 2 2 rfl (by omega)
        have hI3 : IsBits (X.extract 0 2) ((restL l ++ noughts 2).take 2) := by
          have := isBits_extract hI1 0 2
          rw [List.drop_zero, exp_take _ _ hEu] at this
          exact this
        have hl3 : ((restL l ++ noughts 2).take 2).length ≤ 64 := by rw [List.length_take]; omega
        have k5 := number_any _ _ hI3 hl3
        have k6 := number_any _ _ hI2 hl2
        rw [show numOf ((restL l ++ noughts 2).take 2) = expL l from rfl] at k5
        rw [show numOf ((restL l).drop 2) = fracL l from rfl] at k6
        have hex : expL l < 4 := by
          have := numOf_lt ((restL l ++ noughts 2).take 2)
          rw [show ((restL l ++ noughts 2).take 2).length = 2 by simp] at this
          exact this
        have HF : Hid (Below w2.heap.size w2 wc) := HBB.out
        generalize X.extract 0 2 = Y at *
        obtain ⟨ee, hee⟩ : ∃ ee, ee = expL l := ⟨_, rfl⟩
        obtain ⟨ff, hff⟩ : ∃ ff, ff = fracL l := ⟨_, rfl⟩
        rw [← hee] at k5 hex
        rw [← hff] at k6
        have HEF : Hid (ee = expL l ∧ ff = fracL l) := ⟨hee, hff⟩
        have HE : Hid ((q = q ∧ q ≤ 2) ∨ (q = 2 ∧ 2 < q)) := hE
        have hqb : q ≤ 62 := by omega
        clear hE hEu hI1 hI2 hI3 hl2 hl3 hz00 hez hee hff hq
        cases o
        · go_wp2_with fail
          refine (k5 _).mono ?_
          rintro e w5 ⟨rfl, rfl⟩
          go_wp2_with fail
          refine (k6 _).mono ?_
          rintro e w6 ⟨rfl, hw6⟩
          have R6 : w6.heap[m]? = some (.cells #[.bool b, .bool false, .int .i64 r, .int .i64 (-(r : Int)), .int .i64 (q : Int), .int .i64 ee, .int .i64 0, .int .u64 0] 70 (0, 0)) := by
            rw [hw6]
            refine (rowset (rowset (rowset (rowset HROW.out 3 _) 4 _) 5 _) 6 _).trans ?_
            simp only [List.setIfInBounds_toArray, List.set_cons_zero, List.set_cons_succ]
          have B6 : Below w2.heap.size w2 w6 := by rw [hw6]; exact (cset (cset (cset (cset HBB.out hm 3 _) hm 4 _) hm 5 _) hm 6 _)
          have HB6 : Hid (Below w2.heap.size w2 w6) := B6
          have HR6 : Hid _ := R6
          have d0 := rowcell R6 0
          have d1 := rowcell R6 1
          have d2 := rowcell R6 2
          have d3 := rowcell R6 3
          have d4 := rowcell R6 4
          have d5 := rowcell R6 5
          have d6 := rowcell R6 6
          have d7 := rowcell R6 7
          have df := rowfree R6
          simp only [List.getElem?_toArray, List.getElem?_cons_zero, List.getElem?_cons_succ] at d0 d1 d2 d3 d4 d5 d6 d7
          have R0 := (B6.block _ z3).trans RB.out
          have b0 := rowcell R0 0
          have b1 := rowcell R0 1
          have b2 := rowcell R0 2
          have b3 := rowcell R0 3
          have b4 := rowcell R0 4
          have b5 := rowcell R0 5
          have b6 := rowcell R0 6
          have b7 := rowcell R0 7
          have bf := rowfree R0
          simp only [List.getElem?_toArray, List.getElem?_cons_zero, List.getElem?_cons_succ] at b0 b1 b2 b3 b4 b5 b6 b7
          clear R0 hw6 R6 B6 c0 c1 c2 c3 c4 c5 c6 c7 cf
          go_wp2
          have e1 : min q 2 = q := by omega
          have e2 : q - 2 = 0 := by omega
          have hv : fdV (x.testBit (n - 1)) l = .agg #[.bool b, .bool false, .int .i64 r, .int .i64 (-(r : Int)), .int .i64 (q : Int), .int .i64 ee, .int .i64 0, .int .u64 ff] := by
            unfold fdV regL
            rw [← HBX.out, ← HO.out, ← HR.out, HRL.out, ← HQ.out, ← HEF.out.1, ← HEF.out.2, e1, e2]
            rfl
          refine bodyPost_ret (v := .tuple #[.agg #[.bool b, .bool false, .int .i64 r, .int .i64 (-(r : Int)), .int .i64 (q : Int), .int .i64 ee, .int .i64 0, .int .u64 ff], .int .i64 0]) (by simp [results, Tryz.results41, go_sem, b0, b1, b2, b3, b4, b5, b6, b7, hne1, hne2, e2]) rfl (hQ.out _ _ ⟨by rw [hv], ?_⟩)
          have hmw : w.heap.size ≤ m := by omega
          exact cset8 (cset (cthen HBW.out HB6.out) hmw _ _) (Nat.le_refl _)
        · go_wp2_with fail
          refine (k5 _).mono ?_
          rintro e w5 ⟨rfl, rfl⟩
          go_wp2_with fail
          refine (k6 _).mono ?_
          rintro e w6 ⟨rfl, hw6⟩
          have R6 : w6.heap[m]? = some (.cells #[.bool b, .bool true, .int .i64 r, .int .i64 ((r : Int) - 1), .int .i64 (q : Int), .int .i64 ee, .int .i64 0, .int .u64 0] 70 (0, 0)) := by
            rw [hw6]
            refine (rowset (rowset (rowset (rowset (rowset HROW.out 3 _) 3 _) 4 _) 5 _) 6 _).trans ?_
            simp only [List.setIfInBounds_toArray, List.set_cons_zero, List.set_cons_succ]
          have B6 : Below w2.heap.size w2 w6 := by rw [hw6]; exact (cset (cset (cset (cset (cset HBB.out hm 3 _) hm 3 _) hm 4 _) hm 5 _) hm 6 _)
          have HB6 : Hid (Below w2.heap.size w2 w6) := B6
          have HR6 : Hid _ := R6
          have d0 := rowcell R6 0
          have d1 := rowcell R6 1
          have d2 := rowcell R6 2
          have d3 := rowcell R6 3
          have d4 := rowcell R6 4
          have d5 := rowcell R6 5
          have d6 := rowcell R6 6
          have d7 := rowcell R6 7
          have df := rowfree R6
          simp only [List.getElem?_toArray, List.getElem?_cons_zero, List.getElem?_cons_succ] at d0 d1 d2 d3 d4 d5 d6 d7
          have R0 := (B6.block _ z3).trans RB.out
          have b0 := rowcell R0 0
          have b1 := rowcell R0 1
          have b2 := rowcell R0 2
          have b3 := rowcell R0 3
          have b4 := rowcell R0 4
          have b5 := rowcell R0 5
          have b6 := rowcell R0 6
          have b7 := rowcell R0 7
          have bf := rowfree R0
          simp only [List.getElem?_toArray, List.getElem?_cons_zero, List.getElem?_cons_succ] at b0 b1 b2 b3 b4 b5 b6 b7
          clear R0 hw6 R6 B6 c0 c1 c2 c3 c4 c5 c6 c7 cf
          go_wp2
          have e1 : min q 2 = q := by omega
          have e2 : q - 2 = 0 := by omega
          have hv : fdV (x.testBit (n - 1)) l = .agg #[.bool b, .bool true, .int .i64 r, .int .i64 ((r : Int) - 1), .int .i64 (q : Int), .int .i64 ee, .int .i64 0, .int .u64 ff] := by
            unfold fdV regL
            rw [← HBX.out, ← HO.out, ← HR.out, HRL.out, ← HQ.out, ← HEF.out.1, ← HEF.out.2, e1, e2]
            rfl
          refine bodyPost_ret (v := .tuple #[.agg #[.bool b, .bool true, .int .i64 r, .int .i64 ((r : Int) - 1), .int .i64 (q : Int), .int .i64 ee, .int .i64 0, .int .u64 ff], .int .i64 0]) (by simp [results, Tryz.results41, go_sem, b0, b1, b2, b3, b4, b5, b6, b7, hne1, hne2, e2]) rfl (hQ.out _ _ ⟨by rw [hv], ?_⟩)
          have hmw : w.heap.size ≤ m := by omega
          exact cset8 (cset (cthen HBW.out HB6.out) hmw _ _) (Nat.le_refl _)
      · have hz00 : (⟨#[48, 48]⟩ : ByteArray).size = 2 := rfl
        have hE : (2 = q ∧ q ≤ 2) ∨ (2 = 2 ∧ 2 < q) := by omega
        have hEu : (2 = (restL l).length ∧ (restL l).length ≤ 2) ∨ (2 = 2 ∧ 2 < (restL l).length) := by rw [HRL.out, ← HQ.out]; exact hE
        have g1 := slice_h (P := Tryz.prog) (s := R) Tryz.underlying9 (2 : Int) 2 (by first | rfl | omega) (by omega)
        have g2 := slice_l (P := Tryz.prog) (s := R) Tryz.underlying9 (2 : Int) 2 (by first | rfl | omega) (by omega)
        have hez : (R.extract 0 2).size = 2 := by rw [ByteArray.size_extract]; omega
        have g3 := fun wx => run_string_add_sum (P := Tryz.prog) wx (R.extract 0 2) ⟨#[48, 48]⟩ (by rw [hez, hz00]; omega)
        have hI1 : IsBits (R.extract 0 2 ++ ⟨#[48, 48]⟩) ((restL l).take 2 ++ [false, false]) := by
          have := isBits_append (isBits_extract HRESTB.out 0 2) (show IsBits ⟨#[48, 48]⟩ [false, false] from rfl)
          simpa using this
        have hI2 : IsBits (R.extract 2 q) ((restL l).drop 2) := by
          have := isBits_extract HRESTB.out 2 q
          rw [List.take_of_length_le (by rw [List.length_drop, HRL.out, ← HQ.out]; exact Nat.le_refl _), frac_drop _ _ hEu] at this
          exact this
        have hl2 : ((restL l).drop 2).length ≤ 64 := by rw [List.length_drop, HRL.out]; omega
        rw [hRz] at g2
        generalize R.extract 2 q = F at *
        have hXz : (R.extract 0 2 ++ ⟨#[48, 48]⟩).size = 2 + 2 := by rw [ByteArray.size_append, hez, hz00]
        generalize R.extract 0 2 ++ ⟨#[48, 48]⟩ = X at *
        have g4 := slice_h (P := Tryz.prog) (s := X) Tryz.underlying9 2 2 rfl (by omega)
        have hI3 : IsBits (X.extract 0 2) ((restL l ++ noughts 2).take 2) := by
          have := isBits_extract hI1 0 2
          rw [List.drop_zero, exp_take _ _ hEu] at this
          exact this
        have hl3 : ((restL l ++ noughts 2).take 2).length ≤ 64 := by rw [List.length_take]; omega
        have k5 := number_any _ _ hI3 hl3
        have k6 := number_any _ _ hI2 hl2
        rw [show numOf ((restL l ++ noughts 2).take 2) = expL l from rfl] at k5
        rw [show numOf ((restL l).drop 2) = fracL l from rfl] at k6
        have hex : expL l < 4 := by
          have := numOf_lt ((restL l ++ noughts 2).take 2)
          rw [show ((restL l ++ noughts 2).take 2).length = 2 by simp] at this
          exact this
        have HF : Hid (Below w2.heap.size w2 wc) := HBB.out
        generalize X.extract 0 2 = Y at *
        obtain ⟨ee, hee⟩ : ∃ ee, ee = expL l := ⟨_, rfl⟩
        obtain ⟨ff, hff⟩ : ∃ ff, ff = fracL l := ⟨_, rfl⟩
        rw [← hee] at k5 hex
        rw [← hff] at k6
        have HEF : Hid (ee = expL l ∧ ff = fracL l) := ⟨hee, hff⟩
        have HE : Hid ((2 = q ∧ q ≤ 2) ∨ (2 = 2 ∧ 2 < q)) := hE
        have hqb : q ≤ 62 := by omega
        clear hE hEu hI1 hI2 hI3 hl2 hl3 hz00 hez hee hff hq
        cases o
        · go_wp2_with fail
          refine (k5 _).mono ?_
          rintro e w5 ⟨rfl, rfl⟩
          go_wp2_with fail
          refine (k6 _).mono ?_
          rintro e w6 ⟨rfl, hw6⟩
          have R6 : w6.heap[m]? = some (.cells #[.bool b, .bool false, .int .i64 r, .int .i64 (-(r : Int)), .int .i64 (2 : Int), .int .i64 ee, .int .i64 ((q : Int) - 2), .int .u64 0] 70 (0, 0)) := by
            rw [hw6]
            refine (rowset (rowset (rowset (rowset (rowset HROW.out 3 _) 4 _) 4 _) 5 _) 6 _).trans ?_
            simp only [List.setIfInBounds_toArray, List.set_cons_zero, List.set_cons_succ]
          have B6 : Below w2.heap.size w2 w6 := by rw [hw6]; exact (cset (cset (cset (cset (cset HBB.out hm 3 _) hm 4 _) hm 4 _) hm 5 _) hm 6 _)
          have HB6 : Hid (Below w2.heap.size w2 w6) := B6
          have HR6 : Hid _ := R6
          have d0 := rowcell R6 0
          have d1 := rowcell R6 1
          have d2 := rowcell R6 2
          have d3 := rowcell R6 3
          have d4 := rowcell R6 4
          have d5 := rowcell R6 5
          have d6 := rowcell R6 6
          have d7 := rowcell R6 7
          have df := rowfree R6
          simp only [List.getElem?_toArray, List.getElem?_cons_zero, List.getElem?_cons_succ] at d0 d1 d2 d3 d4 d5 d6 d7
          have R0 := (B6.block _ z3).trans RB.out
          have b0 := rowcell R0 0
          have b1 := rowcell R0 1
          have b2 := rowcell R0 2
          have b3 := rowcell R0 3
          have b4 := rowcell R0 4
          have b5 := rowcell R0 5
          have b6 := rowcell R0 6
          have b7 := rowcell R0 7
          have bf := rowfree R0
          simp only [List.getElem?_toArray, List.getElem?_cons_zero, List.getElem?_cons_succ] at b0 b1 b2 b3 b4 b5 b6 b7
          clear R0 hw6 R6 B6 c0 c1 c2 c3 c4 c5 c6 c7 cf
          go_wp2
          have e1 : min q 2 = 2 := by omega
          have e2 : (q : Int) - 2 = ((q - 2 : Nat) : Int) := by omega
          have hv : fdV (x.testBit (n - 1)) l = .agg #[.bool b, .bool false, .int .i64 r, .int .i64 (-(r : Int)), .int .i64 2, .int .i64 ee, .int .i64 ((q - 2 : Nat) : Int), .int .u64 ff] := by
            unfold fdV regL
            rw [← HBX.out, ← HO.out, ← HR.out, HRL.out, ← HQ.out, ← HEF.out.1, ← HEF.out.2, e1]
            rfl
          refine bodyPost_ret (v := .tuple #[.agg #[.bool b, .bool false, .int .i64 r, .int .i64 (-(r : Int)), .int .i64 2, .int .i64 ee, .int .i64 ((q - 2 : Nat) : Int), .int .u64 ff], .int .i64 0]) (by simp [results, Tryz.results41, go_sem, b0, b1, b2, b3, b4, b5, b6, b7, hne1, hne2, e2]) rfl (hQ.out _ _ ⟨by rw [hv], ?_⟩)
          have hmw : w.heap.size ≤ m := by omega
          exact cset8 (cset (cthen HBW.out HB6.out) hmw _ _) (Nat.le_refl _)
        · go_wp2_with fail
          refine (k5 _).mono ?_
          rintro e w5 ⟨rfl, rfl⟩
          go_wp2_with fail
          refine (k6 _).mono ?_
          rintro e w6 ⟨rfl, hw6⟩
          have R6 : w6.heap[m]? = some (.cells #[.bool b, .bool true, .int .i64 r, .int .i64 ((r : Int) - 1), .int .i64 (2 : Int), .int .i64 ee, .int .i64 ((q : Int) - 2), .int .u64 0] 70 (0, 0)) := by
            rw [hw6]
            refine (rowset (rowset (rowset (rowset (rowset (rowset HROW.out 3 _) 3 _) 4 _) 4 _) 5 _) 6 _).trans ?_
            simp only [List.setIfInBounds_toArray, List.set_cons_zero, List.set_cons_succ]
          have B6 : Below w2.heap.size w2 w6 := by rw [hw6]; exact (cset (cset (cset (cset (cset (cset HBB.out hm 3 _) hm 3 _) hm 4 _) hm 4 _) hm 5 _) hm 6 _)
          have HB6 : Hid (Below w2.heap.size w2 w6) := B6
          have HR6 : Hid _ := R6
          have d0 := rowcell R6 0
          have d1 := rowcell R6 1
          have d2 := rowcell R6 2
          have d3 := rowcell R6 3
          have d4 := rowcell R6 4
          have d5 := rowcell R6 5
          have d6 := rowcell R6 6
          have d7 := rowcell R6 7
          have df := rowfree R6
          simp only [List.getElem?_toArray, List.getElem?_cons_zero, List.getElem?_cons_succ] at d0 d1 d2 d3 d4 d5 d6 d7
          have R0 := (B6.block _ z3).trans RB.out
          have b0 := rowcell R0 0
          have b1 := rowcell R0 1
          have b2 := rowcell R0 2
          have b3 := rowcell R0 3
          have b4 := rowcell R0 4
          have b5 := rowcell R0 5
          have b6 := rowcell R0 6
          have b7 := rowcell R0 7
          have bf := rowfree R0
          simp only [List.getElem?_toArray, List.getElem?_cons_zero, List.getElem?_cons_succ] at b0 b1 b2 b3 b4 b5 b6 b7
          clear R0 hw6 R6 B6 c0 c1 c2 c3 c4 c5 c6 c7 cf
          go_wp2
          have e1 : min q 2 = 2 := by omega
          have e2 : (q : Int) - 2 = ((q - 2 : Nat) : Int) := by omega
          have hv : fdV (x.testBit (n - 1)) l = .agg #[.bool b, .bool true, .int .i64 r, .int .i64 ((r : Int) - 1), .int .i64 2, .int .i64 ee, .int .i64 ((q - 2 : Nat) : Int), .int .u64 ff] := by
            unfold fdV regL
            rw [← HBX.out, ← HO.out, ← HR.out, HRL.out, ← HQ.out, ← HEF.out.1, ← HEF.out.2, e1]
            rfl
          refine bodyPost_ret (v := .tuple #[.agg #[.bool b, .bool true, .int .i64 r, .int .i64 ((r : Int) - 1), .int .i64 2, .int .i64 ee, .int .i64 ((q - 2 : Nat) : Int), .int .u64 ff], .int .i64 0]) (by simp [results, Tryz.results41, go_sem, b0, b1, b2, b3, b4, b5, b6, b7, hne1, hne2, e2]) rfl (hQ.out _ _ ⟨by rw [hv], ?_⟩)
          have hmw : w.heap.size ≤ m := by omega
          exact cset8 (cset (cthen HBW.out HB6.out) hmw _ _) (Nat.le_refl _)
    · have hrn2 : decide ((r : Int) < ((n - 1 : Nat) : Int)) = false := decide_eq_false (by omega)
      have hR0 : restL l = [] := List.eq_nil_of_length_eq_zero (by rw [HRL.out]; omega)
      have HR0 : Hid (restL l = []) := hR0
      have k5 : ∀ w, Calls Tryz.prog 28 #[.string ((⟨#[48, 48]⟩ : ByteArray).extract 0 2)] w fun e w' => e = .returned (.int .u64 0) ∧ w' = w :=
        fun w => number_any _ [false, false] (isBits_extract (show IsBits ⟨#[48, 48]⟩ [false, false] from rfl) 0 2) (by decide) w
      have k6 : ∀ w, Calls Tryz.prog 28 #[.string ⟨#[]⟩] w fun e w' => e = .returned (.int .u64 0) ∧ w' = w :=
        fun w => number_any ⟨#[]⟩ [] (show IsBits ⟨#[]⟩ [] from rfl) (by decide) w
      clear hR0
      cases o
      · go_wp2_with fail
        refine (k5 _).mono ?_
        rintro e w5 ⟨rfl, rfl⟩
        go_wp2_with fail
        refine (k6 _).mono ?_
        rintro e w6 ⟨rfl, hw6⟩
        have R6 : w6.heap[m]? = some (.cells #[.bool b, .bool false, .int .i64 r, .int .i64 (-(r : Int)), .int .i64 0, .int .i64 0, .int .i64 0, .int .u64 0] 70 (0, 0)) := by
          rw [hw6]
          refine (rowset (rowset (rowset (rowset HROW.out 3 _) 4 _) 5 _) 6 _).trans ?_
          simp only [List.setIfInBounds_toArray, List.set_cons_zero, List.set_cons_succ]
        have B6 : Below w2.heap.size w2 w6 := by rw [hw6]; exact (cset (cset (cset (cset HBB.out hm 3 _) hm 4 _) hm 5 _) hm 6 _)
        have HB6 : Hid (Below w2.heap.size w2 w6) := B6
        have HR6 : Hid _ := R6
        have d0 := rowcell R6 0
        have d1 := rowcell R6 1
        have d2 := rowcell R6 2
        have d3 := rowcell R6 3
        have d4 := rowcell R6 4
        have d5 := rowcell R6 5
        have d6 := rowcell R6 6
        have d7 := rowcell R6 7
        have df := rowfree R6
        simp only [List.getElem?_toArray, List.getElem?_cons_zero, List.getElem?_cons_succ] at d0 d1 d2 d3 d4 d5 d6 d7
        have R0 := (B6.block _ z3).trans RB.out
        have b0 := rowcell R0 0
        have b1 := rowcell R0 1
        have b2 := rowcell R0 2
        have b3 := rowcell R0 3
        have b4 := rowcell R0 4
        have b5 := rowcell R0 5
        have b6 := rowcell R0 6
        have b7 := rowcell R0 7
        have bf := rowfree R0
        simp only [List.getElem?_toArray, List.getElem?_cons_zero, List.getElem?_cons_succ] at b0 b1 b2 b3 b4 b5 b6 b7
        clear R0 hw6 R6 B6 c0 c1 c2 c3 c4 c5 c6 c7 cf
        go_wp2
        have hv : fdV (x.testBit (n - 1)) l = .agg #[.bool b, .bool false, .int .i64 r, .int .i64 (-(r : Int)), .int .i64 0, .int .i64 0, .int .i64 0, .int .u64 0] := by
          unfold fdV regL expL fracL
          rw [← HBX.out, ← HO.out, ← HR.out, HR0.out]
          rfl
        refine bodyPost_ret (v := .tuple #[.agg #[.bool b, .bool false, .int .i64 r, .int .i64 (-(r : Int)), .int .i64 0, .int .i64 0, .int .i64 0, .int .u64 0], .int .i64 0]) (by simp [results, Tryz.results41, go_sem, b0, b1, b2, b3, b4, b5, b6, b7, hne1, hne2, numOf]) rfl (hQ.out _ _ ⟨by rw [hv], ?_⟩)
        have hmw : w.heap.size ≤ m := by omega
        exact cset8 (cset (cthen HBW.out HB6.out) hmw _ _) (Nat.le_refl _)
      · go_wp2_with fail
        refine (k5 _).mono ?_
        rintro e w5 ⟨rfl, rfl⟩
        go_wp2_with fail
        refine (k6 _).mono ?_
        rintro e w6 ⟨rfl, hw6⟩
        have R6 : w6.heap[m]? = some (.cells #[.bool b, .bool true, .int .i64 r, .int .i64 ((r : Int) - 1), .int .i64 0, .int .i64 0, .int .i64 0, .int .u64 0] 70 (0, 0)) := by
          rw [hw6]
          refine (rowset (rowset (rowset (rowset (rowset HROW.out 3 _) 3 _) 4 _) 5 _) 6 _).trans ?_
          simp only [List.setIfInBounds_toArray, List.set_cons_zero, List.set_cons_succ]
        have B6 : Below w2.heap.size w2 w6 := by rw [hw6]; exact (cset (cset (cset (cset (cset HBB.out hm 3 _) hm 3 _) hm 4 _) hm 5 _) hm 6 _)
        have HB6 : Hid (Below w2.heap.size w2 w6) := B6
        have HR6 : Hid _ := R6
        have d0 := rowcell R6 0
        have d1 := rowcell R6 1
        have d2 := rowcell R6 2
        have d3 := rowcell R6 3
        have d4 := rowcell R6 4
        have d5 := rowcell R6 5
        have d6 := rowcell R6 6
        have d7 := rowcell R6 7
        have df := rowfree R6
        simp only [List.getElem?_toArray, List.getElem?_cons_zero, List.getElem?_cons_succ] at d0 d1 d2 d3 d4 d5 d6 d7
        have R0 := (B6.block _ z3).trans RB.out
        have b0 := rowcell R0 0
        have b1 := rowcell R0 1
        have b2 := rowcell R0 2
        have b3 := rowcell R0 3
        have b4 := rowcell R0 4
        have b5 := rowcell R0 5
        have b6 := rowcell R0 6
        have b7 := rowcell R0 7
        have bf := rowfree R0
        simp only [List.getElem?_toArray, List.getElem?_cons_zero, List.getElem?_cons_succ] at b0 b1 b2 b3 b4 b5 b6 b7
        clear R0 hw6 R6 B6 c0 c1 c2 c3 c4 c5 c6 c7 cf
        go_wp2
        have hv : fdV (x.testBit (n - 1)) l = .agg #[.bool b, .bool true, .int .i64 r, .int .i64 ((r : Int) - 1), .int .i64 0, .int .i64 0, .int .i64 0, .int .u64 0] := by
          unfold fdV regL expL fracL
          rw [← HBX.out, ← HO.out, ← HR.out, HR0.out]
          rfl
        refine bodyPost_ret (v := .tuple #[.agg #[.bool b, .bool true, .int .i64 r, .int .i64 ((r : Int) - 1), .int .i64 0, .int .i64 0, .int .i64 0, .int .u64 0], .int .i64 0]) (by simp [results, Tryz.results41, go_sem, b0, b1, b2, b3, b4, b5, b6, b7, hne1, hne2, numOf]) rfl (hQ.out _ _ ⟨by rw [hv], ?_⟩)
        have hmw : w.heap.size ≤ m := by omega
        exact cset8 (cset (cthen HBW.out HB6.out) hmw _ _) (Nat.le_refl _)
end Go.Proofs.YtheliihkkoohnabGreat

namespace Go.Proofs.YtheliihkkoohnabGreat
open Go.ChangeShapes Go.WideShapes Go.ChangeAt Go.RowKit
set_option linter.unusedVariables false
set_option linter.unusedSimpArgs false
set_option maxRecDepth 100000

theorem row4 {w : World} {m : Nat} {u0 u1 u2 u3 v0 v1 v2 v3 : Value} {t : TypeId} (h : w.heap[m]? = some (.cells #[u0, u1, u2, u3] t (0, 0))) :
    ((((w.setCell ⟨m, 0, none⟩ v0).setCell ⟨m, 1, none⟩ v1).setCell ⟨m, 2, none⟩ v2).setCell ⟨m, 3, none⟩ v3).heap[m]? = some (.cells #[v0, v1, v2, v3] t (0, 0)) := by
  have h := rowset h 0 v0
  simp only [List.setIfInBounds_toArray, List.set_cons_zero, List.set_cons_succ] at h
  have h := rowset h 1 v1
  simp only [List.setIfInBounds_toArray, List.set_cons_zero, List.set_cons_succ] at h
  have h := rowset h 2 v2
  simp only [List.setIfInBounds_toArray, List.set_cons_zero, List.set_cons_succ] at h
  have h := rowset h 3 v3
  simp only [List.setIfInBounds_toArray, List.set_cons_zero, List.set_cons_succ] at h
  exact h
theorem cset4 {a W : World} {m : Nat} {v0 v1 v2 v3 : Value} (h : Below a.heap.size a W) (hb : a.heap.size ≤ m) :
    Below a.heap.size a ((((W.setCell ⟨m, 0, none⟩ v0).setCell ⟨m, 1, none⟩ v1).setCell ⟨m, 2, none⟩ v2).setCell ⟨m, 3, none⟩ v3) :=
  cset (cset (cset (cset h hb 0 v0) hb 1 v1) hb 2 v2) hb 3 v3
/-! ### Decode -/
def numV (k : Int) (neg : Bool) (s : Int) (f : Nat) : Value := .agg #[.int .i64 k, .bool neg, .int .i64 s, .int .u64 f]
theorem decodes6_other (n x : Nat) (hn : Wd n) (hk : kindOf n (x % 2 ^ n) ≠ 1) (w : World) :
    Calls Tryz.prog 21 #[.int .i64 n, .int .u64 x] w fun e w' => e = .returned (.tuple #[numV (kindOf n (x % 2 ^ n)) false 0 0, .int .i64 0]) ∧ Below w.heap.size w w' := by
  have k1 := rkind_ok n x hn
  generalize kindOf n (x % 2 ^ n) = k at *
  clear hn
  refine cps fun Q hQ => ?_
  have hd : (k == 1) = false := beq_eq_false_iff_ne.2 hk
  go_enter Tryz.func21, Tryz.ntmps21
  go_wp2_with (go_at_call 40; refine (k1 _).mono ?_; rintro e w1 ⟨rfl, hb1⟩; have hc := fun b o h => hb1.cell (p := ⟨b, o, none⟩) h; have hf := fun b o h => hb1.frozen (p := ⟨b, o, none⟩) h; have hz := hb1.size; simp at hz; have hz' : w.heap.size < w1.heap.size := hz)
  refine bodyPost_ret (v := .tuple #[numV k false 0 0, .int .i64 0]) (by simp [results, Tryz.results21, go_sem, hc, hz', numV]) rfl (hQ.out _ _ ⟨rfl, ?_⟩)
  exact cset4 (cthen (cmore (Below.refl _ _) _) hb1) (Nat.le_refl _)
def strLen (v : Value) : Nat := match v with | .string S => S.size | _ => 0
theorem decodes6_real (n x : Nat) (hn : Wd n) (hx : x < 2 ^ 64) (hk : kindOf n (x % 2 ^ n) = 1) (w : World) :
    Calls Tryz.prog 21 #[.int .i64 n, .int .u64 x] w fun e w' => e = .returned (.tuple #[numV 1 (x.testBit (n - 1)) (scaleL (strS n x)) (wordL (strS n x)), .int .i64 0]) ∧ Below w.heap.size w w' := by
  have k1 := rkind_ok n x hn
  rw [hk] at k1
  have k2 := split6_real n x hn hx hk
  have hw := wd_le hn
  have hlen := strS_length n x
  have hfl : bitsOf (fracL (strS n x)) ((restL (strS n x)).length - 2) = (restL (strS n x)).drop 2 := by
    have := bitsOf_numOf ((restL (strS n x)).drop 2)
    rw [List.length_drop] at this; exact this
  have hfb : (restL (strS n x)).length - 2 ≤ 61 := by rw [restL_length, hlen]; omega
  have hrg : -64 ≤ regL (strS n x) ∧ regL (strS n x) ≤ 64 := by
    have := runL_le (strS n x)
    unfold regL; split <;> omega
  have hex : expL (strS n x) < 4 := by
    have := numOf_lt ((restL (strS n x) ++ noughts 2).take 2)
    rw [show ((restL (strS n x) ++ noughts 2).take 2).length = 2 by simp] at this
    exact this
  have hwl : wordL (strS n x) = numOf (true :: ((restL (strS n x)).drop 2 ++ noughts (63 - ((restL (strS n x)).length - 2)))) := by
    unfold wordL
    rw [List.take_append, List.take_of_length_le (by rw [List.length_drop]; omega), take_noughts _ _ (by omega), List.length_drop]
  unfold fdV at k2
  unfold scaleL at *
  clear hn hx hk hlen hw
  generalize onesL (strS n x) = o at *
  generalize runL (strS n x) = r at *
  generalize regL (strS n x) = reg at *
  generalize expL (strS n x) = ex at *
  generalize fracL (strS n x) = fr at *
  generalize wordL (strS n x) = wd at *
  generalize hu : (restL (strS n x)).drop 2 = u at *
  generalize hub : (restL (strS n x)).length - 2 = fb at *
  generalize min (restL (strS n x)).length 2 = eb at *
  have hul : u.length = fb := by rw [← hu, ← hub, List.length_drop]
  have HU : Hid (bitsOf fr fb = u ∧ u.length = fb ∧ wd = numOf (true :: (u ++ noughts (63 - fb)))) := ⟨hfl, hul, hwl⟩
  clear hfl hwl hu hub hul
  refine cps fun Q hQ => ?_
  generalize x.testBit (n - 1) = b at *
  go_enter Tryz.func21, Tryz.ntmps21
  go_wp2_with (first
    | (go_at_call 40; refine (k1 _).mono ?_; rintro e w1 ⟨rfl, hb1⟩)
    | (go_at_call 41; refine (k2 _).mono ?_; rintro e w2 ⟨rfl, hb2⟩; have HB1 : Hid (Below _ _ _) := hb1; have HB2 : Hid (Below _ _ _) := hb2; clear hb1 hb2))
  refine (text_any fr fb (by omega) _).mono ?_
  rintro e w3 ⟨t, rfl, ht, hb3⟩
  have z1 : w.heap.size < w1.heap.size := by have := HB1.out.size; simp at this; omega
  have z2 := HB2.out.size
  have RX := (hb3.block (w2.heap.size + 1) (by simp)).trans (rownew' _ _ _ _ (by simp))
  have R0 := (hb3.block w.heap.size (by simp; omega)).trans ((Below.heap_alloc (w2.alloc _) _ _ (by simp; omega)).trans ((Below.heap_alloc w2 _ _ (by omega)).trans ((HB2.out.block _ z1).trans ((HB1.out.block _ (by simp)).trans (rownew w _ _)))))
  have BW : Below w.heap.size w w3 := cthen (cmore (cmore (cthen (cthen (cmore (Below.refl _ _) _) HB1.out) HB2.out) _) _) hb3
  have HBW : Hid (Below w.heap.size w w3) := BW
  have x0 := rowcell RX 0
  have x1 := rowcell RX 1
  have x2 := rowcell RX 2
  have x3 := rowcell RX 3
  have xf := rowfree RX
  have b0 := rowcell R0 0
  have b1 := rowcell R0 1
  have b2 := rowcell R0 2
  have b3 := rowcell R0 3
  have bf := rowfree R0
  simp only [List.getElem?_toArray, List.getElem?_cons_zero, List.getElem?_cons_succ] at x0 x1 x2 x3 b0 b1 b2 b3
  have hne1 : ¬ w2.heap.size + 1 = w.heap.size := by omega
  have hne2 : ¬ w.heap.size = w2.heap.size + 1 := by omega
  have hmw : w.heap.size ≤ w2.heap.size + 1 := by omega
  have htz := isBits_size ht
  rw [HU.out.1, HU.out.2.1] at htz
  have HT : Hid (IsBits t u) := by rw [HU.out.1] at ht; exact ht
  have h49 : (⟨#[49]⟩ : ByteArray).size = 1 := rfl
  have g1 := fun wx => run_string_add_sum (P := Tryz.prog) wx ⟨#[49]⟩ t (by rw [htz, h49]; omega)
  have h1z : (⟨#[49]⟩ ++ t : ByteArray).size = 1 + fb := by rw [ByteArray.size_append, htz, h49]
  have h1b : IsBits (⟨#[49]⟩ ++ t) (true :: u) := isBits_append (show IsBits ⟨#[49]⟩ [true] from rfl) HT.out
  have H1B : Hid (IsBits (⟨#[49]⟩ ++ t) (true :: u)) := h1b
  clear RX R0 BW HB1 HB2 hb3 z1 z2 k1 k2 ht h1b h49
  generalize ⟨#[49]⟩ ++ t = S1 at *
  go_wp2
  go_loop [11] (fun sv => ∃ (S : ByteArray) (j : Nat), sv = .string S ∧ S.size = 1 + fb + j ∧ 1 + fb + j ≤ 64 ∧ Hid (IsBits S (true :: (u ++ noughts j)))) (fun sv => 64 - strLen sv)
  case atStart => exact ⟨S1, 0, rfl, h1z, by omega, by show IsBits _ _; simpa using H1B.out⟩
  case round =>
    obtain ⟨S, j, rfl, hS, hj, hI⟩ := hrel
    have h48 : (⟨#[48]⟩ : ByteArray).size = 1 := rfl
    by_cases hlt : 1 + fb + j < 64
    · have g2 := fun wx => run_string_add_sum (P := Tryz.prog) wx S ⟨#[48]⟩ (by rw [hS, h48]; omega)
      have h2z : (S ++ ⟨#[48]⟩ : ByteArray).size = 1 + fb + (j + 1) := by rw [ByteArray.size_append, hS, h48]; omega
      have H2B : Hid (IsBits (S ++ ⟨#[48]⟩) (true :: (u ++ noughts (j + 1)))) := by
        have := isBits_append hI.out (show IsBits ⟨#[48]⟩ [false] from rfl)
        rw [show true :: (u ++ noughts j) ++ [false] = true :: (u ++ noughts (j + 1)) by simp [noughts, List.replicate_succ']] at this
        exact this
      generalize S ++ ⟨#[48]⟩ = S2 at *
      clear h48
      go_wp2
      go_round
      case rel => exact ⟨S2, j + 1, rfl, h2z, by omega, H2B.out⟩
      case measure => simp [strLen, h2z, hS]; omega
    · have hj2 : j = 63 - fb := by omega
      have hl : (true :: (u ++ noughts j)).length ≤ 64 := by rw [← isBits_size hI.out, hS]; omega
      have k5 := number_any S _ hI.out hl
      rw [show numOf (true :: (u ++ noughts j)) = wd by rw [hj2]; exact HU.out.2.2.symm] at k5
      have hS64 : S.size = 64 := by omega
      clear hS hj2 hl hI h48 hj hlt
      go_wp2_with (go_at_call 28; refine (k5 _).mono ?_; rintro e w6 ⟨rfl, rfl⟩)
      refine bodyPost_ret (v := .tuple #[numV 1 b (4 * reg + ex) wd, .int .i64 0]) (by simp [results, Tryz.results21, go_sem, b0, b1, b2, b3, x0, x1, x2, x3, hne1, hne2, numV]) rfl (hQ.out _ _ ⟨rfl, ?_⟩)
      exact cset4 (cset HBW.out hmw _ _) (Nat.le_refl _)
end Go.Proofs.YtheliihkkoohnabGreat

namespace Go.Proofs.YtheliihkkoohnabGreat
open Go.ChangeShapes Go.WideShapes Go.ChangeAt Go.RowKit
set_option linter.unusedVariables false
set_option linter.unusedSimpArgs false
set_option maxRecDepth 100000

theorem decode6_other (n x : Nat) (hn : Wd n) (hk : kindOf n (x % 2 ^ n) ≠ 1) (w : World) :
    Calls Tryz.prog 7 #[.int .i64 n, .int .u64 x] w fun e w' => e = .returned (numV (kindOf n (x % 2 ^ n)) false 0 0) ∧ Below w.heap.size w w' := by
  have k1 := decodes6_other n x hn hk
  unfold numV at *
  refine cps fun Q hQ => ?_
  generalize kindOf n (x % 2 ^ n) = k at *
  go_enter Tryz.func7, Tryz.ntmps7
  go_wp2_with (go_at_call 21; refine (k1 _).mono ?_; rintro e w1 ⟨rfl, hb1⟩; have HB1 : Hid (Below _ _ _) := hb1; have R0 := (hb1.block w.heap.size (by simp)).trans (rownew w _ _); have b0 := rowcell R0 0; have b1 := rowcell R0 1; have b2 := rowcell R0 2; have b3 := rowcell R0 3; have bf := rowfree R0; simp only [List.getElem?_toArray, List.getElem?_cons_zero, List.getElem?_cons_succ] at b0 b1 b2 b3; have z1 : w.heap.size < w1.heap.size := (by have := hb1.size; simp at this; omega); have hne1 : ¬ w.heap.size = w1.heap.size := (by omega); have hne2 : ¬ w1.heap.size = w.heap.size := (by omega); clear hb1 R0)
  refine bodyPost_ret (v := .agg #[.int .i64 k, .bool false, .int .i64 0, .int .u64 0]) (by simp [results, Tryz.results7, go_sem, b0, b1, b2, b3, hne1, hne2, z1]) rfl (hQ.out _ _ ⟨rfl, ?_⟩)
  exact cmore (cset4 (cthen (cmore (Below.refl _ _) _) HB1.out) (Nat.le_refl _)) _
theorem decode6_real (n x : Nat) (hn : Wd n) (hx : x < 2 ^ 64) (hk : kindOf n (x % 2 ^ n) = 1) (w : World) :
    Calls Tryz.prog 7 #[.int .i64 n, .int .u64 x] w fun e w' => e = .returned (numV 1 (x.testBit (n - 1)) (scaleL (strS n x)) (wordL (strS n x))) ∧ Below w.heap.size w w' := by
  have k1 := decodes6_real n x hn hx hk
  unfold numV at *
  clear hn hx hk
  refine cps fun Q hQ => ?_
  generalize scaleL (strS n x) = s at *
  generalize wordL (strS n x) = f at *
  generalize x.testBit (n - 1) = b at *
  go_enter Tryz.func7, Tryz.ntmps7
  go_wp2_with (go_at_call 21; refine (k1 _).mono ?_; rintro e w1 ⟨rfl, hb1⟩; have HB1 : Hid (Below _ _ _) := hb1; have R0 := (hb1.block w.heap.size (by simp)).trans (rownew w _ _); have b0 := rowcell R0 0; have b1 := rowcell R0 1; have b2 := rowcell R0 2; have b3 := rowcell R0 3; have bf := rowfree R0; simp only [List.getElem?_toArray, List.getElem?_cons_zero, List.getElem?_cons_succ] at b0 b1 b2 b3; have z1 : w.heap.size < w1.heap.size := (by have := hb1.size; simp at this; omega); have hne1 : ¬ w.heap.size = w1.heap.size := (by omega); have hne2 : ¬ w1.heap.size = w.heap.size := (by omega); clear hb1 R0)
  refine bodyPost_ret (v := .agg #[.int .i64 1, .bool b, .int .i64 s, .int .u64 f]) (by simp [results, Tryz.results7, go_sem, b0, b1, b2, b3, hne1, hne2, z1]) rfl (hQ.out _ _ ⟨rfl, ?_⟩)
  exact cmore (cset4 (cthen (cmore (Below.refl _ _) _) HB1.out) (Nat.le_refl _)) _
end Go.Proofs.YtheliihkkoohnabGreat

namespace Go.Proofs.YtheliihkkoohnabGreat
open Go.ChangeShapes Go.WideShapes Go.ChangeAt Go.RowKit
set_option linter.unusedVariables false
set_option linter.unusedSimpArgs false
set_option maxRecDepth 100000

/-! ### which Nums are sound -/
def soundN (k : Int) (neg : Bool) (s : Int) (f : Nat) : Bool :=
  if k = 0 ∨ k = 2 then decide (neg = false ∧ s = 0 ∧ f = 0) else decide (k = 1 ∧ 9223372036854775808 ≤ f ∧ -1073741824 ≤ s ∧ s ≤ 1073741824)
/-! ### Encode -/
def inR (n : Nat) (s : Int) : Bool := decide (8 - 4 * (n : Int) ≤ s ∧ s ≤ 4 * n - 8)
end Go.Proofs.YtheliihkkoohnabGreat

namespace Go.Proofs.YtheliihkkoohnabGreat
set_option maxRecDepth 100000
set_option linter.unusedVariables false
set_option linter.unusedSimpArgs false

/-! ### patterns and their strings -/
theorem bitsOf_mod (x n : Nat) : bitsOf x n = bitsOf (x % 2 ^ n) n := by
  refine numOf_inj (by rw [bitsOf_length, bitsOf_length]) ?_
  rw [numOf_bits, numOf_bits, Nat.mod_mod]
theorem bits_cons (t : List Bool) (n : Nat) (h : n = t.length + 1) : bitsOf (numOf t) n = false :: t := by
  subst h
  refine numOf_inj (by rw [bitsOf_length]; rfl) ?_
  rw [numOf_bits, numOf_cons]
  have := numOf_lt t
  rw [Nat.mod_eq_of_lt (by rw [Nat.pow_succ]; omega)]
  simp
theorem numOf_zero (t : List Bool) (h : numOf t = 0) : true ∉ t := by
  intro ht
  have : t = noughts t.length := numOf_inj (by simp) (by rw [h, numOf_noughts])
  rw [this, noughts, List.mem_replicate] at ht
  exact absurd ht.2 (by decide)
theorem numOf_pos (t : List Bool) (h : true ∈ t) : 0 < numOf t := Nat.pos_of_ne_zero fun e => numOf_zero t e h
theorem mem_of_pos (t : List Bool) (h : numOf t ≠ 0) : true ∈ t := by
  induction t with
  | nil => exact absurd rfl h
  | cons b t ih =>
    cases b
    · rw [numOf_cons] at h
      exact List.mem_cons_of_mem _ (ih (by simpa using h))
    · exact List.mem_cons_self ..
def patOf (n : Nat) (neg : Bool) (t : List Bool) : Nat := if neg then 2 ^ n - numOf t else numOf t
theorem wd_pows {n : Nat} (hn : Wd n) : ∃ H : Nat, 2 ^ n = 2 * H ∧ 2 ^ (n - 1) = H ∧ 128 ≤ H ∧ (∃ q, 18446744073709551616 = q * 2 ^ n ∧ 1 ≤ q) := by
  rcases hn with rfl | rfl | rfl | rfl
  · exact ⟨128, by decide, by decide, by decide, 72057594037927936, by decide, by decide⟩
  · exact ⟨32768, by decide, by decide, by decide, 281474976710656, by decide, by decide⟩
  · exact ⟨2147483648, by decide, by decide, by decide, 4294967296, by decide, by decide⟩
  · exact ⟨9223372036854775808, by decide, by decide, by decide, 1, by decide, by decide⟩
theorem minusU_mod (n x : Nat) (hn : Wd n) (hx : x < 2 ^ 64) : minusU x % 2 ^ n = (2 ^ n - x % 2 ^ n) % 2 ^ n := by
  obtain ⟨H, h1, h2, h3, q, hq, hq1⟩ := wd_pows hn
  unfold minusU
  generalize 2 ^ n = M at *
  by_cases h0 : x = 0
  · subst h0; simp
  · rw [Nat.mod_eq_of_lt (a := 18446744073709551616 - x) (by omega)]
    have hd := Nat.div_add_mod x M
    have hm := Nat.mod_lt x (show 0 < M by omega)
    generalize x % M = r at *
    generalize x / M = c at *
    have hcq : c < q := by
      refine Nat.lt_of_not_le fun hle => ?_
      have := Nat.mul_le_mul_right M hle
      rw [Nat.mul_comm c M] at this; omega
    have e : 18446744073709551616 - x = (M - r) + M * (q - 1 - c) := by
      have e1 : M * (q - 1 - c) + M * c + M = 18446744073709551616 := by
        rw [← Nat.mul_add, show q - 1 - c + c = q - 1 by omega, ← Nat.mul_succ, show (q - 1).succ = q by omega, hq, Nat.mul_comm]
      omega
    rw [e, Nat.add_mul_mod_self_left]
theorem top_of (n x : Nat) (hn : Wd n) (hx : x < 2 ^ n) : x.testBit (n - 1) = decide (2 ^ (n - 1) ≤ x) := by
  obtain ⟨H, h1, h2, h3, _⟩ := wd_pows hn
  rw [h2]
  have := top_bit x (n - 1) (by rw [h2]; omega)
  rw [this, h2]
theorem testBit_low (x n : Nat) (h : 1 ≤ n) : x.testBit (n - 1) = (x % 2 ^ n).testBit (n - 1) := by
  rw [Nat.testBit_mod_two_pow]
  have : n - 1 < n := by omega
  simp [this]
theorem patOf_facts (n : Nat) (hn : Wd n) (neg : Bool) (t : List Bool) (hl : t.length = n - 1) (ht : true ∈ t) :
    patOf n neg t < 2 ^ n ∧ kindOf n (patOf n neg t % 2 ^ n) = 1 ∧ (patOf n neg t).testBit (n - 1) = neg ∧ strS n (patOf n neg t) = t := by
  obtain ⟨H, h1, h2, h3, q, hq, hq1⟩ := wd_pows hn
  have hw := wd_le hn
  have h4 := numOf_pos t ht
  have h5 := numOf_lt t
  rw [hl, h2] at h5
  have hlt : patOf n neg t < 2 ^ n := by unfold patOf; split <;> omega
  have htop := top_of n _ hn hlt
  have hneg : (patOf n neg t).testBit (n - 1) = neg := by
    rw [htop, h2]; unfold patOf
    cases neg
    · simp; omega
    · simp; omega
  refine ⟨hlt, ?_, hneg, ?_⟩
  · rw [Nat.mod_eq_of_lt hlt]
    unfold kindOf patOf
    rw [h2]
    cases neg
    · rw [if_neg (by simp; omega), if_neg (by simp; omega)]
    · rw [if_neg (by simp; omega), if_neg (by simp; omega)]
  · unfold strS
    rw [hneg]
    have hc := bits_cons t n (by omega)
    cases neg
    · simp only [Bool.false_eq_true, if_false]
      rw [show patOf n false t = numOf t from rfl, hc]; rfl
    · simp only [if_true]
      have hp : patOf n true t = 2 ^ n - numOf t := rfl
      have hp64 : patOf n true t < 2 ^ 64 := Nat.lt_of_lt_of_le hlt (Nat.pow_le_pow_right (by decide) hw.2)
      rw [bitsOf_mod, minusU_mod n _ hn hp64, Nat.mod_eq_of_lt hlt, hp, show 2 ^ n - (2 ^ n - numOf t) = numOf t by omega, Nat.mod_eq_of_lt (by omega), hc]
      rfl
theorem strS_num (n x : Nat) (hn : Wd n) (hx : x < 2 ^ 64) : numOf (strS n x) = (if x.testBit (n - 1) then 2 ^ n - x % 2 ^ n else x % 2 ^ n) % 2 ^ (n - 1) := by
  have hw := wd_le hn
  have drop1 : ∀ y, numOf ((bitsOf y n).drop 1) = y % 2 ^ (n - 1) := fun y => by
    have hl : (bitsOf y n).length = n := bitsOf_length _ _
    have e := numOf_bits y n
    cases hc : bitsOf y n with
    | nil => rw [hc] at hl; simp at hl; omega
    | cons b l =>
      rw [hc] at hl e
      have hl2 : l.length = n - 1 := by simp at hl; omega
      have h5 := numOf_lt l
      rw [numOf_cons, hl2] at e
      rw [hl2] at h5
      show numOf l = _
      obtain ⟨H, h1, h2, h3, _⟩ := wd_pows hn
      have e2 : y % 2 ^ (n - 1) = (y % 2 ^ n) % 2 ^ (n - 1) := (Nat.mod_mod_of_dvd y (Nat.pow_dvd_pow 2 (by omega))).symm
      rw [e2, ← e, Nat.mul_comm, Nat.mul_add_mod, Nat.mod_eq_of_lt h5]
  unfold strS
  obtain ⟨H, h1, h2, h3, _⟩ := wd_pows hn
  have dv : ∀ y, (y % 2 ^ n) % 2 ^ (n - 1) = y % 2 ^ (n - 1) := fun y => Nat.mod_mod_of_dvd y (Nat.pow_dvd_pow 2 (by omega))
  cases x.testBit (n - 1)
  · simp only [Bool.false_eq_true, if_false]
    rw [drop1, dv]
  · simp only [if_true]
    rw [drop1, ← dv, minusU_mod n x hn hx, dv]
theorem patOf_str (n x : Nat) (hn : Wd n) (hx : x < 2 ^ 64) (hk : kindOf n (x % 2 ^ n) = 1) : true ∈ strS n x ∧ patOf n (x.testBit (n - 1)) (strS n x) = x % 2 ^ n := by
  have hw := wd_le hn
  obtain ⟨H, h1, h2, h3, _⟩ := wd_pows hn
  have hnum := strS_num n x hn hx
  have hm := Nat.mod_lt x (show 0 < 2 ^ n by omega)
  have htb := testBit_low x n (by omega)
  have htop := top_of n _ hn hm
  rw [← htb] at htop
  unfold kindOf at hk
  have h0 : ¬ x % 2 ^ n = 0 := fun e => by rw [if_pos e] at hk; exact absurd hk (by decide)
  rw [if_neg h0] at hk
  have h9 : ¬ x % 2 ^ n = 2 ^ (n - 1) := fun e => by rw [if_pos e] at hk; exact absurd hk (by decide)
  rw [h2] at h9 htop hnum
  rw [h1] at hm hnum
  unfold patOf
  rw [h1]
  rw [h1] at h0 h9 htop
  generalize x % (2 * H) = y at *
  by_cases hc : H ≤ y
  · rw [decide_eq_true hc] at htop
    rw [htop] at hnum ⊢
    simp only [if_true] at hnum ⊢
    rw [Nat.mod_eq_of_lt (by omega)] at hnum
    exact ⟨mem_of_pos _ (by omega), by omega⟩
  · rw [decide_eq_false hc] at htop
    rw [htop] at hnum ⊢
    simp only [Bool.false_eq_true, if_false] at hnum ⊢
    rw [Nat.mod_eq_of_lt (by omega)] at hnum
    exact ⟨mem_of_pos _ (by omega), by omega⟩
end Go.Proofs.YtheliihkkoohnabGreat

namespace Go.Proofs.YtheliihkkoohnabGreat
open Go.ChangeShapes Go.WideShapes Go.ChangeAt Go.RowKit
set_option linter.unusedVariables false
set_option linter.unusedSimpArgs false
set_option maxRecDepth 100000

/-- the string of a number, cut -/
theorem cut_true (n : Nat) (s : Int) (f : Nat) (hn : Wd n) (hr : inR n s = true) : true ∈ (canon s f).take (n - 1) ∧ ((canon s f).take (n - 1)).length = n - 1 := by
  have hw := wd_le hn
  have hr' := of_decide_eq_true hr
  have hlen : 65 < (canon s f).length := by
    unfold canon
    obtain ⟨b, r, hh, _⟩ := headK_form (s / 4)
    rw [hh]; simp [bitsOf_length]
  refine ⟨?_, by rw [List.length_take]; omega⟩
  by_cases h0 : 0 ≤ s / 4
  · have e : canon s f = true :: (List.replicate (s / 4).toNat true ++ [false] ++ bitsOf (s % 4).toNat 2 ++ (bitsOf f 64).drop 1) := by
      unfold canon headK; rw [if_pos h0, List.replicate_succ]; rfl
    rw [e, show n - 1 = (n - 2) + 1 by omega, List.take_succ_cons]
    exact List.mem_cons_self ..
  · have e : canon s f = List.replicate (-(s / 4)).toNat false ++ true :: (bitsOf (s % 4).toNat 2 ++ (bitsOf f 64).drop 1) := by
      unfold canon headK; rw [if_neg h0]; simp
    have hb : (-(s / 4)).toNat ≤ n - 2 := by omega
    rw [e, List.take_append, List.length_replicate, show n - 1 - (-(s / 4)).toNat = (n - 2 - (-(s / 4)).toNat) + 1 by omega, List.take_succ_cons]
    exact List.mem_append_right _ (List.mem_cons_self ..)
end Go.Proofs.YtheliihkkoohnabGreat

namespace Go.Proofs.YtheliihkkoohnabGreat
open Go.ChangeShapes Go.WideShapes Go.ChangeAt Go.RowKit
set_option linter.unusedVariables false
set_option linter.unusedSimpArgs false
set_option maxRecDepth 100000

/-- the pattern that the string, cut, writes; and what it means -/
abbrev cutL (n : Nat) (s : Int) (f : Nat) : List Bool := (canon s f).take (n - 1)
def fitsN (n : Nat) (s : Int) (f : Nat) : Bool := decide (scaleL (cutL n s f) = s ∧ wordL (cutL n s f) = f)
end Go.Proofs.YtheliihkkoohnabGreat

namespace Go.Proofs.YtheliihkkoohnabGreat
open Go.ChangeShapes Go.WideShapes Go.ChangeAt Go.RowKit
set_option linter.unusedVariables false
set_option linter.unusedSimpArgs false
set_option maxRecDepth 100000

/-! ### Join: the string that parts seem to write -/
end Go.Proofs.YtheliihkkoohnabGreat

namespace Go.Proofs.YtheliihkkoohnabGreat
open Go.ChangeShapes Go.WideShapes Go.ChangeAt Go.RowKit
set_option linter.unusedVariables false
set_option linter.unusedSimpArgs false
set_option maxRecDepth 100000

/-! ### Join -/
end Go.Proofs.YtheliihkkoohnabGreat

namespace Go.Proofs.YtheliihkkoohnabGreat
set_option maxRecDepth 100000
open Go.ChangeShapes Go.WideShapes Go.ChangeAt Go.RowKit

/-! ### Show -/
/-! ### Run -/
/-- a run: the highest bit of the lowest n, and how many like it -/
structure IsRun (x n : Nat) (b : Bool) (k : Nat) : Prop where
  bit : b = x.testBit (n - 1)
  low : 1 ≤ k
  high : k ≤ n
  same : ∀ j, j < k → x.testBit (n - 1 - j) = b
  ends : k < n → x.testBit (n - 1 - k) ≠ b
theorem IsRun.one {x n : Nat} {b b' : Bool} {k k' : Nat} (h : IsRun x n b k) (h' : IsRun x n b' k') : b = b' ∧ k = k' := by
  have e : b = b' := by rw [h.bit, h'.bit]
  subst e
  refine ⟨rfl, ?_⟩
  rcases Nat.lt_trichotomy k k' with c | c | c
  · exact absurd (h'.same k c) (h.ends (by have := h'.high; omega))
  · exact c
  · exact absurd (h.same k' c) (h'.ends (by have := h.high; omega))
/-- how many bits a number has -/
structure IsLen (x L : Nat) : Prop where
  le : L ≤ 64
  lt : x < 2 ^ L
  top : 0 < L → x.testBit (L - 1) = true
theorem bitLen_zero : Lib.bitLen 0 = 0 := by decide
theorem isLen_bitLen (x : Nat) (hx : x < 2 ^ 64) : IsLen x (Lib.bitLen x) := by
  by_cases h0 : x = 0
  · subst h0
    rw [bitLen_zero]
    exact ⟨by omega, by simp, fun h => absurd h (by omega)⟩
  · have hl : 2 ^ x.log2 ≤ x := Nat.log2_self_le h0
    have hu : x < 2 ^ (x.log2 + 1) := Nat.lt_log2_self
    have h64 : x.log2 < 64 := (Nat.log2_lt h0).2 hx
    have e : Lib.bitLen x = x.log2 + 1 := by
      rw [Lib.bitLen_shift x.log2 x hl hx]
      have h1 : x / 2 ^ x.log2 = 1 := by
        have hp : 0 < 2 ^ x.log2 := Nat.pos_of_ne_zero (by simp)
        have a : 1 ≤ x / 2 ^ x.log2 := (Nat.le_div_iff_mul_le hp).2 (by omega)
        have b : x / 2 ^ x.log2 < 2 := (Nat.div_lt_iff_lt_mul hp).2 (by rw [Nat.mul_comm, ← Nat.pow_succ]; exact hu)
        omega
      rw [h1, show Lib.bitLen 1 = 1 by decide]
    rw [e]
    refine ⟨by omega, hu, fun _ => ?_⟩
    rw [Nat.add_sub_cancel, top_bit x x.log2 (by rw [← Nat.pow_succ']; exact hu)]
    simpa using hl
theorem lz_any (x : Nat) (hx : x < 2 ^ 64) (w : World) :
    Calls Tryz.prog 90 #[.int .u64 x] w fun e w' => ∃ L : Nat, e = .returned (.int .i64 (64 - (L : Int))) ∧ IsLen x L ∧ w' = w := by
  have hl : Lib.bitLen x ≤ 64 := Lib.bitLen_le x 64 (by decide) hx
  refine cps fun Q hQ => ?_
  go_enter Tryz.func90, Tryz.ntmps90
  go_wp2_with (go_at_call 110; refine (len64_any x hx _).mono ?_; rintro e w' ⟨rfl, rfl⟩)
  exact hQ.out _ _ ⟨_, rfl, isLen_bitLen x hx, rfl⟩
theorem xorMax (H : Nat) (h : H < 2 ^ 64) : bits BinOp.xor IntKind.u64 IntKind.u64.max (H : Int) = ((18446744073709551615 - H : Nat) : Int) := by
  have e : IntKind.u64.max = ((18446744073709551615 : Nat) : Int) := by decide
  rw [e, u64_xor_nat _ _ (by decide) h]
  congr 1
  apply ext64 (Nat.xor_lt_two_pow (by decide) h) (by omega)
  intro i hi
  rw [Nat.testBit_xor, not_bit H i h hi]
  have : (18446744073709551615 : Nat).testBit i = true := by
    rw [show (18446744073709551615 : Nat) = 2 ^ 64 - 1 from rfl, Nat.testBit_two_pow_sub_one]; simpa using hi
  rw [this]; simp
theorem head_bit (x n j : Nat) (hn : n ≤ 64) (hj : j < 64) : ((x <<< (64 - n)) % 2 ^ 64).testBit (63 - j) = (decide (j < n) && x.testBit (n - 1 - j)) := by
  rw [Nat.testBit_mod_two_pow, Nat.testBit_shiftLeft]
  by_cases h : j < n
  · have e : 63 - j - (64 - n) = n - 1 - j := by omega
    have e1 : 63 - j < 64 := by omega
    have e2 : 63 - j ≥ 64 - n := by omega
    simp [h, e, e1, e2]
  · have e2 : ¬ 63 - j ≥ 64 - n := by omega
    simp [h, e2]
/-- the run, off the length of what was shifted up (and turned, where it is of ones) -/
theorem isRun_of (x n H L : Nat) (b : Bool) (h1 : 1 ≤ n) (h2 : n ≤ 64) (hb : b = x.testBit (n - 1)) (hH : ∀ j, j < 64 → H.testBit (63 - j) = ((decide (j < n) && x.testBit (n - 1 - j)) ^^ b)) (hL : IsLen H L) :
    ∃ k : Nat, ((64 - (L : Int)) ≤ n → 64 - (L : Int) = k) ∧ ((n : Int) < 64 - (L : Int) → n = k) ∧ IsRun x n b k := by
  have hz : ∀ j, j < 64 - L → H.testBit (63 - j) = false := fun j hj => Nat.testBit_lt_two_pow (Nat.lt_of_lt_of_le hL.lt (Nat.pow_le_pow_right (by decide) (by omega)))
  have hlow : 1 ≤ 64 - L := by
    rcases Nat.lt_or_ge L 64 with h | h
    · omega
    · have hl := hL.le
      have : L = 64 := by omega
      have ht := hL.top (by omega)
      rw [this] at ht
      have h0 := hH 0 (by omega)
      rw [show 63 - 0 = 64 - 1 from rfl, ht] at h0
      have hn : 0 < n := h1
      simp [hn, ← hb] at h0
  have same : ∀ j, j < n → j < 64 - L → x.testBit (n - 1 - j) = b := by
    intro j hj hj2
    have e := hH j (by omega)
    rw [hz j hj2] at e
    simp [hj] at e
    cases b <;> simp_all
  rcases Nat.lt_or_ge (64 - L) n with h | h
  · refine ⟨64 - L, by omega, by omega, hb, hlow, by omega, fun j hj => same j (by omega) hj, fun _ => ?_⟩
    have ht := hL.top (by omega)
    have e := hH (64 - L) (by omega)
    rw [show 63 - (64 - L) = L - 1 by omega, ht] at e
    simp [h] at e
    cases b <;> simp_all
  · refine ⟨n, by omega, fun _ => rfl, hb, h1, Nat.le_refl _, fun j hj => same j hj (by omega), fun h => absurd h (by omega)⟩
theorem lrun_ok (x n : Nat) (h1 : 1 ≤ n) (h2 : n ≤ 64) (w : World) :
    Calls Tryz.prog 66 #[.int .u64 x, .int .i64 n] w fun e w' => ∃ b k, e = .returned (.tuple #[.bool b, .int .i64 (k : Nat), .nilIface]) ∧ IsRun x n b k ∧ w' = w := by
  obtain ⟨H, hH⟩ : ∃ H, H = (x <<< (64 - n)) % 2 ^ 64 := ⟨_, rfl⟩
  have hlt : H < 2 ^ 64 := by rw [hH]; exact Nat.mod_lt _ (by decide)
  have hw : IntKind.u64.wrap ((x : Int) * 2 ^ (64 - n)) = (H : Int) := by rw [hH]; exact wrapShl x (64 - n)
  have hbits : Hid (∀ j, j < 64 → H.testBit (63 - j) = (decide (j < n) && x.testBit (n - 1 - j))) := fun j hj => by rw [hH]; exact head_bit x n j h2 hj
  obtain ⟨C, hC⟩ : ∃ C, C = 18446744073709551615 - H := ⟨_, rfl⟩
  have hCl : C < 2 ^ 64 := by omega
  have hxor := xorMax H hlt
  rw [← hC] at hxor
  have htop : Hid (x.testBit (n - 1) = decide (2 ^ 63 ≤ H)) := by
    have e := hbits.out 0 (by omega)
    have hn : 0 < n := h1
    rw [show 63 - 0 = 63 from rfl, top_bit H 63 (by omega)] at e
    exact (show x.testBit (n - 1) = _ by simpa [hn] using e.symm)
  have htop' : (((H : Int) / 9223372036854775808 == 1) = decide (2 ^ 63 ≤ H)) := by
    rw [Bool.eq_iff_iff]; simp; omega
  have hbC : Hid (∀ j, j < 64 → C.testBit (63 - j) = !H.testBit (63 - j)) := fun j hj => by rw [hC]; exact not_bit H _ hlt (by omega)
  clear hH hC
  have HL : Hid (H < 2 ^ 64) := hlt
  have CL : Hid (C < 2 ^ 64) := hCl
  clear hlt hCl
  refine cps fun Q hQ => ?_
  cases hc : decide (2 ^ 63 ≤ H)
  · rw [hc] at htop' htop
    clear hc
    go_enter Tryz.func66, Tryz.ntmps66
    go_wp2_with (go_at_call 90; refine (lz_any H HL.out _).mono ?_; rintro e w' ⟨L, rfl, hL, rfl⟩)
    all_goals
      obtain ⟨k, hk1, hk2, hr⟩ := isRun_of x n H L false h1 h2 htop.out.symm (fun j hj => by rw [hbits.out j hj]; simp) hL
      go_ret3
      exact hQ.out _ _ ⟨false, k, ret_bix rfl (by omega), hr, rfl⟩
  · rw [hc] at htop' htop
    clear hc
    go_enter Tryz.func66, Tryz.ntmps66
    go_wp2_with (go_at_call 90; refine (lz_any C CL.out _).mono ?_; rintro e w' ⟨L, rfl, hL, rfl⟩)
    all_goals
      obtain ⟨k, hk1, hk2, hr⟩ := isRun_of x n C L true h1 h2 htop.out.symm (fun j hj => by rw [hbC.out j hj, hbits.out j hj]; simp) hL
      go_ret3
      exact hQ.out _ _ ⟨true, k, ret_bix rfl (by omega), hr, rfl⟩
end Go.Proofs.YtheliihkkoohnabGreat

namespace Go.Proofs.YtheliihkkoohnabGreat
set_option maxRecDepth 100000
set_option linter.unusedVariables false
set_option linter.unusedSimpArgs false

/-! ### bits put, bits read, of a word that is a string (plain mathematics) -/
theorem numOf_noughts_append (z : Nat) (l : List Bool) : numOf (noughts z ++ l) = numOf l := by
  rw [numOf_append, numOf_noughts]; simp
/-- bits read out of a word that ends with a string -/
theorem fieldOf_mod (y at_ m k : Nat) (h : at_ + m ≤ k) : fieldOf y at_ m = fieldOf (y % 2 ^ k) at_ m := by
  apply Nat.eq_of_testBit_eq
  intro i
  rw [fieldOf, fieldOf, Nat.testBit_mod_two_pow, Nat.testBit_mod_two_pow, Nat.testBit_shiftRight, Nat.testBit_shiftRight, Nat.testBit_mod_two_pow]
  by_cases hi : i < m
  · rw [decide_eq_true (show at_ + i < k by omega)]; simp
  · simp [hi]
theorem fieldOf_list (a b c : List Bool) : fieldOf (numOf (a ++ b ++ c)) c.length b.length = numOf b := by
  have hc := numOf_lt c
  have hb := numOf_lt b
  have h0 : 0 < 2 ^ c.length := Nat.pos_of_ne_zero (by simp)
  rw [fieldOf, numOf_append, numOf_append, Nat.shiftRight_eq_div_pow, Nat.mul_comm, Nat.mul_add_div h0, Nat.div_eq_of_lt hc, Nat.add_zero, Nat.mul_comm, Nat.mul_add_mod, Nat.mod_eq_of_lt hb]
/-- the parts of a string, read off a word that ends with it -/
theorem exp_field (t : List Bool) (y m E F : Nat) (hl : t.length = m) (hy : y % 2 ^ m = numOf t) (hE : E = min (restL t).length 2) (hF : F = (restL t).length - E) :
    fieldOf y F E * 2 ^ (2 - E) = expL t ∧ fieldOf y 0 F = fracL t := by
  have hr := restL_length t
  have ht : t = t.take (runL t + 1) ++ (restL t).take E ++ (restL t).drop E := by
    rw [List.append_assoc, List.take_append_drop, restL, List.take_append_drop]
  have l1 : ((restL t).take E).length = E := by rw [List.length_take]; omega
  have l2 : ((restL t).drop E).length = F := by rw [List.length_drop]; omega
  have hEu : (E = (restL t).length ∧ (restL t).length ≤ 2) ∨ (E = 2 ∧ 2 < (restL t).length) := by omega
  have f1 := fieldOf_list (t.take (runL t + 1)) ((restL t).take E) ((restL t).drop E)
  have f2 := fieldOf_list (t.take (runL t + 1) ++ (restL t).take E) ((restL t).drop E) []
  rw [List.append_nil, List.length_nil] at f2
  rw [← ht, l1, l2] at f1
  rw [← ht, l2] at f2
  constructor
  · rw [fieldOf_mod y F E m (by omega), hy, f1]
    unfold expL
    have : (restL t ++ noughts 2).take 2 = (restL t).take E ++ noughts (2 - E) := by
      rcases hEu with ⟨h1, h2⟩ | ⟨h1, h2⟩
      · rw [List.take_append, List.take_of_length_le h2, h1, List.take_of_length_le (Nat.le_refl _), take_noughts _ _ (by omega)]
      · rw [h1, List.take_append_of_le_length (by omega)]; simp [noughts]
    rw [this, numOf_append, numOf_noughts]; simp
  · rw [fieldOf_mod y 0 F m (by omega), hy, f2, frac_drop _ _ hEu]; rfl
/-- the run of a string, read off a word that ends with it -/
theorem run_field (t : List Bool) (y m : Nat) (h0 : 0 < m) (hl : t.length = m) (hy : y % 2 ^ m = numOf t) : IsRun y m (onesL t) (runL t) := by
  have hne : t ≠ [] := by rintro rfl; simp at hl; omega
  obtain ⟨b, r, tl, rfl, htl⟩ := split_run t hne
  have hbit : ∀ j, j < m → y.testBit (m - 1 - j) = (List.replicate (r + 1) b ++ tl).getD j false := fun j hj => by
    have : (y % 2 ^ m).testBit (m - 1 - j) = y.testBit (m - 1 - j) := by
      rw [Nat.testBit_mod_two_pow, decide_eq_true (by omega)]; rfl
    rw [← this, hy, numOf_testBit, hl, decide_eq_true (by omega), show m - 1 - (m - 1 - j) = j by omega]; rfl
  rw [runL_rep b r tl htl, onesL_rep]
  have hl' : r + 1 + tl.length = m := by simpa using hl
  refine ⟨?_, by omega, by omega, ?_, ?_⟩
  · have := hbit 0 h0
    rw [Nat.sub_zero] at this
    rw [this, List.replicate_succ]; rfl
  · intro j hj
    rw [hbit j (by omega), List.getD_eq_getElem?_getD, List.getElem?_append_left (by simpa using hj), List.getElem?_replicate, if_pos hj]; rfl
  · intro hk
    rw [hbit (r + 1) hk, List.getD_eq_getElem?_getD, List.getElem?_append_right (by simp)]
    rcases htl with rfl | ⟨u, rfl⟩
    · simp at hl'; omega
    · simp
theorem bits_drop1 (x m : Nat) (h : 1 ≤ m) : (bitsOf x m).drop 1 = bitsOf x (m - 1) := by
  apply List.ext_getElem?
  intro j
  by_cases hj : j < m - 1
  · rw [List.getElem?_drop, bitsOf_get _ _ _ (by omega), bitsOf_get _ _ _ hj]
    congr 2; omega
  · rw [List.getElem?_eq_none (by rw [List.length_drop, bitsOf_length]; omega), List.getElem?_eq_none (by rw [bitsOf_length]; omega)]
end Go.Proofs.YtheliihkkoohnabGreat

namespace Go.Proofs.YtheliihkkoohnabGreat
open Go.ChangeShapes Go.WideShapes Go.ChangeAt Go.RowKit
set_option linter.unusedVariables false
set_option linter.unusedSimpArgs false
set_option maxRecDepth 100000

theorem ret_ii {k : IntKind} {a b c d : Int} (h : a = b) (g : c = d) : Ending.returned (.tuple #[.int k a, .int k c]) = .returned (.tuple #[.int k b, .int k d]) := by rw [h, g]
/-! ### the code's helpers: regime, row, room, assemble -/
theorem cregime_any (ones : Bool) (run : Int) (h1 : -1000 ≤ run) (h2 : run ≤ 1000) (w : World) :
    Calls Tryz.prog 67 #[.bool ones, .int .i64 run] w fun e w' => e = .returned (.int .i64 (if ones then run - 1 else -run)) ∧ w' = w := by
  refine cps fun Q hQ => ?_
  cases ones
  · go_enter Tryz.func67, Tryz.ntmps67
    go_wp2
    exact hQ.out _ _ ⟨ret_i rfl, rfl⟩
  · go_enter Tryz.func67, Tryz.ntmps67
    go_wp2
    exact hQ.out _ _ ⟨ret_i rfl, rfl⟩
theorem croom_any (n run : Nat) (hn : n ≤ 64) (h2 : run ≤ 64) (w : World) :
    Calls Tryz.prog 68 #[.int .i64 n, .int .i64 run] w fun e w' => e = .returned (.tuple #[.int .i64 (min (n - 2 - run) 2 : Nat), .int .i64 (n - 2 - run - min (n - 2 - run) 2 : Nat)]) ∧ w' = w := by
  refine cps fun Q hQ => ?_
  obtain ⟨q, hq⟩ : ∃ q, q = n - 2 - run := ⟨_, rfl⟩
  rw [← hq] at hQ
  obtain ⟨E, hE⟩ : ∃ E, E = min q 2 := ⟨_, rfl⟩
  rw [← hE] at hQ
  have HQ2 : Hid (q = n - 2 - run ∧ E = min q 2) := ⟨hq, hE⟩
  clear hq hE
  go_enter Tryz.func68, Tryz.ntmps68
  go_wp2
  all_goals
    obtain ⟨h3, h4⟩ := HQ2.out
    exact hQ.out _ _ ⟨ret_ii (by omega) (by omega), rfl⟩
end Go.Proofs.YtheliihkkoohnabGreat

namespace Go.Proofs.YtheliihkkoohnabGreat
open Go.ChangeShapes Go.WideShapes Go.ChangeAt Go.RowKit
set_option linter.unusedVariables false
set_option linter.unusedSimpArgs false
set_option maxRecDepth 100000

/-! ### assemble -/
theorem isField_nat {a m : Nat} (h : a + m ≤ 64) : isField a m = true := by simp [isField]; omega
end Go.Proofs.YtheliihkkoohnabGreat

namespace Go.Proofs.YtheliihkkoohnabGreat
open Go.ChangeShapes Go.WideShapes Go.ChangeAt Go.RowKit
set_option linter.unusedVariables false
set_option linter.unusedSimpArgs false
set_option maxRecDepth 100000

/-! ### Split -/
abbrev codeV (c : Int) : Value := .iface 29 (.int .i64 c)
theorem crun_str (n y : Nat) (hn : Wd n) (t : List Bool) (hl : t.length = n - 1) (hy : y % 2 ^ (n - 1) = numOf t) (M : Int) (hM : M = (n : Int) - 1) (w : World) :
    Calls Tryz.prog 66 #[.int .u64 y, .int .i64 M] w fun e w' => e = .returned (.tuple #[.bool (onesL t), .int .i64 (runL t : Nat), .nilIface]) ∧ w' = w := by
  have hw := wd_le hn
  have := lrun_ok y (n - 1) (by omega) (by omega) w
  rw [show (((n - 1 : Nat) : Int)) = M by omega] at this
  refine this.mono ?_
  rintro e w' ⟨b, k, rfl, hr, rfl⟩
  obtain ⟨rfl, rfl⟩ := hr.one (run_field t y (n - 1) (by omega) hl hy)
  exact ⟨rfl, rfl⟩
theorem cfield_nat (y a m : Nat) (hy : y < 2 ^ 64) (h : a + m ≤ 64) (A : Int) (hA : A = a) (w : World) :
    Calls Tryz.prog 69 #[.int .u64 y, .int .i64 A, .int .i64 m] w fun e w' => e = .returned (.tuple #[.int .u64 (fieldOf y a m : Nat), .nilIface]) ∧ ∃ q, w' = w.drewN q := by
  subst hA
  have := lfield_ok y a m hy (isField_nat h) w
  rwa [Int.toNat_natCast, Int.toNat_natCast] at this
theorem strS_word (n x : Nat) (hn : Wd n) (hx : x < 2 ^ 64) : (if x.testBit (n - 1) then minusU x else x) % 2 ^ (n - 1) = numOf (strS n x) := by
  have hw := wd_le hn
  have drop1 : ∀ y, numOf ((bitsOf y n).drop 1) = y % 2 ^ (n - 1) := fun y => by
    have := bits_drop1 y n (by omega)
    rw [this, numOf_bits]
  unfold strS
  cases x.testBit (n - 1)
  · simp only [Bool.false_eq_true, if_false]; rw [drop1]
  · simp only [if_true]; rw [drop1]
theorem ext_neg (n x : Nat) (hn : Wd n) : decide (extOf x n < 0) = x.testBit (n - 1) := by
  have h := Nat.mod_lt x (show 0 < 2 ^ n from Nat.pos_of_ne_zero (by simp))
  unfold extOf
  cases x.testBit (n - 1)
  · exact decide_eq_false (by simp only [Bool.toNat_false, Nat.zero_mul]; omega)
  · exact decide_eq_true (by simp only [Bool.toNat_true, Nat.one_mul]; omega)
set_option maxHeartbeats 1000000 in
theorem csplit_real (n x : Nat) (hn : Wd n) (hx : x < 2 ^ 64) (hk : kindOf n (x % 2 ^ n) = 1) (w : World) :
    Calls Tryz.prog 51 #[.int .i64 n, .int .u64 x] w fun e w' => e = .returned (.tuple #[fdV (x.testBit (n - 1)) (strS n x), .nilIface]) ∧ Below w.heap.size w w' := by
  have k1 := kind_ok n x hn hx
  rw [hk] at k1
  have hw := wd_le hn
  have hlen := strS_length n x
  have k2 := rank_ok n x hn
  have hneg := ext_neg n x hn
  have hm := minusU_wrap x hx
  have hyw := strS_word n x hn hx
  obtain ⟨y, hy⟩ : ∃ y, y = (if x.testBit (n - 1) then minusU x else x) := ⟨_, rfl⟩
  rw [← hy] at hyw
  have hy64 : y < 2 ^ 64 := by rw [hy]; split; exact minusU_lt _; exact hx
  have k3 := fun M hM w => crun_str n y hn (strS n x) hlen hyw M hM w
  replace k3 := k3 ((n : Int) - 1) rfl
  have hrl := runL_le (strS n x)
  have hrl2 := restL_length (strS n x)
  have hr1 : 1 ≤ runL (strS n x) := by
    have := (run_field (strS n x) y (n - 1) (by omega) hlen hyw).low
    exact this
  rw [hlen] at hrl hrl2
  obtain ⟨r, hr⟩ : ∃ r, r = runL (strS n x) := ⟨_, rfl⟩
  obtain ⟨E, hE⟩ : ∃ E, E = min (n - 2 - r) 2 := ⟨_, rfl⟩
  obtain ⟨F, hF⟩ : ∃ F, F = n - 2 - r - E := ⟨_, rfl⟩
  obtain ⟨d, hd⟩ : ∃ d, d = 2 - E := ⟨_, rfl⟩
  have hE' : E = min (restL (strS n x)).length 2 := by rw [hrl2, hE, ← hr]; congr 1; omega
  have hF' : F = (restL (strS n x)).length - E := by rw [hrl2, hF, ← hr]; omega
  obtain ⟨f1, f2⟩ := exp_field (strS n x) y (n - 1) E F hlen hyw hE' hF'
  have hex : expL (strS n x) < 4 := by
    have := numOf_lt ((restL (strS n x) ++ noughts 2).take 2)
    rw [show ((restL (strS n x) ++ noughts 2).take 2).length = 2 by simp] at this
    exact this
  have k4 := cregime_any (onesL (strS n x)) (runL (strS n x)) (by omega) (by omega)
  have k5 := croom_any n (runL (strS n x)) hw.2 (by omega)
  rw [← hr] at k3 k4 k5 hrl hr1
  rw [← hE, ← hF] at k5
  have k6 := cfield_nat y F E hy64 (by omega) F rfl
  have k7 := cfield_nat y 0 F hy64 (by omega) 0 rfl
  rw [f2] at k7
  have hev : fieldOf y F E < 4 := by
    have : 0 < 2 ^ (2 - E) := Nat.pos_of_ne_zero (by simp)
    have h := Nat.le_mul_of_pos_right (fieldOf y F E) this
    omega
  have hdd : (2 : Int) - (E : Int) = (d : Int) := by omega
  have hv : fdV (x.testBit (n - 1)) (strS n x) = .agg #[.bool (x.testBit (n - 1)), .bool (onesL (strS n x)), .int .i64 r, .int .i64 (if onesL (strS n x) then (r : Int) - 1 else -(r : Int)), .int .i64 (E : Nat), .int .i64 (expL (strS n x)), .int .i64 (F : Nat), .int .u64 (fracL (strS n x))] := by
    unfold fdV regL
    rw [← hr, ← hE', show (restL (strS n x)).length - 2 = F by omega]
  rw [hv]
  rw [← hd] at f1
  obtain ⟨ex, hexx⟩ : ∃ ex, ex = expL (strS n x) := ⟨_, rfl⟩
  rw [← hexx] at f1 hex
  rw [← hexx]
  have hsh : ((fieldOf y F E : Nat) : Int) * 2 ^ d = (ex : Int) := by rw [← f1]; simp
  have hshw : wrap64 (((fieldOf y F E : Nat) : Int) * 2 ^ d) = (ex : Int) := by rw [hsh]; unfold wrap64; omega
  clear hsh
  have hd2 : d ≤ 2 := by omega
  have hE2 : E ≤ 2 := by omega
  have hF2 : F ≤ 62 := by omega
  have hr2 : r ≤ 63 := by omega
  clear f1 f2 hv hE hF hE' hF' hd hrl hrl2 hr hexx hyw hlen hk
  obtain ⟨b, hb⟩ : ∃ b, b = x.testBit (n - 1) := ⟨_, rfl⟩
  rw [← hb] at hneg hy
  rw [← hb]
  clear hb
  generalize onesL (strS n x) = o at *
  generalize fracL (strS n x) = fr at *
  generalize fieldOf y F E = ev at *
  obtain ⟨rg, hrg⟩ : ∃ rg : Int, rg = (if o then (r : Int) - 1 else -(r : Int)) := ⟨_, rfl⟩
  rw [← hrg] at k4
  rw [← hrg]
  clear hrg
  generalize extOf x n = ext at *
  refine cps fun Q hQ => ?_
  clear hn
  cases b
  · simp only [Bool.false_eq_true, if_false] at hy
    subst hy
    go_enter Tryz.func51, Tryz.ntmps51
    go_wp2_with (first
      | (go_at_call 50; go_must (refine (k1 _).mono ?_); rintro e w1 ⟨rfl, hb1⟩; have R1 := (hb1.block w.heap.size (by simp)).trans (rownew w _ _); have z1 : w.heap.size < w1.heap.size := (by have := hb1.size; simp at this; omega); have HR1 : Hid _ := R1; have HB1 : Hid (Below _ _ _) := hb1; clear hb1 R1)
      | (go_at_call 65; go_must (refine (k2 _).mono ?_); rintro e w2 ⟨rfl, hb2⟩; have R0 := (hb2.block w.heap.size z1).trans HR1.out; have z2 : w.heap.size < w2.heap.size := (Nat.lt_of_lt_of_le z1 hb2.size); have HR0 : Hid _ := R0; have hne1 : ¬ w.heap.size = w2.heap.size := (by omega); have hne2 : ¬ w2.heap.size = w.heap.size := (by omega); have HB2 : Hid (Below _ _ _) := hb2; clear hb2 R0)
      | (go_at_call 66; go_must (refine (k3 _).mono ?_); rintro e w3 ⟨rfl, rfl⟩)
      | (go_at_call 67; go_must (refine (k4 _).mono ?_); rintro e w3 ⟨rfl, rfl⟩)
      | (go_at_call 68; go_must (refine (k5 _).mono ?_); rintro e w3 ⟨rfl, rfl⟩)
      | (go_at_call_of 69 E; go_must (refine (k6 _).mono ?_); rintro e w6 ⟨rfl, q6, hw6⟩; have R6 : w6.heap[w2.heap.size]? = some (.cells #[.bool false, .bool o, .int .i64 r, .int .i64 rg, .int .i64 (E : Nat), .int .i64 0, .int .i64 (F : Nat), .int .u64 0] 70 (0, 0)) := (by rw [hw6]; exact rownew w2 _ _); have B6 : Below w2.heap.size w2 w6 := (by rw [hw6]; exact below_drewN (cmore (Below.refl _ _) _) _); have e0 := rowcell R6 0; have e1 := rowcell R6 1; have e2 := rowcell R6 2; have e3 := rowcell R6 3; have e4 := rowcell R6 4; have e5 := rowcell R6 5; have e6 := rowcell R6 6; have e7 := rowcell R6 7; have ef := rowfree R6; simp only [List.getElem?_toArray, List.getElem?_cons_zero, List.getElem?_cons_succ] at e0 e1 e2 e3 e4 e5 e6 e7; have HR6 : Hid _ := R6; have HB6 : Hid (Below _ _ _) := B6; clear R6 B6 hw6)
      | (go_at_call 69; go_must (refine (k7 _).mono ?_); rintro e w7 ⟨rfl, q7, hw7⟩; have R7 : w7.heap[w2.heap.size]? = some (.cells #[.bool false, .bool o, .int .i64 r, .int .i64 rg, .int .i64 (E : Nat), .int .i64 ex, .int .i64 (F : Nat), .int .u64 0] 70 (0, 0)) := (by rw [hw7]; refine (rowset HR6.out 5 _).trans ?_; simp only [List.setIfInBounds_toArray, List.set_cons_zero, List.set_cons_succ]); have B7 : Below w2.heap.size w2 w7 := (by rw [hw7]; exact below_drewN (cset HB6.out (Nat.le_refl _) _ _) _); have g0 := rowcell R7 0; have g1 := rowcell R7 1; have g2 := rowcell R7 2; have g3 := rowcell R7 3; have g4 := rowcell R7 4; have g5 := rowcell R7 5; have g6 := rowcell R7 6; have g7 := rowcell R7 7; have gf := rowfree R7; simp only [List.getElem?_toArray, List.getElem?_cons_zero, List.getElem?_cons_succ] at g0 g1 g2 g3 g4 g5 g6 g7; have R0 := (B7.block w.heap.size z2).trans HR0.out; have b0 := rowcell R0 0; have b1 := rowcell R0 1; have b2 := rowcell R0 2; have b3 := rowcell R0 3; have b4 := rowcell R0 4; have b5 := rowcell R0 5; have b6 := rowcell R0 6; have b7 := rowcell R0 7; have bf := rowfree R0; simp only [List.getElem?_toArray, List.getElem?_cons_zero, List.getElem?_cons_succ] at b0 b1 b2 b3 b4 b5 b6 b7; have HB7 : Hid (Below _ _ _) := B7; clear R7 B7 R0 hw7 e0 e1 e2 e3 e4 e5 e6 e7 ef))
    have B2 := cthen (cthen (cmore (Below.refl w.heap.size w) _) HB1.out) HB2.out
    have hmw : w.heap.size ≤ w2.heap.size := Nat.le_of_lt z2
    refine bodyPost_ret (v := .tuple #[.agg #[.bool false, .bool o, .int .i64 r, .int .i64 rg, .int .i64 (E : Nat), .int .i64 ex, .int .i64 (F : Nat), .int .u64 fr], .nilIface]) (by simp [results, Tryz.results51, go_sem, b0, b1, b2, b3, b4, b5, b6, b7, bf, hne1, hne2]) rfl (hQ.out _ _ ⟨rfl, ?_⟩)
    exact cset8 (cset (cthen B2 HB7.out) hmw _ _) (Nat.le_refl _)
  · simp only [if_true] at hy
    rw [← hy] at hm
    clear hy
    go_enter Tryz.func51, Tryz.ntmps51
    go_wp2_with (first
      | (go_at_call 50; go_must (refine (k1 _).mono ?_); rintro e w1 ⟨rfl, hb1⟩; have R1 := (hb1.block w.heap.size (by simp)).trans (rownew w _ _); have z1 : w.heap.size < w1.heap.size := (by have := hb1.size; simp at this; omega); have HR1 : Hid _ := R1; have HB1 : Hid (Below _ _ _) := hb1; clear hb1 R1)
      | (go_at_call 65; go_must (refine (k2 _).mono ?_); rintro e w2 ⟨rfl, hb2⟩; have R0 := (hb2.block w.heap.size z1).trans HR1.out; have z2 : w.heap.size < w2.heap.size := (Nat.lt_of_lt_of_le z1 hb2.size); have HR0 : Hid _ := R0; have hne1 : ¬ w.heap.size = w2.heap.size := (by omega); have hne2 : ¬ w2.heap.size = w.heap.size := (by omega); have HB2 : Hid (Below _ _ _) := hb2; clear hb2 R0)
      | (go_at_call 66; go_must (refine (k3 _).mono ?_); rintro e w3 ⟨rfl, rfl⟩)
      | (go_at_call 67; go_must (refine (k4 _).mono ?_); rintro e w3 ⟨rfl, rfl⟩)
      | (go_at_call 68; go_must (refine (k5 _).mono ?_); rintro e w3 ⟨rfl, rfl⟩)
      | (go_at_call_of 69 E; go_must (refine (k6 _).mono ?_); rintro e w6 ⟨rfl, q6, hw6⟩; have R6 : w6.heap[w2.heap.size]? = some (.cells #[.bool true, .bool o, .int .i64 r, .int .i64 rg, .int .i64 (E : Nat), .int .i64 0, .int .i64 (F : Nat), .int .u64 0] 70 (0, 0)) := (by rw [hw6]; exact rownew w2 _ _); have B6 : Below w2.heap.size w2 w6 := (by rw [hw6]; exact below_drewN (cmore (Below.refl _ _) _) _); have e0 := rowcell R6 0; have e1 := rowcell R6 1; have e2 := rowcell R6 2; have e3 := rowcell R6 3; have e4 := rowcell R6 4; have e5 := rowcell R6 5; have e6 := rowcell R6 6; have e7 := rowcell R6 7; have ef := rowfree R6; simp only [List.getElem?_toArray, List.getElem?_cons_zero, List.getElem?_cons_succ] at e0 e1 e2 e3 e4 e5 e6 e7; have HR6 : Hid _ := R6; have HB6 : Hid (Below _ _ _) := B6; clear R6 B6 hw6)
      | (go_at_call 69; go_must (refine (k7 _).mono ?_); rintro e w7 ⟨rfl, q7, hw7⟩; have R7 : w7.heap[w2.heap.size]? = some (.cells #[.bool true, .bool o, .int .i64 r, .int .i64 rg, .int .i64 (E : Nat), .int .i64 ex, .int .i64 (F : Nat), .int .u64 0] 70 (0, 0)) := (by rw [hw7]; refine (rowset HR6.out 5 _).trans ?_; simp only [List.setIfInBounds_toArray, List.set_cons_zero, List.set_cons_succ]); have B7 : Below w2.heap.size w2 w7 := (by rw [hw7]; exact below_drewN (cset HB6.out (Nat.le_refl _) _ _) _); have g0 := rowcell R7 0; have g1 := rowcell R7 1; have g2 := rowcell R7 2; have g3 := rowcell R7 3; have g4 := rowcell R7 4; have g5 := rowcell R7 5; have g6 := rowcell R7 6; have g7 := rowcell R7 7; have gf := rowfree R7; simp only [List.getElem?_toArray, List.getElem?_cons_zero, List.getElem?_cons_succ] at g0 g1 g2 g3 g4 g5 g6 g7; have R0 := (B7.block w.heap.size z2).trans HR0.out; have b0 := rowcell R0 0; have b1 := rowcell R0 1; have b2 := rowcell R0 2; have b3 := rowcell R0 3; have b4 := rowcell R0 4; have b5 := rowcell R0 5; have b6 := rowcell R0 6; have b7 := rowcell R0 7; have bf := rowfree R0; simp only [List.getElem?_toArray, List.getElem?_cons_zero, List.getElem?_cons_succ] at b0 b1 b2 b3 b4 b5 b6 b7; have HB7 : Hid (Below _ _ _) := B7; clear R7 B7 R0 hw7 e0 e1 e2 e3 e4 e5 e6 e7 ef))
    have B2 := cthen (cthen (cmore (Below.refl w.heap.size w) _) HB1.out) HB2.out
    have hmw : w.heap.size ≤ w2.heap.size := Nat.le_of_lt z2
    refine bodyPost_ret (v := .tuple #[.agg #[.bool true, .bool o, .int .i64 r, .int .i64 rg, .int .i64 (E : Nat), .int .i64 ex, .int .i64 (F : Nat), .int .u64 fr], .nilIface]) (by simp [results, Tryz.results51, go_sem, b0, b1, b2, b3, b4, b5, b6, b7, bf, hne1, hne2]) rfl (hQ.out _ _ ⟨rfl, ?_⟩)
    exact cset8 (cset (cthen B2 HB7.out) hmw _ _) (Nat.le_refl _)
end Go.Proofs.YtheliihkkoohnabGreat

namespace Go.Proofs.YtheliihkkoohnabGreat
open Go.ChangeShapes Go.WideShapes Go.ChangeAt Go.RowKit
set_option linter.unusedVariables false
set_option linter.unusedSimpArgs false
set_option maxRecDepth 100000

/-! ### Decode -/
theorem cdecode_other (n x : Nat) (hn : Wd n) (hx : x < 2 ^ 64) (hk : kindOf n (x % 2 ^ n) ≠ 1) (w : World) :
    Calls Tryz.prog 31 #[.int .i64 n, .int .u64 x] w fun e w' => e = .returned (.tuple #[numV (kindOf n (x % 2 ^ n)) false 0 0, .nilIface]) ∧ Below w.heap.size w w' := by
  have k1 := kind_ok n x hn hx
  generalize kindOf n (x % 2 ^ n) = k at *
  clear hn
  refine cps fun Q hQ => ?_
  have hd : (k == 1) = false := beq_eq_false_iff_ne.2 hk
  go_enter Tryz.func31, Tryz.ntmps31
  go_wp2_with (go_at_call 50; refine (k1 _).mono ?_; rintro e w1 ⟨rfl, hb1⟩; have hc := fun b o h => hb1.cell (p := ⟨b, o, none⟩) h; have hf := fun b o h => hb1.frozen (p := ⟨b, o, none⟩) h; have hz := hb1.size; simp at hz; have hz' : w.heap.size < w1.heap.size := hz)
  refine bodyPost_ret (v := .tuple #[numV k false 0 0, .nilIface]) (by simp [results, Tryz.results31, go_sem, hc, hz', numV]) rfl (hQ.out _ _ ⟨rfl, ?_⟩)
  exact cset4 (cthen (cmore (Below.refl _ _) _) hb1) (Nat.le_refl _)
theorem cdecode_no (n : Int) (x : Nat) (hn : isW n = false) (w : World) :
    Calls Tryz.prog 31 #[.int .i64 n, .int .u64 x] w fun e w' => e = .returned (.tuple #[numV 0 false 0 0, codeV 2]) ∧ Below w.heap.size w w' := by
  have k1 := kind_no n x hn
  clear hn
  refine cps fun Q hQ => ?_
  go_enter Tryz.func31, Tryz.ntmps31
  go_wp2_with (go_at_call 50; refine (k1 _).mono ?_; rintro e w1 ⟨rfl, hb1⟩; have hc := fun b o h => hb1.cell (p := ⟨b, o, none⟩) h; have hf := fun b o h => hb1.frozen (p := ⟨b, o, none⟩) h; have hz := hb1.size; simp at hz; have hz' : w.heap.size < w1.heap.size := hz)
  refine bodyPost_ret (v := .tuple #[numV 0 false 0 0, codeV 2]) (by simp [results, Tryz.results31, go_sem, hc, hz', numV]) rfl (hQ.out _ _ ⟨rfl, ?_⟩)
  exact cset4 (cthen (cmore (Below.refl _ _) _) hb1) (Nat.le_refl _)
theorem word_frac (t : List Bool) (h : (restL t).length ≤ 63) : wordL t = 9223372036854775808 + fracL t * 2 ^ (63 - ((restL t).length - 2)) ∧ fracL t * 2 ^ (63 - ((restL t).length - 2)) < 9223372036854775808 := by
  have hl : ((restL t).drop 2).length = (restL t).length - 2 := by rw [List.length_drop]
  have e : ((restL t).drop 2 ++ noughts 63).take 63 = (restL t).drop 2 ++ noughts (63 - ((restL t).length - 2)) := by
    rw [List.take_append, List.take_of_length_le (by omega), take_noughts _ _ (by omega), hl]
  have h2 := numOf_lt ((restL t).drop 2 ++ noughts (63 - ((restL t).length - 2)))
  have h3 : ((restL t).drop 2 ++ noughts (63 - ((restL t).length - 2))).length = 63 := by
    rw [List.length_append, hl, List.length_replicate]; omega
  rw [h3, numOf_append, numOf_noughts, List.length_replicate] at h2
  refine ⟨?_, h2⟩
  unfold wordL fracL
  rw [e, numOf_cons, h3, numOf_append, numOf_noughts, List.length_replicate]
  rfl
theorem word_or (X : Nat) (h : X < 9223372036854775808) : bits BinOp.or IntKind.u64 9223372036854775808 (X : Int) = ((9223372036854775808 + X : Nat) : Int) := by
  have := u64_or_nat 9223372036854775808 X (by decide) (by omega)
  rw [show ((9223372036854775808 : Nat) : Int) = 9223372036854775808 from rfl] at this
  rw [this]
  congr 1
  have e := Nat.two_pow_add_eq_or_of_lt (i := 63) (b := X) h 1
  rw [show 2 ^ 63 * 1 = 9223372036854775808 by decide] at e
  exact e.symm
set_option maxHeartbeats 1000000 in
theorem cdecode_real (n x : Nat) (hn : Wd n) (hx : x < 2 ^ 64) (hk : kindOf n (x % 2 ^ n) = 1) (w : World) :
    Calls Tryz.prog 31 #[.int .i64 n, .int .u64 x] w fun e w' => e = .returned (.tuple #[numV 1 (x.testBit (n - 1)) (scaleL (strS n x)) (wordL (strS n x)), .nilIface]) ∧ Below w.heap.size w w' := by
  have k1 := kind_ok n x hn hx
  have k2 := csplit_real n x hn hx hk
  rw [hk] at k1
  have hw := wd_le hn
  have hlen := strS_length n x
  obtain ⟨hw1, hw2⟩ := word_frac (strS n x) (by rw [restL_length, hlen]; omega)
  have hfb : (restL (strS n x)).length - 2 ≤ 61 := by rw [restL_length, hlen]; omega
  have hrg : -64 ≤ regL (strS n x) ∧ regL (strS n x) ≤ 64 := by
    have := runL_le (strS n x)
    unfold regL; split <;> omega
  have hex : expL (strS n x) < 4 := by
    have := numOf_lt ((restL (strS n x) ++ noughts 2).take 2)
    rw [show ((restL (strS n x) ++ noughts 2).take 2).length = 2 by simp] at this
    exact this
  unfold fdV at k2
  unfold scaleL
  have hor := word_or _ hw2
  rw [← hw1] at hor
  obtain ⟨d, hd⟩ : ∃ d, d = 63 - ((restL (strS n x)).length - 2) := ⟨_, rfl⟩
  rw [← hd] at hor hw2
  have hdd : (63 : Int) - (((restL (strS n x)).length - 2 : Nat) : Int) = (d : Int) := by omega
  have hd63 : d ≤ 63 := by omega
  clear hn hx hk hlen hw hw1 hd
  generalize onesL (strS n x) = o at *
  generalize runL (strS n x) = r at *
  generalize regL (strS n x) = reg at *
  generalize expL (strS n x) = ex at *
  generalize fracL (strS n x) = fr at *
  generalize wordL (strS n x) = wd at *
  generalize (restL (strS n x)).length - 2 = fb at *
  generalize min (restL (strS n x)).length 2 = eb at *
  have hsc : IntKind.i64.wrap (IntKind.i64.wrap (reg * 4) + (ex : Int)) = 4 * reg + ex := by
    rw [wrapI (n := reg * 4) (by omega), wrapI (by omega)]; omega
  have hsh : IntKind.u64.wrap ((fr : Int) * 2 ^ d) = ((fr * 2 ^ d : Nat) : Int) := by
    have e : ((fr : Int) * 2 ^ d) = ((fr * 2 ^ d : Nat) : Int) := by simp
    rw [e, wrapN, Nat.mod_eq_of_lt (by omega)]
  generalize fr * 2 ^ d = X at *
  refine cps fun Q hQ => ?_
  generalize x.testBit (n - 1) = b at *
  go_enter Tryz.func31, Tryz.ntmps31
  go_wp2_with (first
    | (go_at_call 50; refine (k1 _).mono ?_; rintro e w1 ⟨rfl, hb1⟩; have HB1 : Hid (Below _ _ _) := hb1; clear hb1)
    | (go_at_call 51; refine (k2 _).mono ?_; rintro e w2 ⟨rfl, hb2⟩; have z1 : w.heap.size < w1.heap.size := (by have := HB1.out.size; simp at this; omega); have z2 := hb2.size; have R0 := (Below.heap_alloc w2 (.cells #[.bool b, .bool o, .int .i64 r, .int .i64 reg, .int .i64 (eb : Nat), .int .i64 ex, .int .i64 (fb : Nat), .int .u64 fr] 70) _ (by omega)).trans ((hb2.block _ z1).trans ((HB1.out.block _ (by simp)).trans (rownew w _ _))); have BW : Hid (Below _ _ _) := cmore (cthen (cthen (cmore (Below.refl _ _) _) HB1.out) hb2) (.cells #[.bool b, .bool o, .int .i64 r, .int .i64 reg, .int .i64 (eb : Nat), .int .i64 ex, .int .i64 (fb : Nat), .int .u64 fr] 70); have z3 : w.heap.size < w2.heap.size := (by omega); clear hb2 z2; have HR0 : Hid _ := R0; clear R0))
  obtain ⟨g, hg⟩ : ∃ g, g = w2.heap.size := ⟨_, rfl⟩
  have RF := rownew' w2 #[.bool b, .bool o, .int .i64 r, .int .i64 reg, .int .i64 (eb : Nat), .int .i64 ex, .int .i64 (fb : Nat), .int .u64 fr] 70 g hg
  rw [← hg]
  generalize w2.alloc (.cells #[.bool b, .bool o, .int .i64 r, .int .i64 reg, .int .i64 (eb : Nat), .int .i64 ex, .int .i64 (fb : Nat), .int .u64 fr] 70) = W at *
  have x0 := rowcell RF 0
  have x3 := rowcell RF 3
  have x5 := rowcell RF 5
  have x6 := rowcell RF 6
  have x7 := rowcell RF 7
  have b0 := rowcell HR0.out 0
  have b1 := rowcell HR0.out 1
  have b2 := rowcell HR0.out 2
  have b3 := rowcell HR0.out 3
  have bf := rowfree HR0.out
  simp only [List.getElem?_toArray, List.getElem?_cons_zero, List.getElem?_cons_succ] at x0 x3 x5 x6 x7 b0 b1 b2 b3
  have gw : IntKind.i64.wrap (63 - (fb : Int)) = (d : Int) := by rw [wrapI (by omega), hdd]
  have hgw : w.heap.size ≠ g := by omega
  have hab : ∀ o o' : Nat, (⟨w.heap.size, o, none⟩ : Addr) ≠ ⟨g, o', none⟩ := fun o o' e => hgw (congrArg Addr.block e)
  have far : ∀ (W1 : World) (u0 u1 u2 u3 : Value) (o : Nat), ((((W1.setCell ⟨w.heap.size, 0, none⟩ u0).setCell ⟨w.heap.size, 1, none⟩ u1).setCell ⟨w.heap.size, 2, none⟩ u2).setCell ⟨w.heap.size, 3, none⟩ u3).drew.cell? ⟨g, o, none⟩ = W1.cell? ⟨g, o, none⟩ := fun W1 u0 u1 u2 u3 o => by
    show ((((W1.setCell ⟨w.heap.size, 0, none⟩ u0).setCell ⟨w.heap.size, 1, none⟩ u1).setCell ⟨w.heap.size, 2, none⟩ u2).setCell ⟨w.heap.size, 3, none⟩ u3).cell? ⟨g, o, none⟩ = W1.cell? ⟨g, o, none⟩
    rw [World.cell?_setCell_other _ _ _ _ (hab _ _), World.cell?_setCell_other _ _ _ _ (hab _ _), World.cell?_setCell_other _ _ _ _ (hab _ _), World.cell?_setCell_other _ _ _ _ (hab _ _)]
  clear k1 k2 hg hdd
  have gd : (0 : Int) ≤ (d : Int) := Int.natCast_nonneg d
  refine wpC_region (fun W => W.cell? ⟨g, 0, none⟩ = some (.bool b) ∧ W.cell? ⟨g, 3, none⟩ = some (.int .i64 reg) ∧ W.cell? ⟨g, 5, none⟩ = some (.int .i64 ex) ∧ W.cell? ⟨g, 6, none⟩ = some (.int .i64 (fb : Nat)) ∧ W.cell? ⟨g, 7, none⟩ = some (.int .u64 fr)) (by kernel_rfl) ?_
  refine wpC_take 0 (v := ?_) rfl (by kernel_rfl) (fun _ _ _ h => h) (by kernel_rfl) ?_ ?_; rotate_left; · (intro wC hC; obtain ⟨c0, c3, c5, c6, c7⟩ := hC; go_simp <;> with_reducible rfl)
  refine wpC_take 1 (v := ?_) rfl (by kernel_rfl) (fun _ _ _ h => h) (by kernel_rfl) ?_ ?_; rotate_left; · (intro wC hC; obtain ⟨c0, c3, c5, c6, c7⟩ := hC; go_simp <;> with_reducible rfl)
  refine wpC_take 2 (v := ?_) rfl (by kernel_rfl) (fun _ _ _ h => h) (by kernel_rfl) ?_ ?_; rotate_left; · (intro wC hC; obtain ⟨c0, c3, c5, c6, c7⟩ := hC; go_simp <;> with_reducible rfl)
  refine wpC_take 3 (v := ?_) rfl (by kernel_rfl) (fun _ _ _ h => h) (by kernel_rfl) ?_ ?_; rotate_left; · (intro wC hC; obtain ⟨c0, c3, c5, c6, c7⟩ := hC; go_simp <;> with_reducible rfl)
  refine wpC_take 4 (v := ?_) rfl (by kernel_rfl) (fun _ _ _ h => h) (by kernel_rfl) ?_ ?_; rotate_left; · (intro wC hC; obtain ⟨c0, c3, c5, c6, c7⟩ := hC; go_simp <;> with_reducible rfl)
  refine wpC_take 5 (v := ?_) rfl (by kernel_rfl) (fun _ _ _ h => h) (by kernel_rfl) ?_ ?_; rotate_left; · (intro wC hC; obtain ⟨c0, c3, c5, c6, c7⟩ := hC; go_simp <;> with_reducible rfl)
  refine wpC_take 6 (v := ?_) rfl (by kernel_rfl) (fun _ _ _ h => h) (by kernel_rfl) ?_ ?_; rotate_left; · (intro wC hC; obtain ⟨c0, c3, c5, c6, c7⟩ := hC; go_simp <;> with_reducible rfl)
  refine wpC_take 7 (v := ?_) rfl (by kernel_rfl) (fun _ _ _ h => h) (by kernel_rfl) ?_ ?_; rotate_left; · (intro wC hC; obtain ⟨c0, c3, c5, c6, c7⟩ := hC; go_simp <;> with_reducible rfl)
  refine wpC_take 8 (v := ?_) rfl (by kernel_rfl) (fun _ _ _ h => h) (by kernel_rfl) ?_ ?_; rotate_left; · (intro wC hC; obtain ⟨c0, c3, c5, c6, c7⟩ := hC; go_simp <;> with_reducible rfl)
  refine wpC_take 9 (v := ?_) rfl (by kernel_rfl) (fun _ _ _ h => h) (by kernel_rfl) ?_ ?_; rotate_left; · (intro wC hC; obtain ⟨c0, c3, c5, c6, c7⟩ := hC; go_simp <;> with_reducible rfl)
  refine wpC_take 10 (v := ?_) rfl (by kernel_rfl) (fun _ _ _ h => h) (by kernel_rfl) ?_ ?_; rotate_left; · (intro wC hC; obtain ⟨c0, c3, c5, c6, c7⟩ := hC; go_simp <;> with_reducible rfl)
  refine wpC_take 11 (v := ?_) rfl (by kernel_rfl) (fun _ _ _ h => h) (by kernel_rfl) ?_ ?_; rotate_left; · (intro wC hC; obtain ⟨c0, c3, c5, c6, c7⟩ := hC; go_simp <;> with_reducible rfl)
  refine wpC_take 12 (v := ?_) rfl (by kernel_rfl) (fun _ _ _ h => h) (by kernel_rfl) ?_ ?_; rotate_left; · (intro wC hC; obtain ⟨c0, c3, c5, c6, c7⟩ := hC; go_simp <;> with_reducible rfl)
  refine wpC_take 13 (v := ?_) rfl (by kernel_rfl) (fun _ _ _ h => h) (by kernel_rfl) ?_ ?_; rotate_left; · (intro wC hC; obtain ⟨c0, c3, c5, c6, c7⟩ := hC; go_simp <;> with_reducible rfl)
  refine wpC_take 14 (v := ?_) rfl (by kernel_rfl) (fun _ _ _ h => h) (by kernel_rfl) ?_ ?_; rotate_left; · (intro wC hC; obtain ⟨c0, c3, c5, c6, c7⟩ := hC; go_simp <;> with_reducible rfl)
  refine wpC_take 15 (v := ?_) rfl (by kernel_rfl) (fun _ _ _ h => h) (by kernel_rfl) ?_ ?_; rotate_left; · (intro wC hC; obtain ⟨c0, c3, c5, c6, c7⟩ := hC; go_simp <;> with_reducible rfl)
  refine wpC_step 16 rfl (by kernel_rfl) (by kernel_rfl) ⟨x0, x3, x5, x6, x7⟩ (fun K hK => ?_)
  go_simp
  try (refine hK _ _ ?_; clear hK K)
  refine wpC_take 17 (v := ?_) rfl (by kernel_rfl) (fun _ _ _ h => h) (by kernel_rfl) ?_ ?_; rotate_left; · (intro wC hC; obtain _ := hC; go_simp <;> with_reducible rfl)
  refine wpC_done (by kernel_rfl) ⟨(far _ _ _ _ _ _).trans x0, (far _ _ _ _ _ _).trans x3, (far _ _ _ _ _ _).trans x5, (far _ _ _ _ _ _).trans x6, (far _ _ _ _ _ _).trans x7⟩ ?_
  go_wp2
  refine bodyPost_ret (v := .tuple #[numV 1 b (4 * reg + ex) wd, .nilIface]) (by simp [results, Tryz.results31, go_sem, b0, b1, b2, b3, numV]) rfl (hQ.out _ _ ⟨rfl, ?_⟩)
  exact cdrew (cset4 BW.out (Nat.le_refl _))
end Go.Proofs.YtheliihkkoohnabGreat

namespace Go.Proofs.YtheliihkkoohnabGreat
open Go.ChangeShapes Go.WideShapes Go.ChangeAt Go.RowKit
set_option linter.unusedVariables false
set_option linter.unusedSimpArgs false
set_option maxRecDepth 100000

/-! ### what is assembled -/
/-! ### parts -/
end Go.Proofs.YtheliihkkoohnabGreat
