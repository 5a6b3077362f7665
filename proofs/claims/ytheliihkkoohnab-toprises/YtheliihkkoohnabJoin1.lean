import Derived.WalkKit
import Derived.WalkLawsBesides
import Derived.WalkSpells
import Derived.ProofKit
import Derived.OpenShut
import Derived.Deep.QuietTactic
import Derived.BigQuiet
import Derived.Deep.RegionWith
import Derived.Test.YtheliihkkoohnabRows
import Derived.Lib.BitFns
import Derived.Lib.Tables
import Derived.Lib.IfaceEq
import Derived.Deep.RegionLaw
import Derived.Deep.CutBlock
import Derived.Deep.CutRange
import Derived.Test.YtheliihkkoohnabProg
import Derived.OwnWalk
import Derived.Lib.SmallJoins
namespace Go.Proofs.Ytheliihkkoohnab
set_option maxRecDepth 100000
open Go.ChangeShapes Go.WideShapes Go.ChangeAt Go.RowKit

theorem cps {P : Program} {f : FuncId} {args : Array Value} {w : World} {R : Ending → World → Prop}
    (h : ∀ Q, Hid (∀ e w', R e w' → Q e w') → Calls P f args w Q) : Calls P f args w R := h R (fun _ _ h => h)

/-- the world of a pure call: some draws, nothing else -/
theorem below_drewN {B : Nat} {a w : World} (h : Below B a w) (n : Nat) : Below B a (w.drewN n) := ⟨h.os, h.tape, h.output, h.size, h.block⟩

/-! ### append of one element -/
theorem append1 {P : Program} {w0 : World} {ops : Array Oper} {rest : List Oper} {o : Oper} {a : Act} {Q : Exit → Act → World → Prop} {u : Value} (hgd : o.guard = none) (s x : Operand) (t : TypeId)
    (ho : o.op = .call { callee := .builtin .append, args := #[s, x], argTypes := #[t, t] })
    (base : Nat) (e : TypeId) (i : TypeInfo) (z : Value) (bytes : Nat) (ht : P.underlying t = some (.slice e)) (hi : P.info? e = some i) (hz : i.zero = some z)
    (hsize : i.size = 1) (hby : i.bytes = bytes) (hzs : z.cells.size = 1)
    (v : Value) (n : Nat) (xs : List Value) (hown : w0.ownsRow base e 1 v n xs) (hs : a.eval s = v) (hu : u.oneCell' = true)
    (hx : a.eval x = .slice (some ⟨w0.heap.size, 0, none⟩) 1 1)
    (hbytes : (n + 1) * bytes ≤ 140737488355328) (hb1 : 0 < bytes) (hbase : base ≤ w0.heap.size)
    (h : ∀ v' w', w'.ownsRow base e 1 v' (n + 1) (xs ++ [u]) → Below base w0 w' → v' ≠ .slice none 0 0 → w0.grownBy w' v.ownBlock → wpList P ops Q rest (a.put o.dst v') w') :
    wpList P ops Q (o :: rest) a (w0.alloc (.cells #[u] e)) := by
  have hle : n + 1 ≤ (n + 1) * bytes := Nat.le_mul_of_pos_right _ hb1
  refine wpList_append_own _ hgd s x t ho base e i z 1 bytes ht hi hz hsize hby hzs (by decide) v n xs hs (hown.alloc _) ⟨w0.heap.size, 0, none⟩ 1 1 [u] hx rfl ?_ ?_ ?_ hbytes ?_ ?_
  · intro j y hj
    match j, hj with
    | 0, hj => simp at hj; subst hj; simp [Addr.add]
  · intro y hy; simp at hy; subst hy; exact hu
  · unfold maxLen; omega
  · simp; omega
  · intro v' w' h1 h2 h3
    have hlt := hown.lt
    refine h v' w' h1 (((Below.refl base w0).alloc hbase _).grown h2 (by simp; omega) (fun k hk => (hlt k hk).1)) ?_ ?_
    · intro hv; have := (h3.1 hv).2; omega
    · exact ⟨h2.os, h2.tape, h2.output, Nat.le_trans (by simp) h2.size, fun k hk hne => (h2.block k (by simp; omega) hne).trans (Below.heap_alloc w0 _ _ hk)⟩

/-- 'string(b)', b a row of the call's own -/
theorem run_convert_own {P : Program} {w : World} {base : Nat} {src dst e : TypeId} {v : Value} {n : Nat} (l : List UInt8) (hown : w.ownsRow base e 1 v n (l.map fun b => .int .u8 b.toNat))
    (hs : P.underlying src = some (.slice e)) (he : P.underlying e = some (.int .u8)) (hd : P.underlying dst = some .string) :
    (convert src dst v).run P w = .ok (.string ⟨l.toArray⟩) w := by
  obtain ⟨h1, h2⟩ := hown
  rcases h2 with ⟨rfl, rfl⟩ | ⟨g, cap, cur, rfl, _, hg, hn, _, hsz, ht⟩
  · have hl : l = [] := by simpa using h1
    subst hl
    exact run_convert_bytes_nil w src e hs he 0 0 dst hd
  · have hl : l.length = n := by simpa using h1
    subst hl
    refine run_convert_bytes_back w src dst e _ cap l hs he hd ?_
    intro j hj
    have hc : cur[j]? = some (.int .u8 (l[j].toNat : Int)) := by
      have e1 : (cur.toList.take (l.length * 1))[j]? = (l.map fun b => Value.int .u8 (b.toNat : Int))[j]? := by rw [ht]
      rw [List.getElem?_take_of_lt (by omega)] at e1
      simpa [hj] using e1
    unfold Addr.add; split <;> simp_all [World.cell?]

/-! ### words -/
theorem ext64 {a b : Nat} (ha : a < 2^64) (hb : b < 2^64) (h : ∀ i, i < 64 → a.testBit i = b.testBit i) : a = b := by
  apply Nat.eq_of_testBit_eq
  intro i
  by_cases hi : i < 64
  · exact h i hi
  · rw [Nat.testBit_lt_two_pow (Nat.lt_of_lt_of_le ha (Nat.pow_le_pow_right (by decide) (by omega))), Nat.testBit_lt_two_pow (Nat.lt_of_lt_of_le hb (Nat.pow_le_pow_right (by decide) (by omega)))]
theorem wrapI {n : Int} (h : -9223372036854775808 ≤ n ∧ n ≤ 9223372036854775807) : IntKind.i64.wrap n = n := by simp [IntKind.wrap, IntKind.bits, IntKind.signed]; omega
theorem wrapN (x : Nat) : IntKind.u64.wrap (x : Int) = ((x % 2^64 : Nat) : Int) := by rw [IntKind.wrap_u64]; omega
theorem wrapShl (x k : Nat) : IntKind.u64.wrap ((x : Int) * 2 ^ k) = (((x <<< k) % 2^64 : Nat) : Int) := by
  rw [Nat.shiftLeft_eq, ← wrapN]; simp
theorem shrN (x k : Nat) : (x : Int) / 2 ^ k = ((x >>> k : Nat) : Int) := by rw [Nat.shiftRight_eq_div_pow]; simp
/-- the lowest n bits' mask, as the code reckons it -/
theorem wrapMask (n : Nat) (hn : n ≤ 64) : IntKind.u64.wrap (IntKind.u64.wrap (2 ^ n) - 1) = ((2^n - 1 : Nat) : Int) := by
  have e : ((2:Int) ^ n) = ((2 ^ n : Nat) : Int) := by simp
  rw [e, wrapN]
  rcases Nat.lt_or_ge n 64 with h | h
  · have h1 : 2^n < 2^64 := Nat.pow_lt_pow_right (by decide) h
    have h2 : 0 < 2^n := Nat.pos_of_ne_zero (by simp)
    rw [Nat.mod_eq_of_lt h1, IntKind.wrap_u64]; omega
  · have : n = 64 := by omega
    subst this; rw [IntKind.wrap_u64]; decide
theorem mask_lt (n : Nat) (hn : n ≤ 64) : 2^n - 1 < 2^64 := by
  have : 2^n ≤ 2^64 := Nat.pow_le_pow_right (by decide) hn
  have h2 : 0 < 2^n := Nat.pos_of_ne_zero (by simp)
  omega

/-! ### bits as text -/
def bitByte (b : Bool) : UInt8 := if b then 49 else 48
def IsBits (s : ByteArray) (l : List Bool) : Prop := s.data.toList = l.map bitByte
def bitsOf (x n : Nat) : List Bool := (List.range n).map fun j => x.testBit (n - 1 - j)
def numOf (l : List Bool) : Nat := l.foldl (fun a b => 2 * a + b.toNat) 0
theorem bitsOf_length (x n : Nat) : (bitsOf x n).length = n := by simp [bitsOf]
theorem bitsOf_get (x n j : Nat) (h : j < n) : (bitsOf x n)[j]? = some (x.testBit (n - 1 - j)) := by
  simp [bitsOf, h]
theorem numOf_snoc (l : List Bool) (b : Bool) : numOf (l ++ [b]) = 2 * numOf l + b.toNat := by simp [numOf]
theorem numOf_acc (l : List Bool) (a : Nat) : l.foldl (fun a b => 2 * a + b.toNat) a = a * 2 ^ l.length + numOf l := by
  induction l generalizing a with
  | nil => simp [numOf]
  | cons b l ih => simp only [List.foldl_cons, numOf, List.length_cons]; rw [ih, ih (2 * 0 + b.toNat)]; simp only [Nat.pow_succ]; rw [Nat.add_mul, Nat.add_mul, Nat.add_assoc]; congr 1; rw [Nat.mul_comm (2 ^ l.length) 2, ← Nat.mul_assoc, Nat.mul_comm a 2]; simp
theorem numOf_cons (b : Bool) (l : List Bool) : numOf (b :: l) = b.toNat * 2 ^ l.length + numOf l := by
  have := numOf_acc l (2 * 0 + b.toNat); simpa [numOf] using this
theorem numOf_lt (l : List Bool) : numOf l < 2 ^ l.length := by
  induction l with
  | nil => simp [numOf]
  | cons b l ih => rw [numOf_cons, List.length_cons, Nat.pow_succ]; cases b <;> simp <;> omega
theorem numOf_testBit (l : List Bool) (i : Nat) : (numOf l).testBit i = (decide (i < l.length) && l.getD (l.length - 1 - i) false) := by
  induction l with
  | nil => simp [numOf]
  | cons b l ih =>
    have hlt := numOf_lt l
    rw [numOf_cons, Nat.mul_comm]
    rw [Nat.testBit_two_pow_mul_add _ hlt]
    by_cases h : i < l.length
    · rw [if_pos h, ih]
      have e : l.length + 1 - 1 - i = (l.length - 1 - i) + 1 := by omega
      simp only [List.length_cons, e, List.getD_cons_succ]
      simp [h, Nat.lt_succ_of_lt h]
    · rw [if_neg h]
      by_cases h2 : i = l.length
      · subst h2; cases b <;> simp
      · have h3 : ¬ i < (b :: l).length := by simp; omega
        have h4 : 1 ≤ i - l.length := by omega
        simp only [h3, decide_false, Bool.false_and]
        have : b.toNat < 2 ^ (i - l.length) := Nat.lt_of_lt_of_le (show b.toNat < 2 by cases b <;> decide) (by rw [show (2:Nat) = 2^1 from rfl]; exact Nat.pow_le_pow_right (by decide) h4)
        exact Nat.testBit_lt_two_pow this
/-- shown and read again: the lowest n bits -/
theorem bitsOf_getD (x n j : Nat) : (bitsOf x n).getD j false = (decide (j < n) && x.testBit (n - 1 - j)) := by
  by_cases h : j < n
  · rw [List.getD_eq_getElem?_getD, bitsOf_get x n j h]; simp [h]
  · rw [List.getD_eq_getElem?_getD, List.getElem?_eq_none (by rw [bitsOf_length]; omega)]; simp [h]
theorem isBits_size {s : ByteArray} {l : List Bool} (h : IsBits s l) : s.size = l.length := by
  have := congrArg List.length h; simpa using this
theorem isBits_get {s : ByteArray} {l : List Bool} (h : IsBits s l) (j : Nat) (hj : j < s.size) : s[j] = bitByte (l.getD j false) := by
  have hl := isBits_size h
  have e : s.data.toList[j]? = (l.map bitByte)[j]? := by rw [h]
  rw [List.getElem?_map, List.getElem?_eq_getElem (by simpa using hj), List.getElem?_eq_getElem (by omega)] at e
  simp only [Option.map_some, Option.some.injEq] at e
  rw [List.getD_eq_getElem?_getD, List.getElem?_eq_getElem (by omega)]
  exact e
theorem nat_of_u64 {a : Int} (h : (Lit.int .u64 a).wf = true) : ∃ x : Nat, a = x ∧ x < 2 ^ 64 := by
  have := bounds_u64 h
  exact ⟨a.toNat, by omega, by omega⟩

/-! ### pieces of a text -/
/-! ### results -/
theorem ret_i {k : IntKind} {a b : Int} (h : a = b) : Ending.returned (.int k a) = .returned (.int k b) := by rw [h]
theorem ret_b {a b : Bool} (h : a = b) : Ending.returned (.bool a) = .returned (.bool b) := by rw [h]
theorem ret_ix {k : IntKind} {a b : Int} {u : Value} (h : a = b) : Ending.returned (.tuple #[.int k a, u]) = .returned (.tuple #[.int k b, u]) := by rw [h]
theorem ret_bix {x y : Bool} {k : IntKind} {a b : Int} {u : Value} (g : x = y) (h : a = b) : Ending.returned (.tuple #[.bool x, .int k a, u]) = .returned (.tuple #[.bool y, .int k b, u]) := by rw [g, h]
end Go.Proofs.Ytheliihkkoohnab

namespace Go.Proofs.Ytheliihkkoohnab
set_option maxRecDepth 100000
set_option linter.unusedVariables false
set_option linter.unusedSimpArgs false

/-! ### strings of bits: runs, what they mean, and the string of a number (plain mathematics) -/
abbrev noughts (k : Nat) : List Bool := List.replicate k false
def runL : List Bool → Nat
  | [] => 0
  | b :: l => 1 + (l.takeWhile (· == b)).length
def onesL (l : List Bool) : Bool := l.getD 0 false
def restL (l : List Bool) : List Bool := l.drop (runL l + 1)
def regL (l : List Bool) : Int := if onesL l then (runL l : Int) - 1 else -(runL l : Int)
def expL (l : List Bool) : Nat := numOf ((restL l ++ noughts 2).take 2)
def fracL (l : List Bool) : Nat := numOf ((restL l).drop 2)
def scaleL (l : List Bool) : Int := 4 * regL l + expL l
def wordL (l : List Bool) : Nat := numOf (true :: (((restL l).drop 2) ++ noughts 63).take 63)

theorem takeWhile_rep (b : Bool) (r : Nat) (t : List Bool) (ht : t = [] ∨ ∃ u, t = (!b) :: u) : (List.replicate r b ++ t).takeWhile (· == b) = List.replicate r b := by
  induction r with
  | zero =>
    rcases ht with rfl | ⟨u, rfl⟩
    · rfl
    · cases b <;> rfl
  | succ r ih => rw [List.replicate_succ, List.cons_append, List.takeWhile_cons_of_pos (by simp), ih]
theorem runL_rep (b : Bool) (r : Nat) (t : List Bool) (ht : t = [] ∨ ∃ u, t = (!b) :: u) : runL (List.replicate (r + 1) b ++ t) = r + 1 := by
  rw [List.replicate_succ, List.cons_append, runL, takeWhile_rep b r t ht, List.length_replicate]; omega
theorem onesL_rep (b : Bool) (r : Nat) (t : List Bool) : onesL (List.replicate (r + 1) b ++ t) = b := by
  rw [List.replicate_succ, List.cons_append]; rfl
theorem restL_end (b : Bool) (r : Nat) : restL (List.replicate (r + 1) b) = [] := by
  have := runL_rep b r [] (.inl rfl)
  rw [List.append_nil] at this
  rw [restL, this, List.drop_of_length_le (by simp)]
theorem restL_rep (b : Bool) (r : Nat) (u : List Bool) : restL (List.replicate (r + 1) b ++ (!b) :: u) = u := by
  rw [restL, runL_rep b r _ (.inr ⟨u, rfl⟩), show r + 1 + 1 = (List.replicate (r + 1) b).length + 1 by simp, List.drop_append]
  simp
/-- each string begins with a run -/
theorem split_run (l : List Bool) (h : l ≠ []) : ∃ b r t, l = List.replicate (r + 1) b ++ t ∧ (t = [] ∨ ∃ u, t = (!b) :: u) := by
  induction l with
  | nil => exact absurd rfl h
  | cons a l ih =>
    cases l with
    | nil => exact ⟨a, 0, [], rfl, .inl rfl⟩
    | cons c l =>
      obtain ⟨b, r, t, he, ht⟩ := ih (by simp)
      by_cases hab : a = b
      · subst hab
        exact ⟨a, r + 1, t, by rw [he, List.replicate_succ (n := r + 1), List.cons_append], ht⟩
      · have : b = !a := by cases a <;> cases b <;> simp_all
        subst this
        refine ⟨a, 0, c :: l, rfl, .inr ⟨List.replicate r (!a) ++ t, ?_⟩⟩
        rw [he, List.replicate_succ, List.cons_append]
theorem numOf_append (a b : List Bool) : numOf (a ++ b) = numOf a * 2 ^ b.length + numOf b := by
  have := numOf_acc b (numOf a)
  rw [← this]; simp [numOf]
theorem numOf_noughts (k : Nat) : numOf (noughts k) = 0 := by
  induction k with
  | zero => rfl
  | succ k ih => rw [noughts, List.replicate_succ, numOf_cons]; simpa using ih
theorem bitsOf_numOf (l : List Bool) : bitsOf (numOf l) l.length = l := by
  apply List.ext_getElem?
  intro j
  by_cases hj : j < l.length
  · rw [bitsOf_get _ _ _ hj, List.getElem?_eq_getElem hj, numOf_testBit, show l.length - 1 - (l.length - 1 - j) = j by omega, List.getD_eq_getElem?_getD, List.getElem?_eq_getElem hj]
    simp; omega
  · rw [List.getElem?_eq_none (by rw [bitsOf_length]; omega), List.getElem?_eq_none (by omega)]
theorem numOf_inj {a b : List Bool} (hl : a.length = b.length) (h : numOf a = numOf b) : a = b := by
  rw [← bitsOf_numOf a, ← bitsOf_numOf b, h, hl]
theorem noughts_add (i j : Nat) : noughts i ++ noughts j = noughts (i + j) := by simp [noughts]
theorem take_noughts (i j : Nat) (h : j ≤ i) : (noughts i).take j = noughts j := by simp [noughts, Nat.min_eq_left h]
structure SameL (a b : List Bool) : Prop where
  ones : onesL a = onesL b
  run : runL a = runL b
  exp : expL a = expL b
  word : wordL a = wordL b
theorem SameL.scale {a b : List Bool} (h : SameL a b) : scaleL a = scaleL b := by unfold scaleL regL; rw [h.ones, h.run, h.exp]
/-! ### the string of a number -/
def headK (k : Int) : List Bool := if 0 ≤ k then List.replicate (k.toNat + 1) true ++ [false] else List.replicate (-k).toNat false ++ [true]
def canon (s : Int) (f : Nat) : List Bool := headK (s / 4) ++ bitsOf (s % 4).toNat 2 ++ (bitsOf f 64).drop 1
theorem headK_rep (b : Bool) (r : Nat) : headK (if b then ((r + 1 : Nat) : Int) - 1 else -((r + 1 : Nat) : Int)) = List.replicate (r + 1) b ++ [!b] := by
  cases b
  · simp only [Bool.false_eq_true, if_false, headK]
    rw [if_neg (by omega), show (- -((r + 1 : Nat) : Int)).toNat = r + 1 by omega]; rfl
  · simp only [if_true, headK]
    rw [if_pos (by omega), show (((r + 1 : Nat) : Int) - 1).toNat + 1 = r + 1 by omega]; rfl
theorem headK_form (k : Int) : ∃ b r, headK k = List.replicate (r + 1) b ++ [!b] ∧ k = if b then ((r + 1 : Nat) : Int) - 1 else -((r + 1 : Nat) : Int) := by
  by_cases h : 0 ≤ k
  · refine ⟨true, k.toNat, ?_, ?_⟩
    · rw [headK, if_pos h]; rfl
    · rw [if_pos rfl]; omega
  · refine ⟨false, (-k).toNat - 1, ?_, ?_⟩
    · rw [headK, if_neg h, show (-k).toNat - 1 + 1 = (-k).toNat by omega]; rfl
    · rw [if_neg (by simp)]; omega
theorem numOf_bits (x n : Nat) : numOf (bitsOf x n) = x % 2 ^ n := by
  apply Nat.eq_of_testBit_eq
  intro i
  rw [Nat.testBit_mod_two_pow, numOf_testBit, bitsOf_length, bitsOf_getD]
  by_cases hi : i < n
  · rw [show n - 1 - (n - 1 - i) = i by omega]; simp [hi]; omega
  · simp [hi]
theorem top_word (f : Nat) (h : 9223372036854775808 ≤ f) (h2 : f < 18446744073709551616) : bitsOf f 64 = true :: (bitsOf f 64).drop 1 := by
  have hl : (bitsOf f 64).length = 64 := bitsOf_length _ _
  have hn := numOf_bits f 64
  cases hc : bitsOf f 64 with
  | nil => rw [hc] at hl; cases hl
  | cons b l =>
    rw [hc] at hl hn
    have hl2 : l.length = 63 := by simpa using hl
    have := numOf_lt l
    rw [numOf_cons, hl2] at hn
    rw [hl2] at this
    cases b
    · simp at hn; omega
    · rfl
theorem padE (u : List Bool) (h : u.length ≤ 63) : (u ++ noughts 2).take 2 ++ (u.drop 2 ++ noughts 63).take 63 = u ++ noughts (65 - u.length) := by
  match u with
  | [] => rfl
  | [a] => rfl
  | a :: b :: v =>
    have hv : v.length ≤ 61 := by simpa using h
    simp only [List.cons_append, List.take_succ_cons, List.take_zero, List.drop_succ_cons, List.drop_zero, List.nil_append, List.length_cons]
    congr 2
    rw [List.take_append, List.take_of_length_le (by omega), take_noughts _ _ (by omega)]
    congr 2; omega
/-- and what a string means has that string, noughts behind it -/
theorem canon_parse (t : List Bool) (ht : true ∈ t) (hl : t.length ≤ 64) : ∃ z, canon (scaleL t) (wordL t) = t ++ noughts z ∧ 2 ≤ z := by
  have hne : t ≠ [] := by rintro rfl; cases ht
  have key : ∀ (b : Bool) (r : Nat) (u : List Bool), runL t = r + 1 → onesL t = b → restL t = u → r + u.length ≤ 63 →
      canon (scaleL t) (wordL t) = List.replicate (r + 1) b ++ (!b) :: (u ++ noughts (65 - u.length)) := by
    intro b r u h1 h2 h3 h4
    have he : expL t = numOf ((u ++ noughts 2).take 2) := by rw [expL, h3]
    have hlen : ((u ++ noughts 2).take 2).length = 2 := by simp
    have he4 := numOf_lt ((u ++ noughts 2).take 2)
    rw [hlen, ← he] at he4
    have hs : scaleL t = 4 * (if b then ((r + 1 : Nat) : Int) - 1 else -((r + 1 : Nat) : Int)) + expL t := by unfold scaleL regL; rw [h1, h2]
    have hh := headK_rep b r
    generalize (if b then ((r + 1 : Nat) : Int) - 1 else -((r + 1 : Nat) : Int)) = k at *
    have hk : scaleL t / 4 = k := by omega
    have hm : (scaleL t % 4).toNat = expL t := by omega
    have hw : (bitsOf (wordL t) 64).drop 1 = (u.drop 2 ++ noughts 63).take 63 := by
      have hl2 : (true :: (u.drop 2 ++ noughts 63).take 63).length = 64 := by simp
      have := bitsOf_numOf (true :: (u.drop 2 ++ noughts 63).take 63)
      rw [hl2] at this
      rw [wordL, h3, this]; rfl
    have hb2 : bitsOf (expL t) 2 = (u ++ noughts 2).take 2 := by
      have := bitsOf_numOf ((u ++ noughts 2).take 2)
      rw [hlen] at this
      rw [he, this]
    rw [canon, hk, hm, hh, hw, hb2, List.append_assoc, List.append_assoc, padE u (by omega)]
    rfl
  obtain ⟨b, r, tl, rfl, htl⟩ := split_run t hne
  rcases htl with rfl | ⟨u, rfl⟩
  · rw [List.append_nil] at *
    have hb : b = true := (List.mem_replicate.1 ht).2.symm
    subst hb
    have h1 := runL_rep true r [] (.inl rfl)
    have h2 := onesL_rep true r []
    rw [List.append_nil] at h1 h2
    rw [List.length_replicate] at hl
    refine ⟨66, ?_, by omega⟩
    rw [key true r [] h1 h2 (restL_end true r) (by simp; omega)]
    rfl
  · have hlu : r + u.length ≤ 62 := by simp at hl; omega
    refine ⟨65 - u.length, ?_, by omega⟩
    rw [key b r u (runL_rep b r _ (.inr ⟨u, rfl⟩)) (onesL_rep b r _) (restL_rep b r u) (by omega)]
    simp
theorem wordL_bounds (t : List Bool) : 9223372036854775808 ≤ wordL t ∧ wordL t < 18446744073709551616 := by
  have h1 : (((restL t).drop 2 ++ noughts 63).take 63).length = 63 := by simp
  have h2 := numOf_lt (((restL t).drop 2 ++ noughts 63).take 63)
  unfold wordL
  rw [numOf_cons]
  rw [h1] at *
  simp; omega
end Go.Proofs.Ytheliihkkoohnab

set_option maxRecDepth 100000
namespace Go.Proofs.Ytheliihkkoohnab
open Go.ChangeShapes Go.WideShapes Go.ChangeAt Go.RowKit

theorem infoU8 : (Try.prog.info? 5).map (fun i => (i.zero, i.size, i.bytes)) = some (some (.int .u8 0), 1, 1) := by kernel_rfl

def chars (l : List Bool) : List Value := l.map fun b => .int .u8 (bitByte b).toNat
theorem bit_char (x k : Nat) : ((48 + ((x : Int) / 2 ^ k).tmod 2) % 256) = ((bitByte (x.testBit k)).toNat : Int) := by
  rw [shrN, Nat.testBit_eq_decide_div_mod_eq, Nat.shiftRight_eq_div_pow]
  generalize x / 2 ^ k = y
  rw [Int.tmod_eq_emod_of_nonneg (by omega)]
  rcases Nat.mod_two_eq_zero_or_one y with h | h
  · have : ((y:Int)) % 2 = 0 := by omega
    rw [this]; simp [bitByte, h]
  · have : ((y:Int)) % 2 = 1 := by omega
    rw [this]; simp [bitByte, h]

theorem bitsOf_step (x n k : Nat) (h : k < n) : (bitsOf x n).take (k + 1) = (bitsOf x n).take k ++ [x.testBit (n - 1 - k)] := by
  rw [List.take_add_one, bitsOf_get x n k h]; rfl

theorem text_any (x : Nat) (n : Nat) (hn : n ≤ 64) (w : World) :
    Calls Try.prog 31 #[.int .u64 x, .int .i64 n] w fun e w' => ∃ s, e = .returned (.string s) ∧ IsBits s (bitsOf x n) ∧ Below w.heap.size w w' := by
  obtain ⟨i0, hi, hz0, hz1, hz2⟩ := info_parts infoU8
  refine cps fun Q hQ => ?_
  go_enter Try.func31, Try.ntmps31
  go_wp2
  go_loopw [5, 6] (fun v i wr => ∃ k : Nat, k ≤ n ∧ i = .int .i64 ((n : Int) - 1 - k) ∧ wr.ownsRow w.heap.size 5 1 v k (chars ((bitsOf x n).take k)) ∧ Below w.heap.size w wr)
    (fun _ i _ => (intOf i + 1).toNat)
  case atStart => exact ⟨0, Nat.zero_le _, by simp, World.ownsRow_nil _ _ _ _, Below.refl _ _⟩
  case round =>
    obtain ⟨k, hk, rfl, hown, hb⟩ := hrel
    have hs := hb.size
    by_cases hlt : k < n
    · go_wp2_with (at_builtin; go_must (refine append1 rfl _ _ 100 rfl w.heap.size 5 i0 (.int .u8 0) 1 Try.underlying100 hi hz0 hz1 hz2 rfl _ _ _ hown rfl rfl rfl (by omega) (by omega) hs ?_); intro v' w1 hown1 hb1 hne1 _)
      go_roundw
      case rel => exact ⟨k + 1, by omega, by go_num, by rw [bitsOf_step x n k hlt]; simpa [chars, bit_char] using hown1, hb.trans hb1⟩
      case measure => simp [intOf]; omega
    · have hkn : k = n := by omega
      subst hkn
      have hcv := run_convert_own (P := Try.prog) ((bitsOf x k).map bitByte) (by simpa [chars, bitsOf_length, List.take_of_length_le, Function.comp_def] using hown) Try.underlying100 Try.underlying5 Try.underlying9
      go_wp2
      exact hQ.out _ _ ⟨_, rfl, by simp [IsBits], hb⟩

theorem numOf_step (l : List Bool) (k : Nat) (h : k < l.length) : numOf (l.take (k + 1)) = 2 * numOf (l.take k) + (l.getD k false).toNat := by
  rw [List.take_add_one, List.getElem?_eq_getElem h, List.getD_eq_getElem?_getD, List.getElem?_eq_getElem h]
  exact numOf_snoc _ _
theorem num_char (b : Bool) (m : Nat) : IntKind.u64.wrap (IntKind.u64.wrap (2 * (m : Int)) + (((bitByte b).toNat : Int) - 48) % 256) = (((2 * m + b.toNat) % 2^64 : Nat) : Int) := by
  rw [IntKind.wrap_u64, IntKind.wrap_u64]
  cases b <;> simp [bitByte] <;> omega
theorem number_any (s : ByteArray) (l : List Bool) (hs : IsBits s l) (hl : l.length ≤ 64) (w : World) :
    Calls Try.prog 30 #[.string s] w fun e w' => e = .returned (.int .u64 (numOf l : Nat)) ∧ w' = w := by
  have hsz := isBits_size hs
  refine cps fun Q hQ => ?_
  go_enter Try.func30, Try.ntmps30
  go_wp2
  go_loop [3, 4] (fun v i => ∃ k : Nat, k ≤ s.size ∧ i = .int .i64 k ∧ v = .int .u64 (numOf (l.take k) : Nat)) (fun _ i => s.size - (intOf i).toNat)
  case atStart => exact ⟨0, Nat.zero_le _, rfl, rfl⟩
  case round =>
    obtain ⟨k, hk, rfl, rfl⟩ := hrel
    by_cases hlt : k < s.size
    · go_wp2
      go_round
      case rel =>
        have h2 : numOf (l.take (k + 1)) < 2 ^ 64 := Nat.lt_of_lt_of_le (numOf_lt _) (Nat.pow_le_pow_right (by decide) (by rw [List.length_take]; omega))
        refine ⟨k + 1, by omega, by go_num, ?_⟩
        rw [isBits_get hs k hlt, num_char, ← numOf_step l k (by omega), Nat.mod_eq_of_lt h2]
      case measure => simp [intOf]; omega
    · go_wp2
      have hkn : k = s.size := by omega
      subst hkn
      exact hQ.out _ _ ⟨by rw [List.take_of_length_le (by omega)], rfl⟩

/-! ### the library's Len64, LeadingZeros64 -/
set_option maxRecDepth 100000 in
theorem len8tab_size : (Lib.len8tab.size : Int) = 256 := by
  have : Lib.len8tab.size = 256 := by decide
  omega
theorem len8_get (y : Int) (h : y.toNat < Lib.len8tab.size) : ((Lib.len8tab[y.toNat]'h).toNat : Int) = Lib.len8 y := by
  unfold Lib.len8
  rw [getElem?_pos Lib.len8tab y.toNat h]
  rfl
theorem len8_fin (k P X : Nat) (K : Int) (y : Int) (hP : P = 2 ^ k) (hK : K = k) (h0 : 0 ≤ y) (h1 : y ≤ 255) (hk : k ≤ 56) (hX : X < 2 ^ 64) (hPX : P ≤ X) (hy : y.toNat = X / P) :
    wrap64 (K + wrap64 (Lib.len8 y)) = (Lib.bitLen X : Int) := by
  rw [Lib.len8_of y h0 h1, hK]
  have l := Lib.bitLen_le8' y h0 h1
  have s := Lib.bitLen_shift k X (hP ▸ hPX) hX
  rw [← hP] at s
  rw [hy] at l ⊢
  generalize Lib.bitLen (X / P) = a at *
  generalize Lib.bitLen X = b at *
  clear hP hX hPX hy h0 h1
  unfold wrap64
  omega
theorem len8_fin0 (X : Nat) (y : Int) (h0 : 0 ≤ y) (h1 : y ≤ 255) (hy : y.toNat = X) :
    wrap64 (wrap64 (Lib.len8 y)) = (Lib.bitLen X : Int) := by
  rw [Lib.len8_of y h0 h1]
  have l := Lib.bitLen_le8' y h0 h1
  rw [hy] at l ⊢
  generalize Lib.bitLen X = b at *
  clear h0 h1 hy
  unfold wrap64
  omega
set_option maxRecDepth 100000 in
theorem len64_int (x : Int) (h0 : 0 ≤ x) (h1 : x ≤ 18446744073709551615) (w : World) :
    Calls Try.prog 79 #[.int .u64 x] w fun e w' => e = .returned (.int .i64 (Lib.bitLen x.toNat)) ∧ w' = w := by
  have hsz := len8tab_size
  go_enter Try.func79, Try.ntmps79
  go_wp2
  all_goals (go_ret; refine ⟨congrArg Ending.returned (congrArg (Value.int IntKind.i64) ?_), rfl⟩; rw [len8_get]; clear hsz)
  all_goals first
    | exact len8_fin 56 72057594037927936 x.toNat 56 (x / 4294967296 / 65536 / 256) rfl rfl (by omega) (by omega) (by decide) (by omega) (by omega) (by omega)
    | exact len8_fin 48 281474976710656 x.toNat 48 (x / 4294967296 / 65536) rfl rfl (by omega) (by omega) (by decide) (by omega) (by omega) (by omega)
    | exact len8_fin 40 1099511627776 x.toNat 40 (x / 4294967296 / 256) rfl rfl (by omega) (by omega) (by decide) (by omega) (by omega) (by omega)
    | exact len8_fin 32 4294967296 x.toNat 32 (x / 4294967296) rfl rfl (by omega) (by omega) (by decide) (by omega) (by omega) (by omega)
    | exact len8_fin 24 16777216 x.toNat 24 (x / 65536 / 256) rfl rfl (by omega) (by omega) (by decide) (by omega) (by omega) (by omega)
    | exact len8_fin 16 65536 x.toNat 16 (x / 65536) rfl rfl (by omega) (by omega) (by decide) (by omega) (by omega) (by omega)
    | exact len8_fin 8 256 x.toNat 8 (x / 256) rfl rfl (by omega) (by omega) (by decide) (by omega) (by omega) (by omega)
    | exact len8_fin0 x.toNat x (by omega) (by omega) rfl
theorem len64_any (x : Nat) (hx : x < 18446744073709551616) (w : World) :
    Calls Try.prog 79 #[.int .u64 x] w fun e w' => e = .returned (.int .i64 (Lib.bitLen x)) ∧ w' = w := by
  have := len64_int (x : Int) (by omega) (by omega) w
  simpa using this
end Go.Proofs.Ytheliihkkoohnab

namespace Go.Proofs.Ytheliihkkoohnab
set_option maxRecDepth 100000
open Go.ChangeShapes Go.WideShapes Go.ChangeAt Go.RowKit

theorem lowest_any (n : Nat) (hn : n ≤ 64) (w : World) :
    Calls Try.prog 58 #[.int .i64 n] w fun e w' => e = .returned (.int .u64 ((2^n - 1 : Nat) : Int)) ∧ w' = w := by
  refine cps fun Q hQ => ?_
  go_enter Try.func58, Try.ntmps58
  go_wp2
  refine hQ.out _ _ ⟨congrArg Ending.returned (congrArg (Value.int IntKind.u64) (wrapMask n hn)), rfl⟩

/-- may there be a field? -/
def isField (at_ n : Int) : Bool := decide (0 ≤ at_ ∧ at_ ≤ 64 ∧ 0 ≤ n ∧ n ≤ 64 - at_)
theorem fits_any (at_ n : Int) (w : World) :
    Calls Try.prog 57 #[.int .i64 at_, .int .i64 n] w fun e w' => e = .returned (.bool (isField at_ n)) ∧ w' = w := by
  refine cps fun Q hQ => ?_
  go_enter Try.func57, Try.ntmps57
  go_wp2
  all_goals
    refine hQ.out _ _ ⟨congrArg Ending.returned (congrArg Value.bool ?_), rfl⟩
    simp only [isField, Bool.decide_and]
    simp [*] <;> omega
/-! ### Mask -/
/-! ### Field -/
def fieldOf (x at_ n : Nat) : Nat := (x >>> at_) % 2 ^ n
theorem lfield_ok (x : Nat) (at_ n : Int) (hx : x < 2^64) (hf : isField at_ n = true) (w : World) :
    Calls Try.prog 39 #[.int .u64 x, .int .i64 at_, .int .i64 n] w fun e w' => e = .returned (.tuple #[.int .u64 (fieldOf x at_.toNat n.toNat : Nat), .nilIface]) ∧ ∃ q, w' = w.drewN q := by
  have hf' := hf
  simp [isField] at hf'
  obtain ⟨a, rfl⟩ := Int.eq_ofNat_of_zero_le hf'.1
  obtain ⟨m, rfl⟩ := Int.eq_ofNat_of_zero_le hf'.2.2.1
  refine cps fun Q hQ => ?_
  go_enter Try.func39, Try.ntmps39
  go_wp2_with (go_at_call 57; refine (fits_any _ _ _).mono ?_; rintro e w' ⟨rfl, rfl⟩)
  go_quiet ((go_at_call 58; exact Calls.quiet_of_same (lowest_any m (by omega) _)))
  go_wp2
  refine hQ.out _ _ ⟨ret_ix ?_, nq, rfl⟩
  rw [shrN, u64_and_nat _ _ (Nat.lt_of_le_of_lt (Nat.shiftRight_le _ _) hx) (mask_lt m (by omega))]
  simp [fieldOf, Nat.and_two_pow_sub_one_eq_mod]
/-! ### Put -/
theorem not_bit (t i : Nat) (ht : t < 2 ^ 64) (hi : i < 64) : (18446744073709551615 - t).testBit i = !t.testBit i := by
  have := Nat.testBit_two_pow_sub_succ (x := t) (n := 64) ht i
  rw [show 18446744073709551615 - t = 2 ^ 64 - (t + 1) by omega, this]
  simp [hi]
end Go.Proofs.Ytheliihkkoohnab

namespace Go.Proofs.Ytheliihkkoohnab
set_option maxRecDepth 100000
open Go.ChangeShapes Go.WideShapes Go.ChangeAt Go.RowKit

/-! ### Extend -/
def extOf (x n : Nat) : Int := ((x % 2 ^ n : Nat) : Int) - ((x.testBit (n - 1)).toNat * 2 ^ n : Nat)
theorem numOf_bitsOf (x n : Nat) : numOf (bitsOf x n) = x % 2 ^ n := by
  apply Nat.eq_of_testBit_eq
  intro i
  rw [numOf_testBit, bitsOf_length, Nat.testBit_mod_two_pow, bitsOf_getD]
  by_cases h : i < n
  · have e : n - 1 - (n - 1 - i) = i := by omega
    have e2 : n - 1 - i < n := by omega
    simp [h, e, e2]
  · simp [h]
theorem top_bit (y m : Nat) (h : y < 2 * 2 ^ m) : y.testBit m = decide (2 ^ m ≤ y) := by
  have h0 : 0 < 2 ^ m := Nat.pos_of_ne_zero (by simp)
  rw [Nat.testBit_eq_decide_div_mod_eq]
  by_cases hc : 2 ^ m ≤ y
  · have h1 : 1 ≤ y / 2 ^ m := (Nat.le_div_iff_mul_le h0).2 (by omega)
    have h2 : y / 2 ^ m < 2 := (Nat.div_lt_iff_lt_mul h0).2 (by omega)
    have : y / 2 ^ m = 1 := by omega
    simp [hc, this]
  · rw [Nat.div_eq_of_lt (by omega)]; simp; omega
theorem ext_eq (x n : Nat) (h1 : 1 ≤ n) (h2 : n ≤ 64) : wrap64 (IntKind.u64.wrap ((x : Int) * 2 ^ (64 - n))) / 2 ^ (64 - n) = extOf x n := by
  obtain ⟨d, hd⟩ : ∃ d, d = 64 - n := ⟨_, rfl⟩
  rw [← hd]
  have e64 : 2 ^ n * 2 ^ d = 2 ^ 64 := by rw [← Nat.pow_add]; congr 1; omega
  have e63 : 2 ^ (n - 1) * 2 ^ d = 2 ^ 63 := by rw [← Nat.pow_add]; congr 1; omega
  have hnn : 2 ^ n = 2 * 2 ^ (n - 1) := by rw [← Nat.pow_succ']; congr 1; omega
  have hd0 : 0 < 2 ^ d := Nat.pos_of_ne_zero (by simp)
  have hy : x % 2 ^ n < 2 ^ n := Nat.mod_lt _ (Nat.pos_of_ne_zero (by simp))
  rw [wrapShl, Nat.shiftLeft_eq, ← e64, Nat.mul_mod_mul_right]
  have hb : x.testBit (n - 1) = decide (2 ^ (n - 1) ≤ x % 2 ^ n) := by
    rw [← top_bit _ _ (by omega), Nat.testBit_mod_two_pow]; simp; omega
  rw [extOf, hb]
  generalize x % 2 ^ n = y at *
  have ed : ((2 : Int) ^ d) = ((2 ^ d : Nat) : Int) := by simp
  rw [ed]
  have hlt : y * 2 ^ d < 2 ^ 64 := by rw [← e64]; exact Nat.mul_lt_mul_of_pos_right hy hd0
  by_cases hc : 2 ^ (n - 1) ≤ y
  · have hge : 2 ^ 63 ≤ y * 2 ^ d := by rw [← e63]; exact Nat.mul_le_mul_right _ hc
    have e : wrap64 ((y * 2 ^ d : Nat) : Int) = ((y : Int) - (2 ^ n : Nat)) * (2 ^ d : Nat) := by
      rw [Int.sub_mul, ← Int.natCast_mul, ← Int.natCast_mul, e64]; unfold wrap64; omega
    rw [e, Int.mul_ediv_cancel _ (by omega)]; simp [hc]
  · have hl : y * 2 ^ d < 2 ^ 63 := by rw [← e63]; exact Nat.mul_lt_mul_of_pos_right (by omega) hd0
    have e : wrap64 ((y * 2 ^ d : Nat) : Int) = (y : Int) * (2 ^ d : Nat) := by
      rw [← Int.natCast_mul]; unfold wrap64; omega
    rw [e, Int.mul_ediv_cancel _ (by omega)]; simp [hc]
theorem lext_ok (x n : Nat) (h1 : 1 ≤ n) (h2 : n ≤ 64) (w : World) :
    Calls Try.prog 55 #[.int .u64 x, .int .i64 n] w fun e w' => e = .returned (.tuple #[.int .i64 (extOf x n), .nilIface]) ∧ w' = w := by
  refine cps fun Q hQ => ?_
  go_enter Try.func55, Try.ntmps55
  go_wp2
  exact hQ.out _ _ ⟨ret_ix (ext_eq x n h1 h2), rfl⟩
theorem ext_char (b : Bool) (v : Int) (h : -4611686018427387904 ≤ v) (h' : v < 4611686018427387904) : wrap64 (wrap64 (2 * v) + (((bitByte b).toNat : Int) - 48) % 256) = 2 * v + b.toNat := by
  unfold wrap64
  cases b <;> simp [bitByte] <;> omega
theorem ext_bounds (l : List Bool) (k : Nat) (b : Bool) (hl : l.length ≤ k) (hk : k ≤ 63) (h1 : 1 ≤ l.length) (hb : l[0]? = some b) (hlk : l.length = k) :
    -4611686018427387904 ≤ ((numOf l : Nat) : Int) - ((b.toNat * 2 ^ k : Nat) : Int) ∧ ((numOf l : Nat) : Int) - ((b.toNat * 2 ^ k : Nat) : Int) < 4611686018427387904 := by
  match l, hb with
  | c :: t, hb =>
    simp at hb
    subst hb
    have ht := numOf_lt t
    rw [numOf_cons]
    simp only [List.length_cons] at hlk
    subst hlk
    have h2 : 2 ^ t.length ≤ 2 ^ 62 := Nat.pow_le_pow_right (by decide) (by omega)
    rw [Nat.pow_succ]
    generalize 2 ^ t.length = P at *
    cases c
    · simp only [Bool.toNat_false]; omega
    · simp only [Bool.toNat_true]; omega
def extTill (x n k : Nat) : Int := ((numOf ((bitsOf x n).take k) : Nat) : Int) - ((x.testBit (n - 1)).toNat * 2 ^ k : Nat)
theorem rext_step (x n k : Nat) (h1 : 1 ≤ k) (hk : k < n) (h2 : n ≤ 64) :
    wrap64 (wrap64 (2 * extTill x n k) + (((bitByte ((bitsOf x n).getD k false)).toNat : Int) - 48) % 256) = extTill x n (k + 1) := by
  have hl : ((bitsOf x n).take k).length = k := by simp [bitsOf_length]; omega
  have hb := ext_bounds ((bitsOf x n).take k) k (x.testBit (n - 1)) (by omega) (by omega) (by omega) (by rw [List.getElem?_take_of_lt (by omega), bitsOf_get x n 0 (by omega)]; rfl) hl
  rw [extTill, ext_char _ _ hb.1 hb.2, extTill, numOf_step _ k (by rw [bitsOf_length]; omega)]
  rw [Nat.pow_succ, ← Nat.mul_assoc]
  omega
theorem extTill_one (x n : Nat) (h1 : 1 ≤ n) : extTill x n 1 = -((x.testBit (n - 1)).toNat : Int) := by
  rw [extTill, numOf_step _ 0 (by rw [bitsOf_length]; omega), bitsOf_getD]
  have : 0 < n := by omega
  simp [this, numOf]
  cases x.testBit (n - 1) <;> simp
theorem extTill_all (x n : Nat) : extTill x n n = extOf x n := by
  rw [extTill, extOf, List.take_of_length_le (by rw [bitsOf_length]; omega), numOf_bitsOf]
theorem rext_ok (x n : Nat) (h1 : 1 ≤ n) (h2 : n ≤ 64) (w : World) :
    Calls Try.prog 53 #[.int .u64 x, .int .i64 n] w fun e w' => e = .returned (.tuple #[.int .i64 (extOf x n), .int .i64 0]) ∧ Below w.heap.size w w' := by
  refine cps fun Q hQ => ?_
  have hstart : Hid (extTill x n 1 = -((x.testBit (n - 1)).toNat : Int)) := extTill_one x n h1
  cases hb0 : x.testBit (n - 1)
  all_goals
    rw [hb0] at hstart
    go_enter Try.func53, Try.ntmps53
    go_wp2_with (go_at_call 31; refine (text_any x n (by omega) _).mono ?_; rintro e w1 ⟨s, rfl, hs, hb⟩; have hsz := isBits_size hs; rw [bitsOf_length] at hsz; have hs0 := isBits_get hs 0 (by omega); rw [bitsOf_getD, Nat.sub_zero, hb0] at hs0; have hpos : 0 < n := (by omega); simp only [hpos, decide_true, Bool.true_and, bitByte] at hs0)
    go_loop [7, 8] (fun v i => ∃ (k : Nat) (V : Int), 1 ≤ k ∧ k ≤ n ∧ i = .int .i64 k ∧ v = .int .i64 V ∧ Hid (V = extTill x n k)) (fun _ i => n - (intOf i).toNat)
    case atStart => exact ⟨1, _, by omega, h1, rfl, rfl, hstart.out.symm⟩
    case round =>
      obtain ⟨k, V, hk1, hk, rfl, rfl, hV⟩ := hrel
      by_cases hlt : k < n
      · have hsk : Hid (s[k]'(by omega) = _) := isBits_get hs k (by omega)
        clear hs0
        go_wp2
        go_round
        case rel => exact ⟨k + 1, _, by omega, by omega, by go_num, rfl, by rw [hV.out, hsk.out]; exact rext_step x n k hk1 hlt h2⟩
        case measure => simp [intOf]; omega
      · have hkn : k = n := by omega
        subst hkn
        go_wp2
        exact hQ.out _ _ ⟨ret_ix (by rw [hV.out]; exact extTill_all x k), hb⟩
end Go.Proofs.Ytheliihkkoohnab

namespace Go.Proofs.Ytheliihkkoohnab
set_option maxRecDepth 100000
open Go.ChangeShapes Go.WideShapes Go.ChangeAt Go.RowKit

/-! ### which of api's Codes an error is -/
end Go.Proofs.Ytheliihkkoohnab

namespace Go.Proofs.Ytheliihkkoohnab
open Go.ChangeShapes Go.WideShapes Go.ChangeAt Go.RowKit
set_option linter.unusedVariables false
set_option linter.unusedSimpArgs false
set_option maxRecDepth 100000

/-! ### widths -/
abbrev Wd (n : Nat) : Prop := n = 8 ∨ n = 16 ∨ n = 32 ∨ n = 64
def isW (n : Int) : Bool := decide (n = 8) || (decide (n = 16) || (decide (n = 32) || decide (n = 64)))
theorem isW_yes {n : Int} (h : isW n = true) : ∃ m : Nat, n = m ∧ Wd m := by
  simp only [isW, Bool.or_eq_true, decide_eq_true_eq] at h
  rcases h with rfl | rfl | rfl | rfl
  · exact ⟨8, rfl, .inl rfl⟩
  · exact ⟨16, rfl, .inr (.inl rfl)⟩
  · exact ⟨32, rfl, .inr (.inr (.inl rfl))⟩
  · exact ⟨64, rfl, .inr (.inr (.inr rfl))⟩
theorem isW_no {n : Int} (h : isW n = false) : n ≠ 8 ∧ n ≠ 16 ∧ n ≠ 32 ∧ n ≠ 64 := by
  simp only [isW, Bool.or_eq_false_iff, decide_eq_false_iff_not] at h
  exact ⟨h.1, h.2.1, h.2.2.1, h.2.2.2⟩
theorem isW_of {m : Nat} (h : Wd m) : isW m = true := by rcases h with rfl | rfl | rfl | rfl <;> rfl

/-! ### slices.Contains of a row of integers -/
theorem index_any (g : Nat) (c : Nat) (n : Int) (l : List Int) (hl : l.length ≤ 1099511627776) (w : World) (h : ∀ j (hj : j < l.length), w.cell? ⟨g, j, none⟩ = some (.int .i64 l[j])) :
    Calls Try.prog 82 #[.slice (some ⟨g, 0, none⟩) l.length c, .int .i64 n] w fun e w' => (∃ r : Int, e = .returned (.int .i64 r) ∧ -1 ≤ r ∧ r ≤ 1099511627776 ∧ (0 ≤ r ↔ n ∈ l)) ∧ w' = w := by
  refine cps fun Q hQ => ?_
  have H : Hid (∀ j (hj : j < l.length), w.cell? ⟨g, j, none⟩ = some (.int .i64 l[j])) := h
  clear h
  go_enter Try.func82, Try.ntmps82
  go_wp2
  go_loop [8] (fun iv => ∃ i : Nat, i ≤ l.length ∧ iv = .int .i64 i ∧ Hid (∀ j (hj : j < l.length), j < i → l[j] ≠ n)) (fun iv => l.length - (intOf iv).toNat)
  case atStart => exact ⟨0, Nat.zero_le _, rfl, fun j hj h => by omega⟩
  case round =>
    obtain ⟨i, hi, rfl, hst⟩ := hrel
    by_cases hlt : i < l.length
    · have hc := H.out i hlt
      obtain ⟨x, hx⟩ : ∃ x, x = l[i] := ⟨_, rfl⟩
      rw [← hx] at hc
      have HX : Hid (x = l[i]) := hx
      clear hx
      by_cases he : n = x
      · have HE : Hid (n ∈ l) := by show _ ∈ _; rw [he, HX.out]; exact List.getElem_mem _
        have he2 : (n == x) = true := beq_iff_eq.2 he
        clear he
        go_wp2
        exact hQ.out _ _ ⟨⟨i, rfl, by omega, by omega, ⟨fun _ => HE.out, fun _ => by omega⟩⟩, rfl⟩
      · have HE : Hid (n ≠ x) := he
        have he2 : (n == x) = false := beq_eq_false_iff_ne.2 he
        clear he
        go_wp2
        go_round
        case rel => exact ⟨i + 1, by omega, by go_num, fun j hj h => by
          by_cases g : j = i
          · subst g; rw [← HX.out]; exact fun e => HE.out e.symm
          · exact hst.out j hj (by omega)⟩
        case measure => simp [intOf]; omega
    · have HN : Hid (n ∉ l) := fun hm => by
        obtain ⟨j, hj, e⟩ := List.getElem_of_mem hm
        exact hst.out j hj (by omega) e
      clear hst
      go_wp2
      exact hQ.out _ _ ⟨⟨-1, rfl, by omega, by omega, ⟨fun h => by omega, fun h => absurd h HN.out⟩⟩, rfl⟩
theorem contains_any (g : Nat) (c : Nat) (n : Int) (l : List Int) (b : Bool) (hb : b = decide (n ∈ l)) (hl : l.length ≤ 1099511627776) (w : World) (h : ∀ j (hj : j < l.length), w.cell? ⟨g, j, none⟩ = some (.int .i64 l[j])) :
    Calls Try.prog 68 #[.slice (some ⟨g, 0, none⟩) l.length c, .int .i64 n] w fun e w' => e = .returned (.bool b) ∧ w' = w := by
  have k := index_any g c n l hl w h
  have K : Hid (Calls _ _ _ _ _) := k
  have HB : Hid (b = decide (n ∈ l)) := hb
  clear k h hb
  refine cps fun Q hQ => ?_
  go_enter Try.func68, Try.ntmps68
  go_wp2_with (go_at_call 82; refine K.out.mono ?_; rintro e w' ⟨⟨r, rfl, h1, h2, h3⟩, hw⟩; rw [hw]; clear hw w'; have h4 : decide (0 ≤ r) = b := (decide_eq_decide.2 h3).trans HB.out.symm; clear h3)
  exact hQ.out _ _ ⟨by rw [← h4]; rfl, rfl⟩
theorem widths_any (w : World) : Calls Try.prog 69 #[] w fun e w' => e = .returned (.slice (some ⟨w.heap.size, 0, none⟩) 4 4) ∧ w' = w.alloc (.cells #[.int .i64 8, .int .i64 16, .int .i64 32, .int .i64 64] 3) := by
  refine cps fun Q hQ => ?_
  go_enter Try.func69, Try.ntmps69
  go_wp2
  exact hQ.out _ _ ⟨rfl, rfl⟩
theorem known_any (n : Int) (w : World) : Calls Try.prog 48 #[.int .i64 n] w fun e w' => e = .returned (.bool (isW n)) ∧ Below w.heap.size w w' := by
  have k := contains_any w.heap.size 4 n [8, 16, 32, 64] (isW n) (by simp [isW]) (by decide) (w.alloc (.cells #[.int .i64 8, .int .i64 16, .int .i64 32, .int .i64 64] 3)) (fun j hj => by
    refine (World.cell?_alloc_at _ _ _ _ rfl).trans ?_
    have : j = 0 ∨ j = 1 ∨ j = 2 ∨ j = 3 := by simp at hj; omega
    rcases this with rfl | rfl | rfl | rfl <;> rfl)
  have K : Hid (Calls Try.prog 68 #[.slice (some ⟨w.heap.size, 0, none⟩) 4 4, .int .i64 n] (w.alloc (.cells #[.int .i64 8, .int .i64 16, .int .i64 32, .int .i64 64] 3)) _) := k
  clear k
  refine cps fun Q hQ => ?_
  go_enter Try.func48, Try.ntmps48
  go_wp2_with (first
    | (go_at_call 69; refine (widths_any _).mono ?_; rintro e w' ⟨rfl, rfl⟩)
    | (go_at_call 68; refine K.out.mono ?_; rintro e w' ⟨rfl, hw⟩; rw [hw]; clear hw w'))
  exact hQ.out _ _ ⟨rfl, (Below.refl _ _).alloc (Nat.le_refl _) _⟩
theorem is_width (n : Int) (w : World) : Calls Try.prog 4 #[.int .i64 n] w fun e w' => e = .returned (.bool (isW n)) ∧ w' = w := by
  cases hb : isW n
  · obtain ⟨h1, h2, h3, h4⟩ := isW_no hb
    clear hb
    refine cps fun Q hQ => ?_
    go_enter Try.func4, Try.ntmps4
    go_wp2
    all_goals first | exact hQ.out _ _ ⟨rfl, rfl⟩ | (refine hQ.out _ _ ⟨ret_b ?_, rfl⟩; simp; omega)
  · obtain ⟨m, rfl, hm⟩ := isW_yes hb
    clear hb
    refine cps fun Q hQ => ?_
    rcases hm with rfl | rfl | rfl | rfl
    all_goals
      go_enter Try.func4, Try.ntmps4
      go_wp2
      exact hQ.out _ _ ⟨rfl, rfl⟩
theorem nar_any (n : Nat) (h1 : 1 ≤ n) (h2 : n ≤ 64) (w : World) : Calls Try.prog 34 #[.int .i64 n] w fun e w' => e = .returned (.int .u64 (2 ^ (n - 1) : Nat)) ∧ w' = w := by
  have hp : 2 ^ (n - 1) < 2 ^ 64 := Nat.pow_lt_pow_right (by decide) (by omega)
  have e1 : ((2 : Int) ^ (n - 1)) = ((2 ^ (n - 1) : Nat) : Int) := by simp
  have HE : Hid (IntKind.u64.wrap ((2 : Int) ^ (n - 1)) = ((2 ^ (n - 1) : Nat) : Int)) := by
    show _ = _
    rw [e1, wrapN, Nat.mod_eq_of_lt hp]
  clear e1 hp
  refine cps fun Q hQ => ?_
  go_enter Try.func34, Try.ntmps34
  go_wp2
  refine hQ.out _ _ ⟨ret_i ?_, rfl⟩
  rw [← HE.out]
theorem power_any (k : Nat) (hk : k ≤ 63) (w : World) : Calls Try.prog 8 #[.int .i64 k] w fun e w' => e = .returned (.int .u64 (2 ^ k : Nat)) ∧ w' = w := by
  refine cps fun Q hQ => ?_
  go_enter Try.func8, Try.ntmps8
  go_wp2
  go_loop [3, 4] (fun pv iv => ∃ i p : Nat, i ≤ k ∧ pv = .int .u64 p ∧ iv = .int .i64 i ∧ Hid (p = 2 ^ i)) (fun _ iv => k - (intOf iv).toNat)
  case atStart => exact ⟨0, 1, Nat.zero_le _, rfl, rfl, rfl⟩
  case round =>
    obtain ⟨i, p, hi, rfl, rfl, hp⟩ := hrel
    by_cases hlt : i < k
    · have hb : 2 * p ≤ 18446744073709551615 := by
        rw [hp.out, ← Nat.pow_succ']
        have : (2 : Nat) ^ (i + 1) ≤ 2 ^ 63 := Nat.pow_le_pow_right (by decide) (by omega)
        omega
      go_wp2
      go_round
      case rel => exact ⟨i + 1, 2 * p, by omega, by go_num, by go_num, by show _ = _; rw [hp.out, Nat.pow_succ']⟩
      case measure => simp [intOf]; omega
    · have hin : i = k := by omega
      subst hin
      have HP : Hid (p = 2 ^ i) := hp
      clear hp
      go_wp2
      exact hQ.out _ _ ⟨ret_i (by rw [HP.out]), rfl⟩
theorem power_sub (n : Nat) (h1 : 1 ≤ n) (h2 : n ≤ 64) (w : World) : Calls Try.prog 8 #[.int .i64 ((n : Int) - 1)] w fun e w' => e = .returned (.int .u64 (2 ^ (n - 1) : Nat)) ∧ w' = w := by
  have e : (n : Int) - 1 = ((n - 1 : Nat) : Int) := by omega
  rw [e]
  exact power_any (n - 1) (by omega) w
theorem wd_le {n : Nat} (h : Wd n) : 8 ≤ n ∧ n ≤ 64 := by rcases h with rfl | rfl | rfl | rfl <;> omega
end Go.Proofs.Ytheliihkkoohnab

namespace Go.Proofs.Ytheliihkkoohnab
open Go.ChangeShapes Go.WideShapes Go.ChangeAt Go.RowKit
set_option linter.unusedVariables false
set_option linter.unusedSimpArgs false
set_option maxRecDepth 100000

/-! ### patterns, folded -/
theorem fieldOf_low (x n : Nat) : fieldOf x (0 : Int).toNat ((n : Int)).toNat = x % 2 ^ n := by simp [fieldOf]
theorem fold_ok (n x : Nat) (hn : Wd n) (hx : x < 2 ^ 64) (w : World) :
    Calls Try.prog 26 #[.int .i64 n, .int .u64 x] w fun e w' => e = .returned (.tuple #[.int .u64 (x % 2 ^ n : Nat), .nilIface]) ∧ Below w.heap.size w w' := by
  have k1 := known_any n
  rw [isW_of hn] at k1
  have hw := wd_le hn
  have k2 := fun w => lfield_ok x 0 n hx (by simp [isField]; omega) w
  simp only [fieldOf_low] at k2
  clear hx hn hw
  refine cps fun Q hQ => ?_
  generalize x % 2 ^ n = y at *
  go_enter Try.func26, Try.ntmps26
  go_wp2_with (first
    | (go_at_call 48; refine (k1 _).mono ?_; rintro e w1 ⟨rfl, hb1⟩)
    | (go_at_call 39; refine (k2 _).mono ?_; rintro e w' ⟨rfl, q, rfl⟩))
  exact hQ.out _ _ ⟨rfl, below_drewN hb1 q⟩
theorem fold_no (n : Int) (x : Nat) (hn : isW n = false) (w : World) :
    Calls Try.prog 26 #[.int .i64 n, .int .u64 x] w fun e w' => e = .returned (.tuple #[.int .u64 0, .iface 29 (.int .i64 2)]) ∧ Below w.heap.size w w' := by
  have k1 := known_any n
  rw [hn] at k1
  clear hn
  refine cps fun Q hQ => ?_
  go_enter Try.func26, Try.ntmps26
  go_wp2_with (go_at_call 48; refine (k1 _).mono ?_; rintro e w1 ⟨rfl, hb1⟩)
  exact hQ.out _ _ ⟨rfl, hb1⟩
theorem rfold_ok (n x : Nat) (hn : Wd n) (w : World) :
    Calls Try.prog 18 #[.int .i64 n, .int .u64 x] w fun e w' => e = .returned (.tuple #[.int .u64 (x % 2 ^ n : Nat), .int .i64 0]) ∧ Below w.heap.size w w' := by
  have k1 := is_width n
  rw [isW_of hn] at k1
  have hw := (wd_le hn).2
  have hnum := numOf_bitsOf x n
  clear hn
  refine cps fun Q hQ => ?_
  rw [← hnum] at hQ
  clear hnum
  go_enter Try.func18, Try.ntmps18
  go_wp2_with (first
    | (go_at_call 4; refine (k1 _).mono ?_; rintro e w1 ⟨rfl, rfl⟩)
    | (go_at_call 31; refine (text_any x n hw _).mono ?_; rintro e w2 ⟨s, rfl, hs, hb⟩)
    | (go_at_call 30; go_must (refine (number_any _ _ hs (by rw [bitsOf_length]; exact hw) _).mono ?_); rintro e w' ⟨rfl, rfl⟩))
  exact hQ.out _ _ ⟨rfl, hb⟩
/-! ### Kind -/
def kindOf (n y : Nat) : Int := if y = 0 then 0 else if y = 2 ^ (n - 1) then 2 else 1
theorem kind_ok (n x : Nat) (hn : Wd n) (hx : x < 2 ^ 64) (w : World) :
    Calls Try.prog 21 #[.int .i64 n, .int .u64 x] w fun e w' => e = .returned (.tuple #[.int .i64 (kindOf n (x % 2 ^ n)), .nilIface]) ∧ Below w.heap.size w w' := by
  have k1 := fold_ok n x hn hx
  have hw := wd_le hn
  have k2 := nar_any n (by omega) hw.2
  clear hn hx
  refine cps fun Q hQ => ?_
  unfold kindOf at hQ
  generalize x % 2 ^ n = y at *
  generalize 2 ^ (n - 1) = m at *
  by_cases h0 : y = 0
  · subst h0
    rw [if_pos rfl] at hQ
    go_enter Try.func21, Try.ntmps21
    go_wp2_with (go_at_call 26; refine (k1 _).mono ?_; rintro e w1 ⟨rfl, hb1⟩)
    exact hQ.out _ _ ⟨rfl, hb1⟩
  · rw [if_neg h0] at hQ
    have hd : ((y : Int) == 0) = false := beq_eq_false_iff_ne.2 (by omega)
    by_cases hm : y = m
    · rw [if_pos hm] at hQ
      have hd2 : ((y : Int) == (m : Int)) = true := beq_iff_eq.2 (by omega)
      clear h0 hm
      go_enter Try.func21, Try.ntmps21
      go_wp2_with (first
        | (go_at_call 26; refine (k1 _).mono ?_; rintro e w1 ⟨rfl, hb1⟩)
        | (go_at_call 34; refine (k2 _).mono ?_; rintro e w1 ⟨rfl, rfl⟩))
      exact hQ.out _ _ ⟨rfl, hb1⟩
    · rw [if_neg hm] at hQ
      have hd2 : ((y : Int) == (m : Int)) = false := beq_eq_false_iff_ne.2 (by omega)
      clear h0 hm
      go_enter Try.func21, Try.ntmps21
      go_wp2_with (first
        | (go_at_call 26; refine (k1 _).mono ?_; rintro e w1 ⟨rfl, hb1⟩)
        | (go_at_call 34; refine (k2 _).mono ?_; rintro e w1 ⟨rfl, rfl⟩))
      exact hQ.out _ _ ⟨rfl, hb1⟩
theorem kind_no (n : Int) (x : Nat) (hn : isW n = false) (w : World) :
    Calls Try.prog 21 #[.int .i64 n, .int .u64 x] w fun e w' => e = .returned (.tuple #[.int .i64 0, .iface 29 (.int .i64 2)]) ∧ Below w.heap.size w w' := by
  have k1 := fold_no n x hn
  clear hn
  refine cps fun Q hQ => ?_
  go_enter Try.func21, Try.ntmps21
  go_wp2_with (go_at_call 26; refine (k1 _).mono ?_; rintro e w1 ⟨rfl, hb1⟩)
  exact hQ.out _ _ ⟨rfl, hb1⟩
/-! ### Rank, Pattern -/
theorem rank_ok (n x : Nat) (hn : Wd n) (w : World) :
    Calls Try.prog 35 #[.int .i64 n, .int .u64 x] w fun e w' => e = .returned (.tuple #[.int .i64 (extOf x n), .nilIface]) ∧ Below w.heap.size w w' := by
  have k1 := known_any n
  rw [isW_of hn] at k1
  have hw := wd_le hn
  have k2 := lext_ok x n (by omega) hw.2
  clear hn
  refine cps fun Q hQ => ?_
  generalize extOf x n = y at *
  go_enter Try.func35, Try.ntmps35
  go_wp2_with (first
    | (go_at_call 48; refine (k1 _).mono ?_; rintro e w1 ⟨rfl, hb1⟩)
    | (go_at_call 55; refine (k2 _).mono ?_; rintro e w' ⟨rfl, rfl⟩))
  exact hQ.out _ _ ⟨rfl, hb1⟩
theorem rrank_ok (n x : Nat) (hn : Wd n) (w : World) :
    Calls Try.prog 32 #[.int .i64 n, .int .u64 x] w fun e w' => e = .returned (.tuple #[.int .i64 (extOf x n), .int .i64 0]) ∧ Below w.heap.size w w' := by
  have k1 := is_width n
  rw [isW_of hn] at k1
  have hw := wd_le hn
  have k2 := rext_ok x n (by omega) hw.2
  clear hn
  refine cps fun Q hQ => ?_
  generalize extOf x n = y at *
  go_enter Try.func32, Try.ntmps32
  go_wp2_with (first
    | (go_at_call 4; refine (k1 _).mono ?_; rintro e w1 ⟨rfl, rfl⟩)
    | (go_at_call 53; refine (k2 _).mono ?_; rintro e w2 ⟨rfl, hb2⟩))
  exact hQ.out _ _ ⟨rfl, hb2⟩
end Go.Proofs.Ytheliihkkoohnab

namespace Go.Proofs.Ytheliihkkoohnab
open Go.ChangeShapes Go.WideShapes Go.ChangeAt Go.RowKit
set_option linter.unusedVariables false
set_option linter.unusedSimpArgs false
set_option maxRecDepth 100000

/-! ### the document's codec: patterns as strings -/
theorem fold6_any (n x : Nat) (hn : Wd n) (w : World) :
    Calls Try.prog 9 #[.int .i64 n, .int .u64 x] w fun e w' => e = .returned (.int .u64 (x % 2 ^ n : Nat)) ∧ Below w.heap.size w w' := by
  have k1 := rfold_ok n x hn
  clear hn
  refine cps fun Q hQ => ?_
  generalize x % 2 ^ n = y at *
  go_enter Try.func9, Try.ntmps9
  go_wp2_with (go_at_call 18; refine (k1 _).mono ?_; rintro e w1 ⟨rfl, hb1⟩)
  exact hQ.out _ _ ⟨rfl, hb1⟩
def minusU (x : Nat) : Nat := (18446744073709551616 - x) % 18446744073709551616
theorem minusU_wrap (x : Nat) (hx : x < 2 ^ 64) : IntKind.u64.wrap (-(x : Int)) = (minusU x : Int) := by
  rw [IntKind.wrap_u64]; unfold minusU; omega
theorem minusU_lt (x : Nat) : minusU x < 2 ^ 64 := Nat.mod_lt _ (by decide)
def strS (n x : Nat) : List Bool := (if x.testBit (n - 1) then bitsOf (minusU x) n else bitsOf x n).drop 1
end Go.Proofs.Ytheliihkkoohnab

namespace Go.Proofs.Ytheliihkkoohnab
set_option maxRecDepth 100000
open Go.ChangeShapes Go.WideShapes Go.ChangeAt Go.RowKit
set_option linter.unusedVariables false

/-! ### a region whose order is open, some of whose operations read cells that stand still throughout (the class C of worlds) -/
section
variable {P : Program} {ops : Array Oper} {Q : Exit → Act → World → Prop} {md : Region.Mode} {C : World → Prop}

/-- an operation carried past a slot that it doesn't look at; Y: what is known of the slots all the while -/
theorem wpOp_past {j : Nat} {oj : Oper} {dst : Option Tmp} {v : Value} (hj : ops[j]? = some oj)
    (h1 : ∀ d, dst = some d → d ∉ oj.looksAt ops) (h2 : ∀ d, dst = some d → oj.dst ≠ some d) (hsj : ∀ cs b, oj.op ≠ .select cs b)
    (hQ : ∀ c a w, Q (.panic c) (a.put dst v) w → Q (.panic c) a w) {Y : Act → Prop} (hY : ∀ a u, Y a → Y (a.put oj.dst u))
    (hD : ∀ a d, Y a → Y { a with defers := d :: a.defers }) {K : Act → World → Prop} {a : Act} {w : World} (hy : Y a)
    (h : wpOp P ops Q j K (a.put dst v) w) : wpOp P ops Q j (fun a' w' => Y a' ∧ K (a'.put dst v) w') a w := by
  have back : ∀ (b : Act) u w', Y b → K ((b.put dst v).put oj.dst u) w' → Y (b.put oj.dst u) ∧ K ((b.put oj.dst u).put dst v) w' :=
    fun b u w' hb hk => ⟨hY b u hb, by rw [← Act.put_comm b v u h2]; exact hk⟩
  unfold wpOp at h ⊢
  rw [hj] at h ⊢
  simp only [wanted_put oj a dst v h1] at h
  by_cases hw : Region.wanted oj (yielded ops a.tmps) = true
  · simp only [hw, if_true] at h ⊢
    rcases h with h | ⟨ha, hl⟩
    · refine .inl ?_
      unfold Oper.wp at h ⊢
      rw [execOp_put oj hsj a dst v h1] at h
      cases hr : (execOp a.eval oj).run P w with
      | halt x w' =>
        rw [hr] at h
        cases x <;> simp only [Oper.upon] at h ⊢
        exact hQ _ _ _ h
      | ok n w' =>
        rw [hr] at h
        cases n <;> simp only [Oper.upon] at h ⊢
        case value u => exact back a u w' hy h
        case skip => exact back a undef w' hy h
        case defer d =>
          refine back _ undef w' (hD a d hy) ?_
          rw [← Act.put_defers]; exact h
        case enter f args =>
          refine Calls.mono h fun e w'' he => ?_
          cases e with
          | returned u => exact back a u w'' hy he
          | panicked c => exact hQ _ _ _ he
          | outgrown => exact he
        case row r1 r2 => exact Rows.mono h fun u w'' he => back a u w'' hy he
    · refine .inr ⟨?_, hl⟩
      unfold Oper.asks at ha ⊢
      rw [execOp_put oj hsj a dst v h1] at ha
      exact ha
  · simp only [hw] at h ⊢
    exact back a undef w hy h

/-- o yields v in whatever world of the class -/
def YieldsC (C : World → Prop) (P : Program) (ops : Array Oper) (o : Oper) (v : Value) (a : Act) : Prop :=
  (Region.wanted o (yielded ops a.tmps) = true ∧ ∀ w, C w → (execOp a.eval o).run P w = .ok (.value v) w) ∨
  (Region.wanted o (yielded ops a.tmps) = false ∧ v = undef)
/-- every order, and the world stays in the class -/
def wpAnyC (C : World → Prop) (P : Program) (md : Region.Mode) (ops : Array Oper) (Q : Exit → Act → World → Prop) : Nat → Array Bool → Act → World → Prop
  | 0, listed, a, w => C w ∧ Region.ready md ops listed = [] ∧ Q .normal a w
  | fuel + 1, listed, a, w => C w ∧ (Region.ready md ops listed = [] → Q .normal a w) ∧
      ∀ i ∈ Region.ready md ops listed, wpOp P ops Q i (wpAnyC C P md ops Q fuel (listed.setIfInBounds i true)) a w
theorem wpAnyC_sound : ∀ (fuel : Nat) (listed : Array Bool) (a : Act) (w : World), wpAnyC C P md ops Q fuel listed a w → wpAny P md ops Q fuel listed a w
  | 0, _, _, _, h => h.2
  | fuel + 1, listed, _, _, h => ⟨h.2.1, fun i hi => wpOp_mono (fun a w => wpAnyC_sound fuel (listed.setIfInBounds i true) a w) (h.2.2 i hi)⟩
theorem wpC_first {i : Nat} {oi : Oper} {v : Value} (hi : ops[i]? = some oi) (hsel : ∀ (j : Nat) (o : Oper) cs b, ops[j]? = some o → o.op ≠ .select cs b)
    (hQ : ∀ c a w, Q (.panic c) (a.put oi.dst v) w → Q (.panic c) a w) :
    ∀ (fuel : Nat) (listed : Array Bool) (a : Act) (w : World),
      (∀ j oj, ops[j]? = some oj → j ≠ i → listed.getD j true = false → (∀ e ∈ oj.after, Region.binds md e = true → e.on ≠ i) → oi.apart ops oj = true) →
      i ∈ Region.ready md ops listed → YieldsC C P ops oi v a →
      wpAnyC C P md ops Q fuel (listed.setIfInBounds i true) (a.put oi.dst v) w → wpAnyC C P md ops Q (fuel + 1) listed a w := by
  intro fuel
  induction fuel with
  | zero =>
    intro listed a w _ hr hy H
    refine ⟨H.1, fun h => (by rw [h] at hr; cases hr), fun j hj => ?_⟩
    by_cases hji : j = i
    · subst hji
      unfold wpOp
      simp only [hi]
      rcases hy with ⟨hw, hv⟩ | ⟨hw, rfl⟩
      · simp only [hw, if_true, Oper.wp, hv w H.1, Oper.upon]; exact .inl H
      · simp only [hw]; exact H
    · have := ready_mono hj hji
      rw [H.2.1] at this
      cases this
  | succ fuel ih =>
    intro listed a w hfree hr hy H
    refine ⟨H.1, fun h => (by rw [h] at hr; cases hr), fun j hj => ?_⟩
    by_cases hji : j = i
    · subst hji
      unfold wpOp
      simp only [hi]
      rcases hy with ⟨hw, hv⟩ | ⟨hw, rfl⟩
      · simp only [hw, if_true, Oper.wp, hv w H.1, Oper.upon]; exact .inl H
      · simp only [hw]; exact H
    · have g := H.2.2 j (ready_mono hj hji)
      obtain ⟨hjun, oj, hoj, hall⟩ := mem_ready.1 hj
      have hnot : ∀ e ∈ oj.after, Region.binds md e = true → e.on ≠ i := fun e he hb heq => by
        have g1 := hall e he hb
        have g0 := (mem_ready.1 hr).1
        rw [heq] at g1
        rcases Nat.lt_or_ge i listed.size with h' | h'
        · simp [h'] at g0 g1; rw [g0] at g1; cases g1
        · simp [Array.getElem?_eq_none h'] at g1
      obtain ⟨a1, a2, a3⟩ := Oper.apart_spec (hfree j oj hoj hji hjun hnot)
      have g2 := wpOp_past hoj a1 a2 (fun cs b => hsel j oj cs b hoj) hQ (Y := fun b => YieldsC C P ops oi v b)
        (fun b u hb => by unfold YieldsC at *; rw [execOp_put oi (fun cs d => hsel i oi cs d hi) b oj.dst u a3, wanted_put oi b oj.dst u a3]; exact hb)
        (fun b d hb => hb) hy g
      have hfree' : ∀ k ok, ops[k]? = some ok → k ≠ i → (listed.setIfInBounds j true).getD k true = false →
          (∀ e ∈ ok.after, Region.binds md e = true → e.on ≠ i) → oi.apart ops ok = true := fun k ok hk hki hun hno => by
        refine hfree k ok hk hki ?_ hno
        by_cases hjk : j = k
        · subst hjk; exact hjun
        · rw [getD_set_ne true hjk] at hun; exact hun
      refine wpOp_mono (fun a' w' g3 => ih (listed.setIfInBounds j true) a' w' hfree' (ready_mono hr (Ne.symm hji)) g3.1 ?_) g2
      rw [Array.setIfInBounds_comm _ _ hji]
      exact g3.2
/-- such an operation goes first -/
theorem wpC_take (i : Nat) {oi : Oper} {v : Value} {fuel : Nat} {listed : Array Bool} {a : Act} {w : World} (hi : ops[i]? = some oi)
    (hf : (Region.noSelect ops && Region.free md ops listed i && (Region.ready md ops listed).contains i) = true)
    (hQ : ∀ c a w, Q (.panic c) (a.put oi.dst v) w → Q (.panic c) a w) (hwant : Region.wanted oi (yielded ops a.tmps) = true)
    (hy : ∀ w, C w → (execOp a.eval oi).run P w = .ok (.value v) w)
    (h : wpAnyC C P md ops Q fuel (listed.setIfInBounds i true) (a.put oi.dst v) w) : wpAnyC C P md ops Q (fuel + 1) listed a w := by
  simp only [Bool.and_eq_true] at hf
  exact wpC_first hi (Region.noSelect_spec hf.1.1) hQ fuel listed a w (Region.free_spec hi hf.1.2) (by simpa using hf.2) (.inl ⟨hwant, hy⟩) h
/-- one alone may come next -/
theorem wpC_step (i : Nat) {o : Oper} {fuel : Nat} {listed : Array Bool} {a : Act} {w : World} (hi : ops[i]? = some o)
    (hr : Region.ready md ops listed = [i]) (hwant : Region.wanted o (yielded ops a.tmps) = true) (hC : C w)
    (h : ∀ K : Act → World → Prop, (∀ a w, wpAnyC C P md ops Q fuel (listed.setIfInBounds i true) a w → K a w) → Oper.wp P o a w K Q) :
    wpAnyC C P md ops Q (fuel + 1) listed a w := by
  refine ⟨hC, fun h0 => (by rw [h0] at hr; cases hr), fun j hj => ?_⟩
  rw [hr] at hj
  have : j = i := by simpa using hj
  subst this
  unfold wpOp
  simp only [hi, hwant, if_true]
  exact .inl (h _ fun _ _ g => g)
/-- one of two may come next -/
theorem wpC_two (i i' : Nat) {o o' : Oper} {fuel : Nat} {listed : Array Bool} {a : Act} {w : World} (hi : ops[i]? = some o) (hi' : ops[i']? = some o')
    (hr : Region.ready md ops listed = [i, i']) (hwant : Region.wanted o (yielded ops a.tmps) = true) (hwant' : Region.wanted o' (yielded ops a.tmps) = true) (hC : C w)
    (h : ∀ K : Act → World → Prop, (∀ a w, wpAnyC C P md ops Q fuel (listed.setIfInBounds i true) a w → K a w) → Oper.wp P o a w K Q)
    (h' : ∀ K : Act → World → Prop, (∀ a w, wpAnyC C P md ops Q fuel (listed.setIfInBounds i' true) a w → K a w) → Oper.wp P o' a w K Q) :
    wpAnyC C P md ops Q (fuel + 1) listed a w := by
  refine ⟨hC, fun h0 => (by rw [h0] at hr; cases hr), fun j hj => ?_⟩
  rw [hr] at hj
  have hj : j = i ∨ j = i' := by simpa using hj
  unfold wpOp
  rcases hj with rfl | rfl
  · simp only [hi, hwant, if_true]
    exact .inl (h _ fun _ _ g => g)
  · simp only [hi', hwant', if_true]
    exact .inl (h' _ fun _ _ g => g)
theorem wpC_done {listed : Array Bool} {fuel : Nat} {a : Act} {w : World} (hr : Region.ready md ops listed = []) (hC : C w) (h : Q .normal a w) : wpAnyC C P md ops Q fuel listed a w := by
  cases fuel with
  | zero => exact ⟨hC, hr, h⟩
  | succ fuel => exact ⟨hC, fun _ => h, fun i hi => by rw [hr] at hi; cases hi⟩
theorem wpC_region (C : World → Prop) {id : Nat} {a : Act} {w : World} (hm : P.follows .mixedOrders = true)
    (h : wpAnyC C P .any ops Q ops.size (Array.replicate ops.size false) a w.drew) : (Code.region id ops true).wp P Q a w :=
  wp_region_any hm (wpAnyC_sound _ _ _ _ h)
end
end Go.Proofs.Ytheliihkkoohnab

namespace Go.Proofs.Ytheliihkkoohnab
open Go.ChangeShapes Go.WideShapes Go.ChangeAt Go.RowKit
set_option linter.unusedVariables false
set_option linter.unusedSimpArgs false
set_option maxRecDepth 100000

theorem cthen {a W w : World} (h : Below a.heap.size a W) (hb : Below W.heap.size W w) : Below a.heap.size a w := h.trans (hb.mono h.size)
theorem cmore {a w : World} (h : Below a.heap.size a w) (o : Obj) : Below a.heap.size a (w.alloc o) := h.alloc h.size o
theorem cdrew {a W : World} (h : Below a.heap.size a W) : Below a.heap.size a W.drew := h.drew
theorem cset {a W : World} {b : Nat} (h : Below a.heap.size a W) (hb : a.heap.size ≤ b) (o : Nat) (v : Value) : Below a.heap.size a (W.setCell ⟨b, o, none⟩ v) := h.setCell hb _
theorem rowcell {w : World} {m : Nat} {c : Array Value} {t : TypeId} (h : w.heap[m]? = some (.cells c t (0, 0))) (k : Nat) : w.cell? ⟨m, k, none⟩ = c[k]? := by simp [World.cell?, h]
theorem rowfree {w : World} {m : Nat} {c : Array Value} {t : TypeId} (h : w.heap[m]? = some (.cells c t (0, 0))) (k : Nat) : w.frozen? ⟨m, k, none⟩ = false := by simp [World.frozen?, h]
theorem rowset {w : World} {m : Nat} {c : Array Value} {t : TypeId} (h : w.heap[m]? = some (.cells c t (0, 0))) (k : Nat) (v : Value) : (w.setCell ⟨m, k, none⟩ v).heap[m]? = some (.cells (c.setIfInBounds k v) t (0, 0)) :=
  heap_setCell_same w m k c t v h
theorem rownew (w : World) (c : Array Value) (t : TypeId) : (w.alloc (.cells c t)).heap[w.heap.size]? = some (.cells c t (0, 0)) := by
  show (w.heap.push _)[w.heap.size]? = _
  exact Array.getElem?_push_size
theorem rownew' (w : World) (c : Array Value) (t : TypeId) (m : Nat) (h : m = w.heap.size) : (w.alloc (.cells c t)).heap[m]? = some (.cells c t (0, 0)) := by subst h; exact rownew w c t
theorem cset8 {a W : World} {m : Nat} {v0 v1 v2 v3 v4 v5 v6 v7 : Value} (h : Below a.heap.size a W) (hb : a.heap.size ≤ m) :
    Below a.heap.size a ((((((((W.setCell ⟨m, 0, none⟩ v0).setCell ⟨m, 1, none⟩ v1).setCell ⟨m, 2, none⟩ v2).setCell ⟨m, 3, none⟩ v3).setCell ⟨m, 4, none⟩ v4).setCell ⟨m, 5, none⟩ v5).setCell ⟨m, 6, none⟩ v6).setCell ⟨m, 7, none⟩ v7) :=
  cset (cset (cset (cset (cset (cset (cset (cset h hb 0 v0) hb 1 v1) hb 2 v2) hb 3 v3) hb 4 v4) hb 5 v5) hb 6 v6) hb 7 v7
theorem rowlt {w : World} {m : Nat} {c : Array Value} {t : TypeId} (h : w.heap[m]? = some (.cells c t (0, 0))) : m < w.heap.size := (Array.getElem?_eq_some_iff.1 h).1
/-! ### Split -/
def fdV (neg : Bool) (l : List Bool) : Value := .agg #[.bool neg, .bool (onesL l), .int .i64 (runL l), .int .i64 (regL l), .int .i64 (min (restL l).length 2 : Nat), .int .i64 (expL l), .int .i64 ((restL l).length - 2 : Nat), .int .u64 (fracL l)]
theorem strS_length (n x : Nat) : (strS n x).length = n - 1 := by unfold strS; split <;> rw [List.length_drop, bitsOf_length]
theorem restL_length (l : List Bool) : (restL l).length = l.length - (runL l + 1) := by unfold restL; rw [List.length_drop]
theorem frac_drop (u : List Bool) (E : Nat) (h : (E = u.length ∧ u.length ≤ 2) ∨ (E = 2 ∧ 2 < u.length)) : u.drop E = u.drop 2 := by
  rcases h with ⟨rfl, h⟩ | ⟨rfl, h⟩
  · rw [List.drop_of_length_le (Nat.le_refl _), List.drop_of_length_le h]
  · rfl
theorem runL_le (l : List Bool) : runL l ≤ l.length := by
  cases l with
  | nil => exact Nat.le_refl _
  | cons b l =>
    have := (List.takeWhile_sublist (· == b) (l := l)).length_le
    rw [runL, List.length_cons]; omega
end Go.Proofs.Ytheliihkkoohnab

namespace Go.Proofs.Ytheliihkkoohnab
open Go.ChangeShapes Go.WideShapes Go.ChangeAt Go.RowKit
set_option linter.unusedVariables false
set_option linter.unusedSimpArgs false
set_option maxRecDepth 100000

theorem row4 {w : World} {m : Nat} {u0 u1 u2 u3 v0 v1 v2 v3 : Value} {t : TypeId} (h : w.heap[m]? = some (.cells #[u0, u1, u2, u3] t (0, 0))) :
    ((((w.setCell ⟨m, 0, none⟩ v0).setCell ⟨m, 1, none⟩ v1).setCell ⟨m, 2, none⟩ v2).setCell ⟨m, 3, none⟩ v3).heap[m]? = some (.cells #[v0, v1, v2, v3] t (0, 0)) := by
  have h := rowset h 0 v0
  simp only [List.setIfInBounds_toArray, List.set_cons_zero, List.set_cons_succ] at h
  have h := rowset h 1 v1
  simp only [List.setIfInBounds_toArray, List.set_cons_zero, List.set_cons_succ] at h
  have h := rowset h 2 v2
  simp only [List.setIfInBounds_toArray, List.set_cons_zero, List.set_cons_succ] at h
  have h := rowset h 3 v3
  simp only [List.setIfInBounds_toArray, List.set_cons_zero, List.set_cons_succ] at h
  exact h
theorem cset4 {a W : World} {m : Nat} {v0 v1 v2 v3 : Value} (h : Below a.heap.size a W) (hb : a.heap.size ≤ m) :
    Below a.heap.size a ((((W.setCell ⟨m, 0, none⟩ v0).setCell ⟨m, 1, none⟩ v1).setCell ⟨m, 2, none⟩ v2).setCell ⟨m, 3, none⟩ v3) :=
  cset (cset (cset (cset h hb 0 v0) hb 1 v1) hb 2 v2) hb 3 v3
/-! ### Decode -/
def numV (k : Int) (neg : Bool) (s : Int) (f : Nat) : Value := .agg #[.int .i64 k, .bool neg, .int .i64 s, .int .u64 f]
end Go.Proofs.Ytheliihkkoohnab

namespace Go.Proofs.Ytheliihkkoohnab
open Go.ChangeShapes Go.WideShapes Go.ChangeAt Go.RowKit
set_option linter.unusedVariables false
set_option linter.unusedSimpArgs false
set_option maxRecDepth 100000

end Go.Proofs.Ytheliihkkoohnab

namespace Go.Proofs.Ytheliihkkoohnab
open Go.ChangeShapes Go.WideShapes Go.ChangeAt Go.RowKit
set_option linter.unusedVariables false
set_option linter.unusedSimpArgs false
set_option maxRecDepth 100000

/-! ### which Nums are sound -/
def soundN (k : Int) (neg : Bool) (s : Int) (f : Nat) : Bool :=
  if k = 0 ∨ k = 2 then decide (neg = false ∧ s = 0 ∧ f = 0) else decide (k = 1 ∧ 9223372036854775808 ≤ f ∧ -1073741824 ≤ s ∧ s ≤ 1073741824)
/-! ### Encode -/
def inR (n : Nat) (s : Int) : Bool := decide (8 - 4 * (n : Int) ≤ s ∧ s ≤ 4 * n - 8)
end Go.Proofs.Ytheliihkkoohnab

namespace Go.Proofs.Ytheliihkkoohnab
set_option maxRecDepth 100000
set_option linter.unusedVariables false
set_option linter.unusedSimpArgs false

/-! ### patterns and their strings -/
theorem numOf_zero (t : List Bool) (h : numOf t = 0) : true ∉ t := by
  intro ht
  have : t = noughts t.length := numOf_inj (by simp) (by rw [h, numOf_noughts])
  rw [this, noughts, List.mem_replicate] at ht
  exact absurd ht.2 (by decide)
theorem numOf_pos (t : List Bool) (h : true ∈ t) : 0 < numOf t := Nat.pos_of_ne_zero fun e => numOf_zero t e h
theorem mem_of_pos (t : List Bool) (h : numOf t ≠ 0) : true ∈ t := by
  induction t with
  | nil => exact absurd rfl h
  | cons b t ih =>
    cases b
    · rw [numOf_cons] at h
      exact List.mem_cons_of_mem _ (ih (by simpa using h))
    · exact List.mem_cons_self ..
def patOf (n : Nat) (neg : Bool) (t : List Bool) : Nat := if neg then 2 ^ n - numOf t else numOf t
theorem wd_pows {n : Nat} (hn : Wd n) : ∃ H : Nat, 2 ^ n = 2 * H ∧ 2 ^ (n - 1) = H ∧ 128 ≤ H ∧ (∃ q, 18446744073709551616 = q * 2 ^ n ∧ 1 ≤ q) := by
  rcases hn with rfl | rfl | rfl | rfl
  · exact ⟨128, by decide, by decide, by decide, 72057594037927936, by decide, by decide⟩
  · exact ⟨32768, by decide, by decide, by decide, 281474976710656, by decide, by decide⟩
  · exact ⟨2147483648, by decide, by decide, by decide, 4294967296, by decide, by decide⟩
  · exact ⟨9223372036854775808, by decide, by decide, by decide, 1, by decide, by decide⟩
theorem minusU_mod (n x : Nat) (hn : Wd n) (hx : x < 2 ^ 64) : minusU x % 2 ^ n = (2 ^ n - x % 2 ^ n) % 2 ^ n := by
  obtain ⟨H, h1, h2, h3, q, hq, hq1⟩ := wd_pows hn
  unfold minusU
  generalize 2 ^ n = M at *
  by_cases h0 : x = 0
  · subst h0; simp
  · rw [Nat.mod_eq_of_lt (a := 18446744073709551616 - x) (by omega)]
    have hd := Nat.div_add_mod x M
    have hm := Nat.mod_lt x (show 0 < M by omega)
    generalize x % M = r at *
    generalize x / M = c at *
    have hcq : c < q := by
      refine Nat.lt_of_not_le fun hle => ?_
      have := Nat.mul_le_mul_right M hle
      rw [Nat.mul_comm c M] at this; omega
    have e : 18446744073709551616 - x = (M - r) + M * (q - 1 - c) := by
      have e1 : M * (q - 1 - c) + M * c + M = 18446744073709551616 := by
        rw [← Nat.mul_add, show q - 1 - c + c = q - 1 by omega, ← Nat.mul_succ, show (q - 1).succ = q by omega, hq, Nat.mul_comm]
      omega
    rw [e, Nat.add_mul_mod_self_left]
theorem top_of (n x : Nat) (hn : Wd n) (hx : x < 2 ^ n) : x.testBit (n - 1) = decide (2 ^ (n - 1) ≤ x) := by
  obtain ⟨H, h1, h2, h3, _⟩ := wd_pows hn
  rw [h2]
  have := top_bit x (n - 1) (by rw [h2]; omega)
  rw [this, h2]
theorem testBit_low (x n : Nat) (h : 1 ≤ n) : x.testBit (n - 1) = (x % 2 ^ n).testBit (n - 1) := by
  rw [Nat.testBit_mod_two_pow]
  have : n - 1 < n := by omega
  simp [this]
theorem strS_num (n x : Nat) (hn : Wd n) (hx : x < 2 ^ 64) : numOf (strS n x) = (if x.testBit (n - 1) then 2 ^ n - x % 2 ^ n else x % 2 ^ n) % 2 ^ (n - 1) := by
  have hw := wd_le hn
  have drop1 : ∀ y, numOf ((bitsOf y n).drop 1) = y % 2 ^ (n - 1) := fun y => by
    have hl : (bitsOf y n).length = n := bitsOf_length _ _
    have e := numOf_bits y n
    cases hc : bitsOf y n with
    | nil => rw [hc] at hl; simp at hl; omega
    | cons b l =>
      rw [hc] at hl e
      have hl2 : l.length = n - 1 := by simp at hl; omega
      have h5 := numOf_lt l
      rw [numOf_cons, hl2] at e
      rw [hl2] at h5
      show numOf l = _
      obtain ⟨H, h1, h2, h3, _⟩ := wd_pows hn
      have e2 : y % 2 ^ (n - 1) = (y % 2 ^ n) % 2 ^ (n - 1) := (Nat.mod_mod_of_dvd y (Nat.pow_dvd_pow 2 (by omega))).symm
      rw [e2, ← e, Nat.mul_comm, Nat.mul_add_mod, Nat.mod_eq_of_lt h5]
  unfold strS
  obtain ⟨H, h1, h2, h3, _⟩ := wd_pows hn
  have dv : ∀ y, (y % 2 ^ n) % 2 ^ (n - 1) = y % 2 ^ (n - 1) := fun y => Nat.mod_mod_of_dvd y (Nat.pow_dvd_pow 2 (by omega))
  cases x.testBit (n - 1)
  · simp only [Bool.false_eq_true, if_false]
    rw [drop1, dv]
  · simp only [if_true]
    rw [drop1, ← dv, minusU_mod n x hn hx, dv]
theorem patOf_str (n x : Nat) (hn : Wd n) (hx : x < 2 ^ 64) (hk : kindOf n (x % 2 ^ n) = 1) : true ∈ strS n x ∧ patOf n (x.testBit (n - 1)) (strS n x) = x % 2 ^ n := by
  have hw := wd_le hn
  obtain ⟨H, h1, h2, h3, _⟩ := wd_pows hn
  have hnum := strS_num n x hn hx
  have hm := Nat.mod_lt x (show 0 < 2 ^ n by omega)
  have htb := testBit_low x n (by omega)
  have htop := top_of n _ hn hm
  rw [← htb] at htop
  unfold kindOf at hk
  have h0 : ¬ x % 2 ^ n = 0 := fun e => by rw [if_pos e] at hk; exact absurd hk (by decide)
  rw [if_neg h0] at hk
  have h9 : ¬ x % 2 ^ n = 2 ^ (n - 1) := fun e => by rw [if_pos e] at hk; exact absurd hk (by decide)
  rw [h2] at h9 htop hnum
  rw [h1] at hm hnum
  unfold patOf
  rw [h1]
  rw [h1] at h0 h9 htop
  generalize x % (2 * H) = y at *
  by_cases hc : H ≤ y
  · rw [decide_eq_true hc] at htop
    rw [htop] at hnum ⊢
    simp only [if_true] at hnum ⊢
    rw [Nat.mod_eq_of_lt (by omega)] at hnum
    exact ⟨mem_of_pos _ (by omega), by omega⟩
  · rw [decide_eq_false hc] at htop
    rw [htop] at hnum ⊢
    simp only [Bool.false_eq_true, if_false] at hnum ⊢
    rw [Nat.mod_eq_of_lt (by omega)] at hnum
    exact ⟨mem_of_pos _ (by omega), by omega⟩
end Go.Proofs.Ytheliihkkoohnab

namespace Go.Proofs.Ytheliihkkoohnab
open Go.ChangeShapes Go.WideShapes Go.ChangeAt Go.RowKit
set_option linter.unusedVariables false
set_option linter.unusedSimpArgs false
set_option maxRecDepth 100000

end Go.Proofs.Ytheliihkkoohnab

namespace Go.Proofs.Ytheliihkkoohnab
open Go.ChangeShapes Go.WideShapes Go.ChangeAt Go.RowKit
set_option linter.unusedVariables false
set_option linter.unusedSimpArgs false
set_option maxRecDepth 100000

end Go.Proofs.Ytheliihkkoohnab

namespace Go.Proofs.Ytheliihkkoohnab
open Go.ChangeShapes Go.WideShapes Go.ChangeAt Go.RowKit
set_option linter.unusedVariables false
set_option linter.unusedSimpArgs false
set_option maxRecDepth 100000

/-! ### Join: the string that parts seem to write -/
end Go.Proofs.Ytheliihkkoohnab

namespace Go.Proofs.Ytheliihkkoohnab
open Go.ChangeShapes Go.WideShapes Go.ChangeAt Go.RowKit
set_option linter.unusedVariables false
set_option linter.unusedSimpArgs false
set_option maxRecDepth 100000

/-! ### Join -/
end Go.Proofs.Ytheliihkkoohnab

namespace Go.Proofs.Ytheliihkkoohnab
set_option maxRecDepth 100000
open Go.ChangeShapes Go.WideShapes Go.ChangeAt Go.RowKit

/-! ### Show -/
/-! ### Run -/
/-- a run: the highest bit of the lowest n, and how many like it -/
structure IsRun (x n : Nat) (b : Bool) (k : Nat) : Prop where
  bit : b = x.testBit (n - 1)
  low : 1 ≤ k
  high : k ≤ n
  same : ∀ j, j < k → x.testBit (n - 1 - j) = b
  ends : k < n → x.testBit (n - 1 - k) ≠ b
theorem IsRun.one {x n : Nat} {b b' : Bool} {k k' : Nat} (h : IsRun x n b k) (h' : IsRun x n b' k') : b = b' ∧ k = k' := by
  have e : b = b' := by rw [h.bit, h'.bit]
  subst e
  refine ⟨rfl, ?_⟩
  rcases Nat.lt_trichotomy k k' with c | c | c
  · exact absurd (h'.same k c) (h.ends (by have := h'.high; omega))
  · exact c
  · exact absurd (h.same k' c) (h'.ends (by have := h.high; omega))
/-- how many bits a number has -/
structure IsLen (x L : Nat) : Prop where
  le : L ≤ 64
  lt : x < 2 ^ L
  top : 0 < L → x.testBit (L - 1) = true
theorem bitLen_zero : Lib.bitLen 0 = 0 := by decide
theorem isLen_bitLen (x : Nat) (hx : x < 2 ^ 64) : IsLen x (Lib.bitLen x) := by
  by_cases h0 : x = 0
  · subst h0
    rw [bitLen_zero]
    exact ⟨by omega, by simp, fun h => absurd h (by omega)⟩
  · have hl : 2 ^ x.log2 ≤ x := Nat.log2_self_le h0
    have hu : x < 2 ^ (x.log2 + 1) := Nat.lt_log2_self
    have h64 : x.log2 < 64 := (Nat.log2_lt h0).2 hx
    have e : Lib.bitLen x = x.log2 + 1 := by
      rw [Lib.bitLen_shift x.log2 x hl hx]
      have h1 : x / 2 ^ x.log2 = 1 := by
        have hp : 0 < 2 ^ x.log2 := Nat.pos_of_ne_zero (by simp)
        have a : 1 ≤ x / 2 ^ x.log2 := (Nat.le_div_iff_mul_le hp).2 (by omega)
        have b : x / 2 ^ x.log2 < 2 := (Nat.div_lt_iff_lt_mul hp).2 (by rw [Nat.mul_comm, ← Nat.pow_succ]; exact hu)
        omega
      rw [h1, show Lib.bitLen 1 = 1 by decide]
    rw [e]
    refine ⟨by omega, hu, fun _ => ?_⟩
    rw [Nat.add_sub_cancel, top_bit x x.log2 (by rw [← Nat.pow_succ']; exact hu)]
    simpa using hl
theorem lz_any (x : Nat) (hx : x < 2 ^ 64) (w : World) :
    Calls Try.prog 56 #[.int .u64 x] w fun e w' => ∃ L : Nat, e = .returned (.int .i64 (64 - (L : Int))) ∧ IsLen x L ∧ w' = w := by
  have hl : Lib.bitLen x ≤ 64 := Lib.bitLen_le x 64 (by decide) hx
  refine cps fun Q hQ => ?_
  go_enter Try.func56, Try.ntmps56
  go_wp2_with (go_at_call 79; refine (len64_any x hx _).mono ?_; rintro e w' ⟨rfl, rfl⟩)
  exact hQ.out _ _ ⟨_, rfl, isLen_bitLen x hx, rfl⟩
theorem xorMax (H : Nat) (h : H < 2 ^ 64) : bits BinOp.xor IntKind.u64 IntKind.u64.max (H : Int) = ((18446744073709551615 - H : Nat) : Int) := by
  have e : IntKind.u64.max = ((18446744073709551615 : Nat) : Int) := by decide
  rw [e, u64_xor_nat _ _ (by decide) h]
  congr 1
  apply ext64 (Nat.xor_lt_two_pow (by decide) h) (by omega)
  intro i hi
  rw [Nat.testBit_xor, not_bit H i h hi]
  have : (18446744073709551615 : Nat).testBit i = true := by
    rw [show (18446744073709551615 : Nat) = 2 ^ 64 - 1 from rfl, Nat.testBit_two_pow_sub_one]; simpa using hi
  rw [this]; simp
theorem head_bit (x n j : Nat) (hn : n ≤ 64) (hj : j < 64) : ((x <<< (64 - n)) % 2 ^ 64).testBit (63 - j) = (decide (j < n) && x.testBit (n - 1 - j)) := by
  rw [Nat.testBit_mod_two_pow, Nat.testBit_shiftLeft]
  by_cases h : j < n
  · have e : 63 - j - (64 - n) = n - 1 - j := by omega
    have e1 : 63 - j < 64 := by omega
    have e2 : 63 - j ≥ 64 - n := by omega
    simp [h, e, e1, e2]
  · have e2 : ¬ 63 - j ≥ 64 - n := by omega
    simp [h, e2]
/-- the run, off the length of what was shifted up (and turned, where it is of ones) -/
theorem isRun_of (x n H L : Nat) (b : Bool) (h1 : 1 ≤ n) (h2 : n ≤ 64) (hb : b = x.testBit (n - 1)) (hH : ∀ j, j < 64 → H.testBit (63 - j) = ((decide (j < n) && x.testBit (n - 1 - j)) ^^ b)) (hL : IsLen H L) :
    ∃ k : Nat, ((64 - (L : Int)) ≤ n → 64 - (L : Int) = k) ∧ ((n : Int) < 64 - (L : Int) → n = k) ∧ IsRun x n b k := by
  have hz : ∀ j, j < 64 - L → H.testBit (63 - j) = false := fun j hj => Nat.testBit_lt_two_pow (Nat.lt_of_lt_of_le hL.lt (Nat.pow_le_pow_right (by decide) (by omega)))
  have hlow : 1 ≤ 64 - L := by
    rcases Nat.lt_or_ge L 64 with h | h
    · omega
    · have hl := hL.le
      have : L = 64 := by omega
      have ht := hL.top (by omega)
      rw [this] at ht
      have h0 := hH 0 (by omega)
      rw [show 63 - 0 = 64 - 1 from rfl, ht] at h0
      have hn : 0 < n := h1
      simp [hn, ← hb] at h0
  have same : ∀ j, j < n → j < 64 - L → x.testBit (n - 1 - j) = b := by
    intro j hj hj2
    have e := hH j (by omega)
    rw [hz j hj2] at e
    simp [hj] at e
    cases b <;> simp_all
  rcases Nat.lt_or_ge (64 - L) n with h | h
  · refine ⟨64 - L, by omega, by omega, hb, hlow, by omega, fun j hj => same j (by omega) hj, fun _ => ?_⟩
    have ht := hL.top (by omega)
    have e := hH (64 - L) (by omega)
    rw [show 63 - (64 - L) = L - 1 by omega, ht] at e
    simp [h] at e
    cases b <;> simp_all
  · refine ⟨n, by omega, fun _ => rfl, hb, h1, Nat.le_refl _, fun j hj => same j hj (by omega), fun h => absurd h (by omega)⟩
theorem lrun_ok (x n : Nat) (h1 : 1 ≤ n) (h2 : n ≤ 64) (w : World) :
    Calls Try.prog 36 #[.int .u64 x, .int .i64 n] w fun e w' => ∃ b k, e = .returned (.tuple #[.bool b, .int .i64 (k : Nat), .nilIface]) ∧ IsRun x n b k ∧ w' = w := by
  obtain ⟨H, hH⟩ : ∃ H, H = (x <<< (64 - n)) % 2 ^ 64 := ⟨_, rfl⟩
  have hlt : H < 2 ^ 64 := by rw [hH]; exact Nat.mod_lt _ (by decide)
  have hw : IntKind.u64.wrap ((x : Int) * 2 ^ (64 - n)) = (H : Int) := by rw [hH]; exact wrapShl x (64 - n)
  have hbits : Hid (∀ j, j < 64 → H.testBit (63 - j) = (decide (j < n) && x.testBit (n - 1 - j))) := fun j hj => by rw [hH]; exact head_bit x n j h2 hj
  obtain ⟨C, hC⟩ : ∃ C, C = 18446744073709551615 - H := ⟨_, rfl⟩
  have hCl : C < 2 ^ 64 := by omega
  have hxor := xorMax H hlt
  rw [← hC] at hxor
  have htop : Hid (x.testBit (n - 1) = decide (2 ^ 63 ≤ H)) := by
    have e := hbits.out 0 (by omega)
    have hn : 0 < n := h1
    rw [show 63 - 0 = 63 from rfl, top_bit H 63 (by omega)] at e
    exact (show x.testBit (n - 1) = _ by simpa [hn] using e.symm)
  have htop' : (((H : Int) / 9223372036854775808 == 1) = decide (2 ^ 63 ≤ H)) := by
    rw [Bool.eq_iff_iff]; simp; omega
  have hbC : Hid (∀ j, j < 64 → C.testBit (63 - j) = !H.testBit (63 - j)) := fun j hj => by rw [hC]; exact not_bit H _ hlt (by omega)
  clear hH hC
  have HL : Hid (H < 2 ^ 64) := hlt
  have CL : Hid (C < 2 ^ 64) := hCl
  clear hlt hCl
  refine cps fun Q hQ => ?_
  cases hc : decide (2 ^ 63 ≤ H)
  · rw [hc] at htop' htop
    clear hc
    go_enter Try.func36, Try.ntmps36
    go_wp2_with (go_at_call 56; refine (lz_any H HL.out _).mono ?_; rintro e w' ⟨L, rfl, hL, rfl⟩)
    all_goals
      obtain ⟨k, hk1, hk2, hr⟩ := isRun_of x n H L false h1 h2 htop.out.symm (fun j hj => by rw [hbits.out j hj]; simp) hL
      go_ret3
      exact hQ.out _ _ ⟨false, k, ret_bix rfl (by omega), hr, rfl⟩
  · rw [hc] at htop' htop
    clear hc
    go_enter Try.func36, Try.ntmps36
    go_wp2_with (go_at_call 56; refine (lz_any C CL.out _).mono ?_; rintro e w' ⟨L, rfl, hL, rfl⟩)
    all_goals
      obtain ⟨k, hk1, hk2, hr⟩ := isRun_of x n C L true h1 h2 htop.out.symm (fun j hj => by rw [hbC.out j hj, hbits.out j hj]; simp) hL
      go_ret3
      exact hQ.out _ _ ⟨true, k, ret_bix rfl (by omega), hr, rfl⟩
end Go.Proofs.Ytheliihkkoohnab

namespace Go.Proofs.Ytheliihkkoohnab
set_option maxRecDepth 100000
set_option linter.unusedVariables false
set_option linter.unusedSimpArgs false

/-! ### bits put, bits read, of a word that is a string (plain mathematics) -/
theorem numOf_noughts_append (z : Nat) (l : List Bool) : numOf (noughts z ++ l) = numOf l := by
  rw [numOf_append, numOf_noughts]; simp
/-- bits read out of a word that ends with a string -/
theorem fieldOf_mod (y at_ m k : Nat) (h : at_ + m ≤ k) : fieldOf y at_ m = fieldOf (y % 2 ^ k) at_ m := by
  apply Nat.eq_of_testBit_eq
  intro i
  rw [fieldOf, fieldOf, Nat.testBit_mod_two_pow, Nat.testBit_mod_two_pow, Nat.testBit_shiftRight, Nat.testBit_shiftRight, Nat.testBit_mod_two_pow]
  by_cases hi : i < m
  · rw [decide_eq_true (show at_ + i < k by omega)]; simp
  · simp [hi]
theorem fieldOf_list (a b c : List Bool) : fieldOf (numOf (a ++ b ++ c)) c.length b.length = numOf b := by
  have hc := numOf_lt c
  have hb := numOf_lt b
  have h0 : 0 < 2 ^ c.length := Nat.pos_of_ne_zero (by simp)
  rw [fieldOf, numOf_append, numOf_append, Nat.shiftRight_eq_div_pow, Nat.mul_comm, Nat.mul_add_div h0, Nat.div_eq_of_lt hc, Nat.add_zero, Nat.mul_comm, Nat.mul_add_mod, Nat.mod_eq_of_lt hb]
/-- the parts of a string, read off a word that ends with it -/
theorem exp_field (t : List Bool) (y m E F : Nat) (hl : t.length = m) (hy : y % 2 ^ m = numOf t) (hE : E = min (restL t).length 2) (hF : F = (restL t).length - E) :
    fieldOf y F E * 2 ^ (2 - E) = expL t ∧ fieldOf y 0 F = fracL t := by
  have hr := restL_length t
  have ht : t = t.take (runL t + 1) ++ (restL t).take E ++ (restL t).drop E := by
    rw [List.append_assoc, List.take_append_drop, restL, List.take_append_drop]
  have l1 : ((restL t).take E).length = E := by rw [List.length_take]; omega
  have l2 : ((restL t).drop E).length = F := by rw [List.length_drop]; omega
  have hEu : (E = (restL t).length ∧ (restL t).length ≤ 2) ∨ (E = 2 ∧ 2 < (restL t).length) := by omega
  have f1 := fieldOf_list (t.take (runL t + 1)) ((restL t).take E) ((restL t).drop E)
  have f2 := fieldOf_list (t.take (runL t + 1) ++ (restL t).take E) ((restL t).drop E) []
  rw [List.append_nil, List.length_nil] at f2
  rw [← ht, l1, l2] at f1
  rw [← ht, l2] at f2
  constructor
  · rw [fieldOf_mod y F E m (by omega), hy, f1]
    unfold expL
    have : (restL t ++ noughts 2).take 2 = (restL t).take E ++ noughts (2 - E) := by
      rcases hEu with ⟨h1, h2⟩ | ⟨h1, h2⟩
      · rw [List.take_append, List.take_of_length_le h2, h1, List.take_of_length_le (Nat.le_refl _), take_noughts _ _ (by omega)]
      · rw [h1, List.take_append_of_le_length (by omega)]; simp [noughts]
    rw [this, numOf_append, numOf_noughts]; simp
  · rw [fieldOf_mod y 0 F m (by omega), hy, f2, frac_drop _ _ hEu]; rfl
/-- the run of a string, read off a word that ends with it -/
theorem run_field (t : List Bool) (y m : Nat) (h0 : 0 < m) (hl : t.length = m) (hy : y % 2 ^ m = numOf t) : IsRun y m (onesL t) (runL t) := by
  have hne : t ≠ [] := by rintro rfl; simp at hl; omega
  obtain ⟨b, r, tl, rfl, htl⟩ := split_run t hne
  have hbit : ∀ j, j < m → y.testBit (m - 1 - j) = (List.replicate (r + 1) b ++ tl).getD j false := fun j hj => by
    have : (y % 2 ^ m).testBit (m - 1 - j) = y.testBit (m - 1 - j) := by
      rw [Nat.testBit_mod_two_pow, decide_eq_true (by omega)]; rfl
    rw [← this, hy, numOf_testBit, hl, decide_eq_true (by omega), show m - 1 - (m - 1 - j) = j by omega]; rfl
  rw [runL_rep b r tl htl, onesL_rep]
  have hl' : r + 1 + tl.length = m := by simpa using hl
  refine ⟨?_, by omega, by omega, ?_, ?_⟩
  · have := hbit 0 h0
    rw [Nat.sub_zero] at this
    rw [this, List.replicate_succ]; rfl
  · intro j hj
    rw [hbit j (by omega), List.getD_eq_getElem?_getD, List.getElem?_append_left (by simpa using hj), List.getElem?_replicate, if_pos hj]; rfl
  · intro hk
    rw [hbit (r + 1) hk, List.getD_eq_getElem?_getD, List.getElem?_append_right (by simp)]
    rcases htl with rfl | ⟨u, rfl⟩
    · simp at hl'; omega
    · simp
theorem bits_drop1 (x m : Nat) (h : 1 ≤ m) : (bitsOf x m).drop 1 = bitsOf x (m - 1) := by
  apply List.ext_getElem?
  intro j
  by_cases hj : j < m - 1
  · rw [List.getElem?_drop, bitsOf_get _ _ _ (by omega), bitsOf_get _ _ _ hj]
    congr 2; omega
  · rw [List.getElem?_eq_none (by rw [List.length_drop, bitsOf_length]; omega), List.getElem?_eq_none (by rw [bitsOf_length]; omega)]
end Go.Proofs.Ytheliihkkoohnab

namespace Go.Proofs.Ytheliihkkoohnab
open Go.ChangeShapes Go.WideShapes Go.ChangeAt Go.RowKit
set_option linter.unusedVariables false
set_option linter.unusedSimpArgs false
set_option maxRecDepth 100000

theorem ret_ii {k : IntKind} {a b c d : Int} (h : a = b) (g : c = d) : Ending.returned (.tuple #[.int k a, .int k c]) = .returned (.tuple #[.int k b, .int k d]) := by rw [h, g]
/-! ### the code's helpers: regime, row, room, assemble -/
theorem cregime_any (ones : Bool) (run : Int) (h1 : -1000 ≤ run) (h2 : run ≤ 1000) (w : World) :
    Calls Try.prog 37 #[.bool ones, .int .i64 run] w fun e w' => e = .returned (.int .i64 (if ones then run - 1 else -run)) ∧ w' = w := by
  refine cps fun Q hQ => ?_
  cases ones
  · go_enter Try.func37, Try.ntmps37
    go_wp2
    exact hQ.out _ _ ⟨ret_i rfl, rfl⟩
  · go_enter Try.func37, Try.ntmps37
    go_wp2
    exact hQ.out _ _ ⟨ret_i rfl, rfl⟩
theorem croom_any (n run : Nat) (hn : n ≤ 64) (h2 : run ≤ 64) (w : World) :
    Calls Try.prog 38 #[.int .i64 n, .int .i64 run] w fun e w' => e = .returned (.tuple #[.int .i64 (min (n - 2 - run) 2 : Nat), .int .i64 (n - 2 - run - min (n - 2 - run) 2 : Nat)]) ∧ w' = w := by
  refine cps fun Q hQ => ?_
  obtain ⟨q, hq⟩ : ∃ q, q = n - 2 - run := ⟨_, rfl⟩
  rw [← hq] at hQ
  obtain ⟨E, hE⟩ : ∃ E, E = min q 2 := ⟨_, rfl⟩
  rw [← hE] at hQ
  have HQ2 : Hid (q = n - 2 - run ∧ E = min q 2) := ⟨hq, hE⟩
  clear hq hE
  go_enter Try.func38, Try.ntmps38
  go_wp2
  all_goals
    obtain ⟨h3, h4⟩ := HQ2.out
    exact hQ.out _ _ ⟨ret_ii (by omega) (by omega), rfl⟩
end Go.Proofs.Ytheliihkkoohnab

namespace Go.Proofs.Ytheliihkkoohnab
open Go.ChangeShapes Go.WideShapes Go.ChangeAt Go.RowKit
set_option linter.unusedVariables false
set_option linter.unusedSimpArgs false
set_option maxRecDepth 100000

/-! ### assemble -/
theorem isField_nat {a m : Nat} (h : a + m ≤ 64) : isField a m = true := by simp [isField]; omega
end Go.Proofs.Ytheliihkkoohnab

namespace Go.Proofs.Ytheliihkkoohnab
open Go.ChangeShapes Go.WideShapes Go.ChangeAt Go.RowKit
set_option linter.unusedVariables false
set_option linter.unusedSimpArgs false
set_option maxRecDepth 100000

/-! ### Split -/
abbrev codeV (c : Int) : Value := .iface 29 (.int .i64 c)
theorem crun_str (n y : Nat) (hn : Wd n) (t : List Bool) (hl : t.length = n - 1) (hy : y % 2 ^ (n - 1) = numOf t) (M : Int) (hM : M = (n : Int) - 1) (w : World) :
    Calls Try.prog 36 #[.int .u64 y, .int .i64 M] w fun e w' => e = .returned (.tuple #[.bool (onesL t), .int .i64 (runL t : Nat), .nilIface]) ∧ w' = w := by
  have hw := wd_le hn
  have := lrun_ok y (n - 1) (by omega) (by omega) w
  rw [show (((n - 1 : Nat) : Int)) = M by omega] at this
  refine this.mono ?_
  rintro e w' ⟨b, k, rfl, hr, rfl⟩
  obtain ⟨rfl, rfl⟩ := hr.one (run_field t y (n - 1) (by omega) hl hy)
  exact ⟨rfl, rfl⟩
theorem cfield_nat (y a m : Nat) (hy : y < 2 ^ 64) (h : a + m ≤ 64) (A : Int) (hA : A = a) (w : World) :
    Calls Try.prog 39 #[.int .u64 y, .int .i64 A, .int .i64 m] w fun e w' => e = .returned (.tuple #[.int .u64 (fieldOf y a m : Nat), .nilIface]) ∧ ∃ q, w' = w.drewN q := by
  subst hA
  have := lfield_ok y a m hy (isField_nat h) w
  rwa [Int.toNat_natCast, Int.toNat_natCast] at this
theorem strS_word (n x : Nat) (hn : Wd n) (hx : x < 2 ^ 64) : (if x.testBit (n - 1) then minusU x else x) % 2 ^ (n - 1) = numOf (strS n x) := by
  have hw := wd_le hn
  have drop1 : ∀ y, numOf ((bitsOf y n).drop 1) = y % 2 ^ (n - 1) := fun y => by
    have := bits_drop1 y n (by omega)
    rw [this, numOf_bits]
  unfold strS
  cases x.testBit (n - 1)
  · simp only [Bool.false_eq_true, if_false]; rw [drop1]
  · simp only [if_true]; rw [drop1]
theorem ext_neg (n x : Nat) (hn : Wd n) : decide (extOf x n < 0) = x.testBit (n - 1) := by
  have h := Nat.mod_lt x (show 0 < 2 ^ n from Nat.pos_of_ne_zero (by simp))
  unfold extOf
  cases x.testBit (n - 1)
  · exact decide_eq_false (by simp only [Bool.toNat_false, Nat.zero_mul]; omega)
  · exact decide_eq_true (by simp only [Bool.toNat_true, Nat.one_mul]; omega)
set_option maxHeartbeats 1000000 in
theorem csplit_real (n x : Nat) (hn : Wd n) (hx : x < 2 ^ 64) (hk : kindOf n (x % 2 ^ n) = 1) (w : World) :
    Calls Try.prog 22 #[.int .i64 n, .int .u64 x] w fun e w' => e = .returned (.tuple #[fdV (x.testBit (n - 1)) (strS n x), .nilIface]) ∧ Below w.heap.size w w' := by
  have k1 := kind_ok n x hn hx
  rw [hk] at k1
  have hw := wd_le hn
  have hlen := strS_length n x
  have k2 := rank_ok n x hn
  have hneg := ext_neg n x hn
  have hm := minusU_wrap x hx
  have hyw := strS_word n x hn hx
  obtain ⟨y, hy⟩ : ∃ y, y = (if x.testBit (n - 1) then minusU x else x) := ⟨_, rfl⟩
  rw [← hy] at hyw
  have hy64 : y < 2 ^ 64 := by rw [hy]; split; exact minusU_lt _; exact hx
  have k3 := fun M hM w => crun_str n y hn (strS n x) hlen hyw M hM w
  replace k3 := k3 ((n : Int) - 1) rfl
  have hrl := runL_le (strS n x)
  have hrl2 := restL_length (strS n x)
  have hr1 : 1 ≤ runL (strS n x) := by
    have := (run_field (strS n x) y (n - 1) (by omega) hlen hyw).low
    exact this
  rw [hlen] at hrl hrl2
  obtain ⟨r, hr⟩ : ∃ r, r = runL (strS n x) := ⟨_, rfl⟩
  obtain ⟨E, hE⟩ : ∃ E, E = min (n - 2 - r) 2 := ⟨_, rfl⟩
  obtain ⟨F, hF⟩ : ∃ F, F = n - 2 - r - E := ⟨_, rfl⟩
  obtain ⟨d, hd⟩ : ∃ d, d = 2 - E := ⟨_, rfl⟩
  have hE' : E = min (restL (strS n x)).length 2 := by rw [hrl2, hE, ← hr]; congr 1; omega
  have hF' : F = (restL (strS n x)).length - E := by rw [hrl2, hF, ← hr]; omega
  obtain ⟨f1, f2⟩ := exp_field (strS n x) y (n - 1) E F hlen hyw hE' hF'
  have hex : expL (strS n x) < 4 := by
    have := numOf_lt ((restL (strS n x) ++ noughts 2).take 2)
    rw [show ((restL (strS n x) ++ noughts 2).take 2).length = 2 by simp] at this
    exact this
  have k4 := cregime_any (onesL (strS n x)) (runL (strS n x)) (by omega) (by omega)
  have k5 := croom_any n (runL (strS n x)) hw.2 (by omega)
  rw [← hr] at k3 k4 k5 hrl hr1
  rw [← hE, ← hF] at k5
  have k6 := cfield_nat y F E hy64 (by omega) F rfl
  have k7 := cfield_nat y 0 F hy64 (by omega) 0 rfl
  rw [f2] at k7
  have hev : fieldOf y F E < 4 := by
    have : 0 < 2 ^ (2 - E) := Nat.pos_of_ne_zero (by simp)
    have h := Nat.le_mul_of_pos_right (fieldOf y F E) this
    omega
  have hdd : (2 : Int) - (E : Int) = (d : Int) := by omega
  have hv : fdV (x.testBit (n - 1)) (strS n x) = .agg #[.bool (x.testBit (n - 1)), .bool (onesL (strS n x)), .int .i64 r, .int .i64 (if onesL (strS n x) then (r : Int) - 1 else -(r : Int)), .int .i64 (E : Nat), .int .i64 (expL (strS n x)), .int .i64 (F : Nat), .int .u64 (fracL (strS n x))] := by
    unfold fdV regL
    rw [← hr, ← hE', show (restL (strS n x)).length - 2 = F by omega]
  rw [hv]
  rw [← hd] at f1
  obtain ⟨ex, hexx⟩ : ∃ ex, ex = expL (strS n x) := ⟨_, rfl⟩
  rw [← hexx] at f1 hex
  rw [← hexx]
  have hsh : ((fieldOf y F E : Nat) : Int) * 2 ^ d = (ex : Int) := by rw [← f1]; simp
  have hshw : wrap64 (((fieldOf y F E : Nat) : Int) * 2 ^ d) = (ex : Int) := by rw [hsh]; unfold wrap64; omega
  clear hsh
  have hd2 : d ≤ 2 := by omega
  have hE2 : E ≤ 2 := by omega
  have hF2 : F ≤ 62 := by omega
  have hr2 : r ≤ 63 := by omega
  clear f1 f2 hv hE hF hE' hF' hd hrl hrl2 hr hexx hyw hlen hk
  obtain ⟨b, hb⟩ : ∃ b, b = x.testBit (n - 1) := ⟨_, rfl⟩
  rw [← hb] at hneg hy
  rw [← hb]
  clear hb
  generalize onesL (strS n x) = o at *
  generalize fracL (strS n x) = fr at *
  generalize fieldOf y F E = ev at *
  obtain ⟨rg, hrg⟩ : ∃ rg : Int, rg = (if o then (r : Int) - 1 else -(r : Int)) := ⟨_, rfl⟩
  rw [← hrg] at k4
  rw [← hrg]
  clear hrg
  generalize extOf x n = ext at *
  refine cps fun Q hQ => ?_
  clear hn
  cases b
  · simp only [Bool.false_eq_true, if_false] at hy
    subst hy
    go_enter Try.func22, Try.ntmps22
    go_wp2_with (first
      | (go_at_call 21; go_must (refine (k1 _).mono ?_); rintro e w1 ⟨rfl, hb1⟩; have R1 := (hb1.block w.heap.size (by simp)).trans (rownew w _ _); have z1 : w.heap.size < w1.heap.size := (by have := hb1.size; simp at this; omega); have HR1 : Hid _ := R1; have HB1 : Hid (Below _ _ _) := hb1; clear hb1 R1)
      | (go_at_call 35; go_must (refine (k2 _).mono ?_); rintro e w2 ⟨rfl, hb2⟩; have R0 := (hb2.block w.heap.size z1).trans HR1.out; have z2 : w.heap.size < w2.heap.size := (Nat.lt_of_lt_of_le z1 hb2.size); have HR0 : Hid _ := R0; have hne1 : ¬ w.heap.size = w2.heap.size := (by omega); have hne2 : ¬ w2.heap.size = w.heap.size := (by omega); have HB2 : Hid (Below _ _ _) := hb2; clear hb2 R0)
      | (go_at_call 36; go_must (refine (k3 _).mono ?_); rintro e w3 ⟨rfl, rfl⟩)
      | (go_at_call 37; go_must (refine (k4 _).mono ?_); rintro e w3 ⟨rfl, rfl⟩)
      | (go_at_call 38; go_must (refine (k5 _).mono ?_); rintro e w3 ⟨rfl, rfl⟩)
      | (go_at_call_of 39 E; go_must (refine (k6 _).mono ?_); rintro e w6 ⟨rfl, q6, hw6⟩; have R6 : w6.heap[w2.heap.size]? = some (.cells #[.bool false, .bool o, .int .i64 r, .int .i64 rg, .int .i64 (E : Nat), .int .i64 0, .int .i64 (F : Nat), .int .u64 0] 53 (0, 0)) := (by rw [hw6]; exact rownew w2 _ _); have B6 : Below w2.heap.size w2 w6 := (by rw [hw6]; exact below_drewN (cmore (Below.refl _ _) _) _); have e0 := rowcell R6 0; have e1 := rowcell R6 1; have e2 := rowcell R6 2; have e3 := rowcell R6 3; have e4 := rowcell R6 4; have e5 := rowcell R6 5; have e6 := rowcell R6 6; have e7 := rowcell R6 7; have ef := rowfree R6; simp only [List.getElem?_toArray, List.getElem?_cons_zero, List.getElem?_cons_succ] at e0 e1 e2 e3 e4 e5 e6 e7; have HR6 : Hid _ := R6; have HB6 : Hid (Below _ _ _) := B6; clear R6 B6 hw6)
      | (go_at_call 39; go_must (refine (k7 _).mono ?_); rintro e w7 ⟨rfl, q7, hw7⟩; have R7 : w7.heap[w2.heap.size]? = some (.cells #[.bool false, .bool o, .int .i64 r, .int .i64 rg, .int .i64 (E : Nat), .int .i64 ex, .int .i64 (F : Nat), .int .u64 0] 53 (0, 0)) := (by rw [hw7]; refine (rowset HR6.out 5 _).trans ?_; simp only [List.setIfInBounds_toArray, List.set_cons_zero, List.set_cons_succ]); have B7 : Below w2.heap.size w2 w7 := (by rw [hw7]; exact below_drewN (cset HB6.out (Nat.le_refl _) _ _) _); have g0 := rowcell R7 0; have g1 := rowcell R7 1; have g2 := rowcell R7 2; have g3 := rowcell R7 3; have g4 := rowcell R7 4; have g5 := rowcell R7 5; have g6 := rowcell R7 6; have g7 := rowcell R7 7; have gf := rowfree R7; simp only [List.getElem?_toArray, List.getElem?_cons_zero, List.getElem?_cons_succ] at g0 g1 g2 g3 g4 g5 g6 g7; have R0 := (B7.block w.heap.size z2).trans HR0.out; have b0 := rowcell R0 0; have b1 := rowcell R0 1; have b2 := rowcell R0 2; have b3 := rowcell R0 3; have b4 := rowcell R0 4; have b5 := rowcell R0 5; have b6 := rowcell R0 6; have b7 := rowcell R0 7; have bf := rowfree R0; simp only [List.getElem?_toArray, List.getElem?_cons_zero, List.getElem?_cons_succ] at b0 b1 b2 b3 b4 b5 b6 b7; have HB7 : Hid (Below _ _ _) := B7; clear R7 B7 R0 hw7 e0 e1 e2 e3 e4 e5 e6 e7 ef))
    have B2 := cthen (cthen (cmore (Below.refl w.heap.size w) _) HB1.out) HB2.out
    have hmw : w.heap.size ≤ w2.heap.size := Nat.le_of_lt z2
    refine bodyPost_ret (v := .tuple #[.agg #[.bool false, .bool o, .int .i64 r, .int .i64 rg, .int .i64 (E : Nat), .int .i64 ex, .int .i64 (F : Nat), .int .u64 fr], .nilIface]) (by simp [results, Try.results22, go_sem, b0, b1, b2, b3, b4, b5, b6, b7, bf, hne1, hne2]) rfl (hQ.out _ _ ⟨rfl, ?_⟩)
    exact cset8 (cset (cthen B2 HB7.out) hmw _ _) (Nat.le_refl _)
  · simp only [if_true] at hy
    rw [← hy] at hm
    clear hy
    go_enter Try.func22, Try.ntmps22
    go_wp2_with (first
      | (go_at_call 21; go_must (refine (k1 _).mono ?_); rintro e w1 ⟨rfl, hb1⟩; have R1 := (hb1.block w.heap.size (by simp)).trans (rownew w _ _); have z1 : w.heap.size < w1.heap.size := (by have := hb1.size; simp at this; omega); have HR1 : Hid _ := R1; have HB1 : Hid (Below _ _ _) := hb1; clear hb1 R1)
      | (go_at_call 35; go_must (refine (k2 _).mono ?_); rintro e w2 ⟨rfl, hb2⟩; have R0 := (hb2.block w.heap.size z1).trans HR1.out; have z2 : w.heap.size < w2.heap.size := (Nat.lt_of_lt_of_le z1 hb2.size); have HR0 : Hid _ := R0; have hne1 : ¬ w.heap.size = w2.heap.size := (by omega); have hne2 : ¬ w2.heap.size = w.heap.size := (by omega); have HB2 : Hid (Below _ _ _) := hb2; clear hb2 R0)
      | (go_at_call 36; go_must (refine (k3 _).mono ?_); rintro e w3 ⟨rfl, rfl⟩)
      | (go_at_call 37; go_must (refine (k4 _).mono ?_); rintro e w3 ⟨rfl, rfl⟩)
      | (go_at_call 38; go_must (refine (k5 _).mono ?_); rintro e w3 ⟨rfl, rfl⟩)
      | (go_at_call_of 39 E; go_must (refine (k6 _).mono ?_); rintro e w6 ⟨rfl, q6, hw6⟩; have R6 : w6.heap[w2.heap.size]? = some (.cells #[.bool true, .bool o, .int .i64 r, .int .i64 rg, .int .i64 (E : Nat), .int .i64 0, .int .i64 (F : Nat), .int .u64 0] 53 (0, 0)) := (by rw [hw6]; exact rownew w2 _ _); have B6 : Below w2.heap.size w2 w6 := (by rw [hw6]; exact below_drewN (cmore (Below.refl _ _) _) _); have e0 := rowcell R6 0; have e1 := rowcell R6 1; have e2 := rowcell R6 2; have e3 := rowcell R6 3; have e4 := rowcell R6 4; have e5 := rowcell R6 5; have e6 := rowcell R6 6; have e7 := rowcell R6 7; have ef := rowfree R6; simp only [List.getElem?_toArray, List.getElem?_cons_zero, List.getElem?_cons_succ] at e0 e1 e2 e3 e4 e5 e6 e7; have HR6 : Hid _ := R6; have HB6 : Hid (Below _ _ _) := B6; clear R6 B6 hw6)
      | (go_at_call 39; go_must (refine (k7 _).mono ?_); rintro e w7 ⟨rfl, q7, hw7⟩; have R7 : w7.heap[w2.heap.size]? = some (.cells #[.bool true, .bool o, .int .i64 r, .int .i64 rg, .int .i64 (E : Nat), .int .i64 ex, .int .i64 (F : Nat), .int .u64 0] 53 (0, 0)) := (by rw [hw7]; refine (rowset HR6.out 5 _).trans ?_; simp only [List.setIfInBounds_toArray, List.set_cons_zero, List.set_cons_succ]); have B7 : Below w2.heap.size w2 w7 := (by rw [hw7]; exact below_drewN (cset HB6.out (Nat.le_refl _) _ _) _); have g0 := rowcell R7 0; have g1 := rowcell R7 1; have g2 := rowcell R7 2; have g3 := rowcell R7 3; have g4 := rowcell R7 4; have g5 := rowcell R7 5; have g6 := rowcell R7 6; have g7 := rowcell R7 7; have gf := rowfree R7; simp only [List.getElem?_toArray, List.getElem?_cons_zero, List.getElem?_cons_succ] at g0 g1 g2 g3 g4 g5 g6 g7; have R0 := (B7.block w.heap.size z2).trans HR0.out; have b0 := rowcell R0 0; have b1 := rowcell R0 1; have b2 := rowcell R0 2; have b3 := rowcell R0 3; have b4 := rowcell R0 4; have b5 := rowcell R0 5; have b6 := rowcell R0 6; have b7 := rowcell R0 7; have bf := rowfree R0; simp only [List.getElem?_toArray, List.getElem?_cons_zero, List.getElem?_cons_succ] at b0 b1 b2 b3 b4 b5 b6 b7; have HB7 : Hid (Below _ _ _) := B7; clear R7 B7 R0 hw7 e0 e1 e2 e3 e4 e5 e6 e7 ef))
    have B2 := cthen (cthen (cmore (Below.refl w.heap.size w) _) HB1.out) HB2.out
    have hmw : w.heap.size ≤ w2.heap.size := Nat.le_of_lt z2
    refine bodyPost_ret (v := .tuple #[.agg #[.bool true, .bool o, .int .i64 r, .int .i64 rg, .int .i64 (E : Nat), .int .i64 ex, .int .i64 (F : Nat), .int .u64 fr], .nilIface]) (by simp [results, Try.results22, go_sem, b0, b1, b2, b3, b4, b5, b6, b7, bf, hne1, hne2]) rfl (hQ.out _ _ ⟨rfl, ?_⟩)
    exact cset8 (cset (cthen B2 HB7.out) hmw _ _) (Nat.le_refl _)
end Go.Proofs.Ytheliihkkoohnab

namespace Go.Proofs.Ytheliihkkoohnab
open Go.ChangeShapes Go.WideShapes Go.ChangeAt Go.RowKit
set_option linter.unusedVariables false
set_option linter.unusedSimpArgs false
set_option maxRecDepth 100000

/-! ### Decode -/
theorem cdecode_other (n x : Nat) (hn : Wd n) (hx : x < 2 ^ 64) (hk : kindOf n (x % 2 ^ n) ≠ 1) (w : World) :
    Calls Try.prog 12 #[.int .i64 n, .int .u64 x] w fun e w' => e = .returned (.tuple #[numV (kindOf n (x % 2 ^ n)) false 0 0, .nilIface]) ∧ Below w.heap.size w w' := by
  have k1 := kind_ok n x hn hx
  generalize kindOf n (x % 2 ^ n) = k at *
  clear hn
  refine cps fun Q hQ => ?_
  have hd : (k == 1) = false := beq_eq_false_iff_ne.2 hk
  go_enter Try.func12, Try.ntmps12
  go_wp2_with (go_at_call 21; refine (k1 _).mono ?_; rintro e w1 ⟨rfl, hb1⟩; have hc := fun b o h => hb1.cell (p := ⟨b, o, none⟩) h; have hf := fun b o h => hb1.frozen (p := ⟨b, o, none⟩) h; have hz := hb1.size; simp at hz; have hz' : w.heap.size < w1.heap.size := hz)
  refine bodyPost_ret (v := .tuple #[numV k false 0 0, .nilIface]) (by simp [results, Try.results12, go_sem, hc, hz', numV]) rfl (hQ.out _ _ ⟨rfl, ?_⟩)
  exact cset4 (cthen (cmore (Below.refl _ _) _) hb1) (Nat.le_refl _)
theorem cdecode_no (n : Int) (x : Nat) (hn : isW n = false) (w : World) :
    Calls Try.prog 12 #[.int .i64 n, .int .u64 x] w fun e w' => e = .returned (.tuple #[numV 0 false 0 0, codeV 2]) ∧ Below w.heap.size w w' := by
  have k1 := kind_no n x hn
  clear hn
  refine cps fun Q hQ => ?_
  go_enter Try.func12, Try.ntmps12
  go_wp2_with (go_at_call 21; refine (k1 _).mono ?_; rintro e w1 ⟨rfl, hb1⟩; have hc := fun b o h => hb1.cell (p := ⟨b, o, none⟩) h; have hf := fun b o h => hb1.frozen (p := ⟨b, o, none⟩) h; have hz := hb1.size; simp at hz; have hz' : w.heap.size < w1.heap.size := hz)
  refine bodyPost_ret (v := .tuple #[numV 0 false 0 0, codeV 2]) (by simp [results, Try.results12, go_sem, hc, hz', numV]) rfl (hQ.out _ _ ⟨rfl, ?_⟩)
  exact cset4 (cthen (cmore (Below.refl _ _) _) hb1) (Nat.le_refl _)
theorem word_frac (t : List Bool) (h : (restL t).length ≤ 63) : wordL t = 9223372036854775808 + fracL t * 2 ^ (63 - ((restL t).length - 2)) ∧ fracL t * 2 ^ (63 - ((restL t).length - 2)) < 9223372036854775808 := by
  have hl : ((restL t).drop 2).length = (restL t).length - 2 := by rw [List.length_drop]
  have e : ((restL t).drop 2 ++ noughts 63).take 63 = (restL t).drop 2 ++ noughts (63 - ((restL t).length - 2)) := by
    rw [List.take_append, List.take_of_length_le (by omega), take_noughts _ _ (by omega), hl]
  have h2 := numOf_lt ((restL t).drop 2 ++ noughts (63 - ((restL t).length - 2)))
  have h3 : ((restL t).drop 2 ++ noughts (63 - ((restL t).length - 2))).length = 63 := by
    rw [List.length_append, hl, List.length_replicate]; omega
  rw [h3, numOf_append, numOf_noughts, List.length_replicate] at h2
  refine ⟨?_, h2⟩
  unfold wordL fracL
  rw [e, numOf_cons, h3, numOf_append, numOf_noughts, List.length_replicate]
  rfl
theorem word_or (X : Nat) (h : X < 9223372036854775808) : bits BinOp.or IntKind.u64 9223372036854775808 (X : Int) = ((9223372036854775808 + X : Nat) : Int) := by
  have := u64_or_nat 9223372036854775808 X (by decide) (by omega)
  rw [show ((9223372036854775808 : Nat) : Int) = 9223372036854775808 from rfl] at this
  rw [this]
  congr 1
  have e := Nat.two_pow_add_eq_or_of_lt (i := 63) (b := X) h 1
  rw [show 2 ^ 63 * 1 = 9223372036854775808 by decide] at e
  exact e.symm
set_option maxHeartbeats 1000000 in
theorem cdecode_real (n x : Nat) (hn : Wd n) (hx : x < 2 ^ 64) (hk : kindOf n (x % 2 ^ n) = 1) (w : World) :
    Calls Try.prog 12 #[.int .i64 n, .int .u64 x] w fun e w' => e = .returned (.tuple #[numV 1 (x.testBit (n - 1)) (scaleL (strS n x)) (wordL (strS n x)), .nilIface]) ∧ Below w.heap.size w w' := by
  have k1 := kind_ok n x hn hx
  have k2 := csplit_real n x hn hx hk
  rw [hk] at k1
  have hw := wd_le hn
  have hlen := strS_length n x
  obtain ⟨hw1, hw2⟩ := word_frac (strS n x) (by rw [restL_length, hlen]; omega)
  have hfb : (restL (strS n x)).length - 2 ≤ 61 := by rw [restL_length, hlen]; omega
  have hrg : -64 ≤ regL (strS n x) ∧ regL (strS n x) ≤ 64 := by
    have := runL_le (strS n x)
    unfold regL; split <;> omega
  have hex : expL (strS n x) < 4 := by
    have := numOf_lt ((restL (strS n x) ++ noughts 2).take 2)
    rw [show ((restL (strS n x) ++ noughts 2).take 2).length = 2 by simp] at this
    exact this
  unfold fdV at k2
  unfold scaleL
  have hor := word_or _ hw2
  rw [← hw1] at hor
  obtain ⟨d, hd⟩ : ∃ d, d = 63 - ((restL (strS n x)).length - 2) := ⟨_, rfl⟩
  rw [← hd] at hor hw2
  have hdd : (63 : Int) - (((restL (strS n x)).length - 2 : Nat) : Int) = (d : Int) := by omega
  have hd63 : d ≤ 63 := by omega
  clear hn hx hk hlen hw hw1 hd
  generalize onesL (strS n x) = o at *
  generalize runL (strS n x) = r at *
  generalize regL (strS n x) = reg at *
  generalize expL (strS n x) = ex at *
  generalize fracL (strS n x) = fr at *
  generalize wordL (strS n x) = wd at *
  generalize (restL (strS n x)).length - 2 = fb at *
  generalize min (restL (strS n x)).length 2 = eb at *
  have hsc : IntKind.i64.wrap (IntKind.i64.wrap (reg * 4) + (ex : Int)) = 4 * reg + ex := by
    rw [wrapI (n := reg * 4) (by omega), wrapI (by omega)]; omega
  have hsh : IntKind.u64.wrap ((fr : Int) * 2 ^ d) = ((fr * 2 ^ d : Nat) : Int) := by
    have e : ((fr : Int) * 2 ^ d) = ((fr * 2 ^ d : Nat) : Int) := by simp
    rw [e, wrapN, Nat.mod_eq_of_lt (by omega)]
  generalize fr * 2 ^ d = X at *
  refine cps fun Q hQ => ?_
  generalize x.testBit (n - 1) = b at *
  go_enter Try.func12, Try.ntmps12
  go_wp2_with (first
    | (go_at_call 21; refine (k1 _).mono ?_; rintro e w1 ⟨rfl, hb1⟩; have HB1 : Hid (Below _ _ _) := hb1; clear hb1)
    | (go_at_call 22; refine (k2 _).mono ?_; rintro e w2 ⟨rfl, hb2⟩; have z1 : w.heap.size < w1.heap.size := (by have := HB1.out.size; simp at this; omega); have z2 := hb2.size; have R0 := (Below.heap_alloc w2 (.cells #[.bool b, .bool o, .int .i64 r, .int .i64 reg, .int .i64 (eb : Nat), .int .i64 ex, .int .i64 (fb : Nat), .int .u64 fr] 53) _ (by omega)).trans ((hb2.block _ z1).trans ((HB1.out.block _ (by simp)).trans (rownew w _ _))); have BW : Hid (Below _ _ _) := cmore (cthen (cthen (cmore (Below.refl _ _) _) HB1.out) hb2) (.cells #[.bool b, .bool o, .int .i64 r, .int .i64 reg, .int .i64 (eb : Nat), .int .i64 ex, .int .i64 (fb : Nat), .int .u64 fr] 53); have z3 : w.heap.size < w2.heap.size := (by omega); clear hb2 z2; have HR0 : Hid _ := R0; clear R0))
  obtain ⟨g, hg⟩ : ∃ g, g = w2.heap.size := ⟨_, rfl⟩
  have RF := rownew' w2 #[.bool b, .bool o, .int .i64 r, .int .i64 reg, .int .i64 (eb : Nat), .int .i64 ex, .int .i64 (fb : Nat), .int .u64 fr] 53 g hg
  rw [← hg]
  generalize w2.alloc (.cells #[.bool b, .bool o, .int .i64 r, .int .i64 reg, .int .i64 (eb : Nat), .int .i64 ex, .int .i64 (fb : Nat), .int .u64 fr] 53) = W at *
  have x0 := rowcell RF 0
  have x3 := rowcell RF 3
  have x5 := rowcell RF 5
  have x6 := rowcell RF 6
  have x7 := rowcell RF 7
  have b0 := rowcell HR0.out 0
  have b1 := rowcell HR0.out 1
  have b2 := rowcell HR0.out 2
  have b3 := rowcell HR0.out 3
  have bf := rowfree HR0.out
  simp only [List.getElem?_toArray, List.getElem?_cons_zero, List.getElem?_cons_succ] at x0 x3 x5 x6 x7 b0 b1 b2 b3
  have gw : IntKind.i64.wrap (63 - (fb : Int)) = (d : Int) := by rw [wrapI (by omega), hdd]
  have hgw : w.heap.size ≠ g := by omega
  have hab : ∀ o o' : Nat, (⟨w.heap.size, o, none⟩ : Addr) ≠ ⟨g, o', none⟩ := fun o o' e => hgw (congrArg Addr.block e)
  have far : ∀ (W1 : World) (u0 u1 u2 u3 : Value) (o : Nat), ((((W1.setCell ⟨w.heap.size, 0, none⟩ u0).setCell ⟨w.heap.size, 1, none⟩ u1).setCell ⟨w.heap.size, 2, none⟩ u2).setCell ⟨w.heap.size, 3, none⟩ u3).drew.cell? ⟨g, o, none⟩ = W1.cell? ⟨g, o, none⟩ := fun W1 u0 u1 u2 u3 o => by
    show ((((W1.setCell ⟨w.heap.size, 0, none⟩ u0).setCell ⟨w.heap.size, 1, none⟩ u1).setCell ⟨w.heap.size, 2, none⟩ u2).setCell ⟨w.heap.size, 3, none⟩ u3).cell? ⟨g, o, none⟩ = W1.cell? ⟨g, o, none⟩
    rw [World.cell?_setCell_other _ _ _ _ (hab _ _), World.cell?_setCell_other _ _ _ _ (hab _ _), World.cell?_setCell_other _ _ _ _ (hab _ _), World.cell?_setCell_other _ _ _ _ (hab _ _)]
  clear k1 k2 hg hdd
  have gd : (0 : Int) ≤ (d : Int) := Int.natCast_nonneg d
  refine wpC_region (fun W => W.cell? ⟨g, 0, none⟩ = some (.bool b) ∧ W.cell? ⟨g, 3, none⟩ = some (.int .i64 reg) ∧ W.cell? ⟨g, 5, none⟩ = some (.int .i64 ex) ∧ W.cell? ⟨g, 6, none⟩ = some (.int .i64 (fb : Nat)) ∧ W.cell? ⟨g, 7, none⟩ = some (.int .u64 fr)) (by kernel_rfl) ?_
  refine wpC_take 0 (v := ?_) rfl (by kernel_rfl) (fun _ _ _ h => h) (by kernel_rfl) ?_ ?_; rotate_left; · (intro wC hC; obtain ⟨c0, c3, c5, c6, c7⟩ := hC; go_simp <;> with_reducible rfl)
  refine wpC_take 1 (v := ?_) rfl (by kernel_rfl) (fun _ _ _ h => h) (by kernel_rfl) ?_ ?_; rotate_left; · (intro wC hC; obtain ⟨c0, c3, c5, c6, c7⟩ := hC; go_simp <;> with_reducible rfl)
  refine wpC_take 2 (v := ?_) rfl (by kernel_rfl) (fun _ _ _ h => h) (by kernel_rfl) ?_ ?_; rotate_left; · (intro wC hC; obtain ⟨c0, c3, c5, c6, c7⟩ := hC; go_simp <;> with_reducible rfl)
  refine wpC_take 3 (v := ?_) rfl (by kernel_rfl) (fun _ _ _ h => h) (by kernel_rfl) ?_ ?_; rotate_left; · (intro wC hC; obtain ⟨c0, c3, c5, c6, c7⟩ := hC; go_simp <;> with_reducible rfl)
  refine wpC_take 4 (v := ?_) rfl (by kernel_rfl) (fun _ _ _ h => h) (by kernel_rfl) ?_ ?_; rotate_left; · (intro wC hC; obtain ⟨c0, c3, c5, c6, c7⟩ := hC; go_simp <;> with_reducible rfl)
  refine wpC_take 5 (v := ?_) rfl (by kernel_rfl) (fun _ _ _ h => h) (by kernel_rfl) ?_ ?_; rotate_left; · (intro wC hC; obtain ⟨c0, c3, c5, c6, c7⟩ := hC; go_simp <;> with_reducible rfl)
  refine wpC_take 6 (v := ?_) rfl (by kernel_rfl) (fun _ _ _ h => h) (by kernel_rfl) ?_ ?_; rotate_left; · (intro wC hC; obtain ⟨c0, c3, c5, c6, c7⟩ := hC; go_simp <;> with_reducible rfl)
  refine wpC_take 7 (v := ?_) rfl (by kernel_rfl) (fun _ _ _ h => h) (by kernel_rfl) ?_ ?_; rotate_left; · (intro wC hC; obtain ⟨c0, c3, c5, c6, c7⟩ := hC; go_simp <;> with_reducible rfl)
  refine wpC_take 8 (v := ?_) rfl (by kernel_rfl) (fun _ _ _ h => h) (by kernel_rfl) ?_ ?_; rotate_left; · (intro wC hC; obtain ⟨c0, c3, c5, c6, c7⟩ := hC; go_simp <;> with_reducible rfl)
  refine wpC_take 9 (v := ?_) rfl (by kernel_rfl) (fun _ _ _ h => h) (by kernel_rfl) ?_ ?_; rotate_left; · (intro wC hC; obtain ⟨c0, c3, c5, c6, c7⟩ := hC; go_simp <;> with_reducible rfl)
  refine wpC_take 10 (v := ?_) rfl (by kernel_rfl) (fun _ _ _ h => h) (by kernel_rfl) ?_ ?_; rotate_left; · (intro wC hC; obtain ⟨c0, c3, c5, c6, c7⟩ := hC; go_simp <;> with_reducible rfl)
  refine wpC_take 11 (v := ?_) rfl (by kernel_rfl) (fun _ _ _ h => h) (by kernel_rfl) ?_ ?_; rotate_left; · (intro wC hC; obtain ⟨c0, c3, c5, c6, c7⟩ := hC; go_simp <;> with_reducible rfl)
  refine wpC_take 12 (v := ?_) rfl (by kernel_rfl) (fun _ _ _ h => h) (by kernel_rfl) ?_ ?_; rotate_left; · (intro wC hC; obtain ⟨c0, c3, c5, c6, c7⟩ := hC; go_simp <;> with_reducible rfl)
  refine wpC_take 13 (v := ?_) rfl (by kernel_rfl) (fun _ _ _ h => h) (by kernel_rfl) ?_ ?_; rotate_left; · (intro wC hC; obtain ⟨c0, c3, c5, c6, c7⟩ := hC; go_simp <;> with_reducible rfl)
  refine wpC_take 14 (v := ?_) rfl (by kernel_rfl) (fun _ _ _ h => h) (by kernel_rfl) ?_ ?_; rotate_left; · (intro wC hC; obtain ⟨c0, c3, c5, c6, c7⟩ := hC; go_simp <;> with_reducible rfl)
  refine wpC_take 15 (v := ?_) rfl (by kernel_rfl) (fun _ _ _ h => h) (by kernel_rfl) ?_ ?_; rotate_left; · (intro wC hC; obtain ⟨c0, c3, c5, c6, c7⟩ := hC; go_simp <;> with_reducible rfl)
  refine wpC_step 16 rfl (by kernel_rfl) (by kernel_rfl) ⟨x0, x3, x5, x6, x7⟩ (fun K hK => ?_)
  go_simp
  try (refine hK _ _ ?_; clear hK K)
  refine wpC_take 17 (v := ?_) rfl (by kernel_rfl) (fun _ _ _ h => h) (by kernel_rfl) ?_ ?_; rotate_left; · (intro wC hC; obtain _ := hC; go_simp <;> with_reducible rfl)
  refine wpC_done (by kernel_rfl) ⟨(far _ _ _ _ _ _).trans x0, (far _ _ _ _ _ _).trans x3, (far _ _ _ _ _ _).trans x5, (far _ _ _ _ _ _).trans x6, (far _ _ _ _ _ _).trans x7⟩ ?_
  go_wp2
  refine bodyPost_ret (v := .tuple #[numV 1 b (4 * reg + ex) wd, .nilIface]) (by simp [results, Try.results12, go_sem, b0, b1, b2, b3, numV]) rfl (hQ.out _ _ ⟨rfl, ?_⟩)
  exact cdrew (cset4 BW.out (Nat.le_refl _))
end Go.Proofs.Ytheliihkkoohnab

namespace Go.Proofs.Ytheliihkkoohnab
open Go.ChangeShapes Go.WideShapes Go.ChangeAt Go.RowKit
set_option linter.unusedVariables false
set_option linter.unusedSimpArgs false
set_option maxRecDepth 100000

/-! ### what is assembled -/
/-! ### parts -/
end Go.Proofs.Ytheliihkkoohnab

namespace Go.Proofs.Ytheliihkkoohnab
open Go.ChangeShapes Go.WideShapes Go.ChangeAt Go.RowKit
set_option linter.unusedVariables false
set_option linter.unusedSimpArgs false
set_option maxRecDepth 100000

/-! ### what a width is -/
theorem bmoreS {a w : World} (h : Below a.heap.size a w) (o : Obj) : Below a.heap.size a (w.alloc o) := h.alloc h.size o
theorem bthenS {a W w : World} (h : Below a.heap.size a W) (hb : Below W.heap.size W w) : Below a.heap.size a w := h.trans (hb.mono h.size)
theorem bsetS {a W : World} {b : Nat} (h : Below a.heap.size a W) (hb : a.heap.size ≤ b) (o : Nat) (v : Value) : Below a.heap.size a (W.setCell ⟨b, o, none⟩ v) := h.setCell hb _
def shp (n m : Nat) : Value := .agg #[.int .i64 n, .int .u64 (m - 1 : Nat), .int .u64 1, .int .u64 m, .int .i64 (4 * n - 8 : Nat)]
theorem two_pow_lt {n : Nat} (h : Wd n) : 1 ≤ 2 ^ (n - 1) ∧ 2 ^ (n - 1) ≤ 9223372036854775808 := by rcases h with rfl | rfl | rfl | rfl <;> decide
theorem of_ok (n : Nat) (hn : Wd n) (w : World) :
    Calls Try.prog 46 #[.int .i64 n] w fun e w' => e = .returned (.tuple #[shp n (2 ^ (n - 1)), .nilIface]) ∧ Below w.heap.size w w' := by
  have k1 := known_any n
  rw [isW_of hn] at k1
  have hw := wd_le hn
  have k2 := nar_any n (by omega) hw.2
  have hm := two_pow_lt hn
  clear hn
  refine cps fun Q hQ => ?_
  generalize 2 ^ (n - 1) = m at *
  have e1 : (m : Int) - 1 = ((m - 1 : Nat) : Int) := by omega
  have e2 : 4 * (n : Int) - 8 = ((4 * n - 8 : Nat) : Int) := by omega
  go_enter Try.func46, Try.ntmps46
  go_wp2_with (first
    | (go_at_call 48; refine (k1 _).mono ?_; rintro e w1 ⟨rfl, hb1⟩; have hc := fun b o h => hb1.cell (p := ⟨b, o, none⟩) h; have hf := fun b o h => hb1.frozen (p := ⟨b, o, none⟩) h; have hz := hb1.size; simp at hz)
    | (go_at_call 34; refine (k2 _).mono ?_; rintro e w1 ⟨rfl, rfl⟩))
  have hz' : w.heap.size < w1.heap.size := hz
  refine bodyPost_ret (v := .tuple #[shp n m, .nilIface]) (by simp [results, Try.results46, go_sem, hc, hz', shp]) rfl (hQ.out _ _ ⟨rfl, ?_⟩)
  exact bsetS (bsetS (bsetS (bsetS (bsetS (bthenS (bmoreS (Below.refl _ _) _) hb1) (Nat.le_refl _) _ _) (Nat.le_refl _) _ _) (Nat.le_refl _) _ _) (Nat.le_refl _) _ _) (Nat.le_refl _) _ _
end Go.Proofs.Ytheliihkkoohnab

namespace Go.Proofs.Ytheliihkkoohnab
open Go.ChangeShapes Go.WideShapes Go.ChangeAt Go.RowKit
set_option linter.unusedVariables false
set_option linter.unusedSimpArgs false
set_option maxRecDepth 100000

/-! ### Join -/
end Go.Proofs.Ytheliihkkoohnab

namespace Go.Proofs.Ytheliihkkoohnab
open Go.ChangeShapes Go.WideShapes Go.ChangeAt Go.RowKit
set_option linter.unusedVariables false
set_option linter.unusedSimpArgs false
set_option maxRecDepth 100000

/-! ### sound -/
end Go.Proofs.Ytheliihkkoohnab

namespace Go.Proofs.Ytheliihkkoohnab
open Go.ChangeShapes Go.WideShapes Go.ChangeAt Go.RowKit
set_option linter.unusedVariables false
set_option linter.unusedSimpArgs false
set_option maxRecDepth 100000

/-! ### Encode -/
end Go.Proofs.Ytheliihkkoohnab

namespace Go.Proofs.Ytheliihkkoohnab
set_option maxRecDepth 100000
/-! ### the contracts of package codec stand in CkE (Split), CkF (Decode), CkH (Join), CkI (Encode) -/
end Go.Proofs.Ytheliihkkoohnab

namespace Go.Proofs.Ytheliihkkoohnab
open Go.ChangeShapes Go.WideShapes Go.ChangeAt Go.RowKit
set_option linter.unusedVariables false
set_option linter.unusedSimpArgs false
set_option maxRecDepth 100000

end Go.Proofs.Ytheliihkkoohnab

namespace Go.Proofs.Ytheliihkkoohnab
set_option maxRecDepth 100000
set_option linter.unusedVariables false
set_option linter.unusedSimpArgs false

/-! ### patterns come back (plain mathematics) -/
theorem inR_of (m : Nat) (t : List Bool) (hm : Wd m) (hl : t.length = m - 1) (ht : true ∈ t) : inR m (scaleL t) = true := by
  have hw := wd_le hm
  have hne : t ≠ [] := by rintro rfl; cases ht
  have hex : expL t < 4 := by
    have := numOf_lt ((restL t ++ noughts 2).take 2)
    rw [show ((restL t ++ noughts 2).take 2).length = 2 by simp] at this
    exact this
  refine decide_eq_true ?_
  obtain ⟨b, r, tl, rfl, htl⟩ := split_run t hne
  rw [List.length_append, List.length_replicate] at hl
  unfold scaleL regL
  rw [runL_rep b r tl htl, onesL_rep]
  rcases htl with rfl | ⟨u, rfl⟩
  · rw [List.append_nil] at *
    have hb : b = true := (List.mem_replicate.1 ht).2.symm
    subst hb
    have h0 : expL (List.replicate (r + 1) true) = 0 := by
      unfold expL; rw [restL_end]; decide
    rw [h0]
    simp at hl ⊢; omega
  · rw [List.length_cons] at hl
    generalize expL (List.replicate (r + 1) b ++ (!b) :: u) = ex at *
    cases b <;> simp <;> omega
theorem sound_home (m : Nat) (neg : Bool) (t : List Bool) (hm : Wd m) (hl : t.length = m - 1) (ht : true ∈ t) : soundN 1 neg (scaleL t) (wordL t) = true := by
  have hw := wd_le hm
  have h1 := of_decide_eq_true (inR_of m t hm hl ht)
  have h2 := wordL_bounds t
  unfold soundN
  rw [if_neg (by decide)]
  exact decide_eq_true ⟨rfl, h2.1, by omega, by omega⟩
theorem kind_cases (m y : Nat) (hk : kindOf m y ≠ 1) : (kindOf m y = 0 ∧ y = 0) ∨ (kindOf m y = 2 ∧ y = 2 ^ (m - 1)) := by
  unfold kindOf at *
  by_cases h : y = 0
  · rw [if_pos h] at *; exact .inl ⟨rfl, h⟩
  · rw [if_neg h] at *
    by_cases h2 : y = 2 ^ (m - 1)
    · rw [if_pos h2] at *; exact .inr ⟨rfl, h2⟩
    · rw [if_neg h2] at *; exact absurd rfl hk
end Go.Proofs.Ytheliihkkoohnab

namespace Go.Proofs.Ytheliihkkoohnab
set_option maxRecDepth 100000
set_option linter.unusedVariables false
set_option linter.unusedSimpArgs false

/-! ### noughts behind a pattern (plain mathematics) -/
end Go.Proofs.Ytheliihkkoohnab

namespace Go.Proofs.Ytheliihkkoohnab
set_option maxRecDepth 100000
set_option linter.unusedVariables false
set_option linter.unusedSimpArgs false

/-! ### the string of an exact number as one natural number of 209 bits: it rises with the number (plain mathematics) -/
def hdA (k : Int) : Nat := if 0 ≤ k then 2 ^ 80 - 2 ^ (79 - k.toNat) else 2 ^ (79 - (-k).toNat)
def hdS (k : Int) : Nat := if 0 ≤ k then 2 ^ (78 - k.toNat) else 2 ^ (79 - (-k).toNat)
theorem hd_step (k : Int) (h1 : -79 ≤ k) (h2 : k ≤ 77) : hdA k + hdS k = hdA (k + 1) := by
  unfold hdA hdS
  by_cases h0 : 0 ≤ k
  · obtain ⟨j, rfl⟩ := Int.eq_ofNat_of_zero_le h0
    rw [if_pos h0, if_pos h0, if_pos (by omega), show (((j : Nat) : Int) + 1).toNat = j + 1 by omega, Int.toNat_natCast]
    have e : 2 ^ (79 - j) = 2 * 2 ^ (78 - j) := by rw [← Nat.pow_succ']; congr 1; omega
    have e2 : 79 - (j + 1) = 78 - j := by omega
    have e3 : 2 ^ (79 - j) ≤ 2 ^ 80 := Nat.pow_le_pow_right (by decide) (by omega)
    rw [e2]
    rw [e] at e3 ⊢
    generalize 2 ^ (78 - j) = x at *
    omega
  · rw [if_neg h0, if_neg h0]
    by_cases h3 : k = -1
    · subst h3; decide
    · rw [if_neg (by omega)]
      have e : 2 ^ (79 - (-(k + 1)).toNat) = 2 * 2 ^ (79 - (-k).toNat) := by rw [← Nat.pow_succ']; congr 1; omega
      rw [e]; omega
theorem hd_pos (k : Int) : 0 < hdS k := by unfold hdS; split <;> exact Nat.pow_pos (by decide)
theorem hd_rise (k : Int) (d : Nat) (h1 : -79 ≤ k) (h2 : k + d ≤ 77) : hdA k + hdS k ≤ hdA (k + 1 + d) := by
  induction d with
  | zero => rw [hd_step k h1 (by omega)]; simp
  | succ d ih =>
    have := ih (by omega)
    have h3 := hd_step (k + 1 + d) (by omega) (by omega)
    rw [show k + 1 + ((d + 1 : Nat) : Int) = k + 1 + d + 1 by omega, ← h3]
    omega
theorem hd_mono {k k' : Int} (h1 : -79 ≤ k) (h : k < k') (h2 : k' ≤ 78) : hdA k + hdS k ≤ hdA k' := by
  have := hd_rise k (k' - k - 1).toNat h1 (by omega)
  rw [show k + 1 + (((k' - k - 1).toNat : Nat) : Int) = k' by omega] at this
  exact this
/-- e and the digits behind the first -/
def tailN (s : Int) (M : Nat) : Nat := (s % 4).toNat * 2 ^ 127 + (M - 2 ^ 127)
def zed (s : Int) (M : Nat) : Nat := hdA (s / 4) * 2 ^ 129 + hdS (s / 4) * tailN s M
def Mant (M : Nat) : Prop := 2 ^ 127 ≤ M ∧ M < 2 ^ 128
theorem tail_lt (s : Int) (M : Nat) (h : Mant M) : tailN s M < 2 ^ 129 := by
  obtain ⟨h1, h2⟩ := h
  unfold tailN
  have : (s % 4).toNat < 4 := by omega
  generalize (s % 4).toNat = e at *
  omega
theorem zed_hi (s : Int) (M : Nat) (h : Mant M) : zed s M < (hdA (s / 4) + hdS (s / 4)) * 2 ^ 129 := by
  unfold zed
  rw [Nat.add_mul]
  exact Nat.add_lt_add_left (Nat.mul_lt_mul_of_pos_left (tail_lt s M h) (hd_pos _)) _
theorem zed_lo (s : Int) (M : Nat) : hdA (s / 4) * 2 ^ 129 ≤ zed s M := Nat.le_add_right _ _
/-- it rises with the scale, and with the digits -/
theorem zed_lt {s s' : Int} {M M' : Nat} (h : Mant M) (h' : Mant M') (h1 : -316 ≤ s) (h2 : s' < 312) (hlt : s < s' ∨ (s = s' ∧ M < M')) : zed s M < zed s' M' := by
  have key : s / 4 = s' / 4 → tailN s M < tailN s' M' → zed s M < zed s' M' := fun e ht => by
    unfold zed
    rw [e]
    exact Nat.add_lt_add_left (Nat.mul_lt_mul_of_pos_left ht (hd_pos _)) _
  rcases hlt with hlt | ⟨rfl, hM⟩
  · by_cases e : s / 4 = s' / 4
    · refine key e ?_
      unfold tailN
      obtain ⟨a1, a2⟩ := h
      obtain ⟨b1, b2⟩ := h'
      have : (s % 4).toNat + 1 ≤ (s' % 4).toNat := by omega
      generalize (s % 4).toNat = x at *
      generalize (s' % 4).toNat = y at *
      omega
    · have hk : s / 4 < s' / 4 := by omega
      have h3 := hd_mono (k := s / 4) (k' := s' / 4) (by omega) hk (by omega)
      exact Nat.lt_of_lt_of_le (zed_hi s M h) (Nat.le_trans (Nat.mul_le_mul_right _ h3) (zed_lo s' M'))
  · refine key rfl ?_
    unfold tailN
    have := h.1
    omega
theorem numOf_ones (k : Nat) : numOf (List.replicate k true) = 2 ^ k - 1 := by
  induction k with
  | zero => rfl
  | succ k ih =>
    rw [List.replicate_succ, numOf_cons, ih, List.length_replicate, Nat.pow_succ]
    have : 0 < 2 ^ k := Nat.pow_pos (by decide)
    simp; omega
/-- the string, written out, is that number -/
theorem zed_str (s : Int) (M : Nat) (D : List Bool) (hD : D.length = 127) (hM : numOf D = M - 2 ^ 127) (h1 : -76 * 4 ≤ s) (h2 : s < 76 * 4) :
    (headK (s / 4) ++ bitsOf (s % 4).toNat 2 ++ D).length ≤ 209 ∧ numOf (headK (s / 4) ++ bitsOf (s % 4).toNat 2 ++ D) * 2 ^ (209 - (headK (s / 4) ++ bitsOf (s % 4).toNat 2 ++ D).length) = zed s M := by
  have hl : (headK (s / 4) ++ bitsOf (s % 4).toNat 2 ++ D).length = (headK (s / 4)).length + 129 := by simp [bitsOf_length, hD]
  have hn : numOf (headK (s / 4) ++ bitsOf (s % 4).toNat 2 ++ D) = numOf (headK (s / 4)) * 2 ^ 129 + tailN s M := by
    rw [numOf_append, numOf_append, numOf_bits, hD, bitsOf_length, hM, Nat.mod_eq_of_lt (a := (s % 4).toNat) (by omega), Nat.add_mul, Nat.mul_assoc, ← Nat.pow_add]
    unfold tailN; omega
  rw [hl, hn]
  have hh : numOf (headK (s / 4)) * 2 ^ (80 - (headK (s / 4)).length) = hdA (s / 4) ∧ 2 ^ (80 - (headK (s / 4)).length) = hdS (s / 4) ∧ (headK (s / 4)).length ≤ 80 := by
    unfold headK hdA hdS
    by_cases h0 : 0 ≤ s / 4
    · rw [if_pos h0, if_pos h0, if_pos h0]
      obtain ⟨j, hj⟩ := Int.eq_ofNat_of_zero_le h0
      rw [hj, Int.toNat_natCast]
      have hj2 : j < 76 := by omega
      rw [numOf_append, numOf_ones, List.length_append, List.length_replicate]
      simp only [List.length_singleton]
      refine ⟨?_, by congr 1; omega, by omega⟩
      have e1 : numOf [false] = 0 := rfl
      rw [e1, Nat.add_zero, Nat.pow_one, show 80 - (j + 1 + 1) = 78 - j by omega, Nat.mul_assoc, ← Nat.pow_succ', show (78 - j).succ = 79 - j by omega, Nat.sub_mul, ← Nat.pow_add, show j + 1 + (79 - j) = 80 by omega, Nat.one_mul]
    · rw [if_neg h0, if_neg h0, if_neg h0]
      have hj2 : (-(s / 4)).toNat ≤ 76 := by omega
      rw [numOf_append, List.length_append, List.length_replicate]
      simp only [List.length_singleton]
      have e0 := numOf_noughts (-(s / 4)).toNat
      refine ⟨?_, by congr 1; omega, by omega⟩
      rw [show List.replicate (-(s / 4)).toNat false = noughts (-(s / 4)).toNat from rfl, e0, show 80 - ((-(s / 4)).toNat + 1) = 79 - (-(s / 4)).toNat by omega, show numOf [true] = 1 from rfl]
      simp
  obtain ⟨a, b, c⟩ := hh
  refine ⟨by omega, ?_⟩
  rw [show 209 - ((headK (s / 4)).length + 129) = 80 - (headK (s / 4)).length by omega, Nat.add_mul, Nat.mul_right_comm, a, b, Nat.mul_comm (tailN s M)]
  rfl
end Go.Proofs.Ytheliihkkoohnab

namespace Go.Proofs.Ytheliihkkoohnab
set_option maxRecDepth 100000
set_option linter.unusedVariables false
set_option linter.unusedSimpArgs false

/-! ### what is left behind a cut, and rounding: to the nearer, of a tie to the even one (plain mathematics) -/
def leftL (l : List Bool) (rest : Bool) : Nat :=
  if l.getD 0 false then (if (l.drop 1).any id || rest then 3 else 2) else (if (l.drop 1).any id || rest then 1 else 0)
def roundP (P left : Nat) : Nat := if left = 3 ∨ (left = 2 ∧ P % 2 = 1) then P + 1 else P
/-- P times 2 H and R: to the nearer -/
def rhe (H Z : Nat) : Nat := roundP (Z / (2 * H)) (if Z % (2 * H) = 0 then 0 else if Z % (2 * H) < H then 1 else if Z % (2 * H) = H then 2 else 3)
theorem roundP_le (P l : Nat) : P ≤ roundP P l ∧ roundP P l ≤ P + 1 := by unfold roundP; split <;> omega
theorem rhe_mono (H : Nat) (hH : 0 < H) {Z Z' : Nat} (h : Z ≤ Z') : rhe H Z ≤ rhe H Z' := by
  have e1 := Nat.div_add_mod Z (2 * H)
  have e2 := Nat.div_add_mod Z' (2 * H)
  have m1 := Nat.mod_lt Z (show 0 < 2 * H by omega)
  have m2 := Nat.mod_lt Z' (show 0 < 2 * H by omega)
  have hp : Z / (2 * H) ≤ Z' / (2 * H) := Nat.div_le_div_right h
  unfold rhe
  rcases Nat.lt_or_ge (Z / (2 * H)) (Z' / (2 * H)) with hlt | hge
  · exact Nat.le_trans (roundP_le _ _).2 (Nat.le_trans hlt (roundP_le _ _).1)
  · have he : Z / (2 * H) = Z' / (2 * H) := by omega
    rw [he] at e1 ⊢
    generalize Z' / (2 * H) = P at *
    generalize 2 * H * P = B at *
    generalize Z % (2 * H) = R at *
    generalize Z' % (2 * H) = R' at *
    have hR : R ≤ R' := by omega
    unfold roundP
    repeat' split
    all_goals omega
/-! ### a string, cut -/
theorem any_num (l : List Bool) : l.any id = decide (numOf l ≠ 0) := by
  cases h : l.any id
  · refine (decide_eq_false fun hn => ?_).symm
    have := mem_of_pos l hn
    rw [List.any_eq_false] at h
    exact h true this rfl
  · refine (decide_eq_true ?_).symm
    obtain ⟨b, hb, hb2⟩ := List.any_eq_true.1 h
    have : b = true := hb2
    subst this
    have := numOf_pos l hb
    omega
theorem cut_num (l : List Bool) (m : Nat) (hm : m ≤ l.length) : numOf l = numOf (l.take m) * 2 ^ (l.length - m) + numOf (l.drop m) := by
  conv => lhs; rw [← List.take_append_drop m l]
  rw [numOf_append, List.length_drop]
/-- the first m bits, and what is left, of a string that is followed by noughts, and perhaps by something more -/
theorem cut_left (l : List Bool) (m : Nat) (rest : Bool) (hm : m < l.length) (hl : l.length ≤ 209) :
    roundP (numOf (l.take m)) (leftL (l.drop m) rest) = rhe (2 ^ (209 - m)) (2 * (numOf l * 2 ^ (209 - l.length)) + rest.toNat) := by
  have hc := cut_num l m (by omega)
  have hd : (l.drop m).length = l.length - m := List.length_drop ..
  have hlt := numOf_lt (l.drop m)
  rw [hd] at hlt
  cases hs : l.drop m with
  | nil => rw [hs] at hd; simp at hd; omega
  | cons b t =>
    rw [hs] at hd hlt hc
    have ht : t.length = l.length - m - 1 := by simp at hd; omega
    have htl := numOf_lt t
    rw [numOf_cons, ht] at hc hlt
    rw [ht] at htl
    -- powers
    have p1 : 2 ^ (l.length - m) = 2 * 2 ^ (l.length - m - 1) := by rw [← Nat.pow_succ']; congr 1; omega
    have p2 : 2 ^ (209 - m) = 2 ^ (l.length - m) * 2 ^ (209 - l.length) := by rw [← Nat.pow_add]; congr 1; omega
    have p3 : 0 < 2 ^ (l.length - m - 1) := Nat.pow_pos (by decide)
    have p4 : 0 < 2 ^ (209 - l.length) := Nat.pow_pos (by decide)
    rw [hc, p2, p1]
    rw [p1] at hlt
    have hany := any_num t
    unfold leftL
    rw [show (b :: t).getD 0 false = b from rfl, show (b :: t).drop 1 = t from rfl, hany]
    generalize numOf (l.take m) = P at *
    generalize 2 ^ (l.length - m - 1) = A at *
    generalize 2 ^ (209 - l.length) = C at *
    generalize numOf t = V at *
    -- the number is P times 2 H and R
    have hVC : V * C + C ≤ A * C := by rw [← Nat.succ_mul]; exact Nat.mul_le_mul_right _ htl
    have hV0 : V = 0 ∨ C ≤ V * C := by
      rcases Nat.eq_zero_or_pos V with h | h
      · exact .inl h
      · exact .inr (Nat.le_mul_of_pos_left _ h)
    have hAC : 0 < A * C := Nat.mul_pos p3 p4
    have hZ : 2 * ((P * (2 * A) + (b.toNat * A + V)) * C) + rest.toNat = P * (2 * (2 * A * C)) + (2 * (b.toNat * (A * C) + V * C) + rest.toNat) := by
      rw [Nat.add_mul, Nat.add_mul, Nat.mul_assoc b.toNat, Nat.mul_add, ← Nat.mul_assoc 2 (P * (2 * A)) C]
      have : 2 * (P * (2 * A)) * C = P * (2 * (2 * A * C)) := by
        simp only [Nat.mul_assoc, Nat.mul_left_comm]
      rw [this]; omega
    have hR : 2 * (b.toNat * (A * C) + V * C) + rest.toNat < 2 * (2 * A * C) := by
      rw [Nat.mul_assoc 2 A C]
      generalize A * C = D at *
      generalize V * C = E at *
      cases b <;> cases rest <;> simp <;> omega
    rw [hZ]
    unfold rhe
    have hpos : 0 < 2 * (2 * A * C) := by omega
    rw [Nat.mul_comm P, Nat.mul_add_div hpos, Nat.div_eq_of_lt hR, Nat.add_zero, Nat.mul_add_mod, Nat.mod_eq_of_lt hR]
    rw [Nat.mul_assoc 2 A C]
    congr 1
    generalize A * C = D at *
    rcases hV0 with rfl | hV0
    · cases b <;> cases rest <;> simp <;> (try omega)
      all_goals (repeat' split) <;> omega
    · have hne : V ≠ 0 := by rintro rfl; omega
      generalize hE : V * C = E at *
      cases b <;> cases rest <;> simp [hne] <;> (try omega)
      all_goals (repeat' split) <;> omega
end Go.Proofs.Ytheliihkkoohnab

namespace Go.Proofs.Ytheliihkkoohnab
set_option maxRecDepth 100000
set_option linter.unusedVariables false
set_option linter.unusedSimpArgs false

/-! ### an exact number's string, cut and rounded (plain mathematics) -/
def digX (hi lo : Nat) : List Bool := (bitsOf hi 64).drop 1 ++ bitsOf lo 64
def strX (s : Int) (hi lo : Nat) : List Bool := headK (s / 4) ++ bitsOf (s % 4).toNat 2 ++ digX hi lo
def manX (hi lo : Nat) : Nat := hi * 18446744073709551616 + lo
structure WordsX (hi lo : Nat) : Prop where
  top : 9223372036854775808 ≤ hi
  hi64 : hi < 18446744073709551616
  lo64 : lo < 18446744073709551616
theorem WordsX.mant {hi lo : Nat} (h : WordsX hi lo) : Mant (manX hi lo) := by
  obtain ⟨a, b, c⟩ := h
  unfold Mant manX
  have e1 : (2 : Nat) ^ 127 = 9223372036854775808 * 18446744073709551616 := by decide
  have e2 : (2 : Nat) ^ 128 = 18446744073709551616 * 18446744073709551616 := by decide
  omega
theorem digX_length (hi lo : Nat) : (digX hi lo).length = 127 := by simp [digX, bitsOf_length]
theorem digX_num {hi lo : Nat} (h : WordsX hi lo) : numOf (digX hi lo) = manX hi lo - 2 ^ 127 := by
  obtain ⟨a, b, c⟩ := h
  have h1 := top_word hi a b
  have h2 : numOf (bitsOf hi 64) = hi := by rw [numOf_bits]; exact Nat.mod_eq_of_lt b
  rw [h1, numOf_cons] at h2
  have h3 : ((bitsOf hi 64).drop 1).length = 63 := by rw [List.length_drop, bitsOf_length]
  rw [h3] at h2
  have h4 : numOf (bitsOf lo 64) = lo := by rw [numOf_bits]; exact Nat.mod_eq_of_lt c
  unfold digX manX
  rw [numOf_append, bitsOf_length, h4]
  have e1 : (2 : Nat) ^ 127 = 9223372036854775808 * 18446744073709551616 := by decide
  have e2 : (2 : Nat) ^ 64 = 18446744073709551616 := by decide
  have e3 : (2 : Nat) ^ 63 = 9223372036854775808 := by decide
  rw [e3] at h2
  simp only [Bool.toNat_true, Nat.one_mul] at h2
  generalize numOf ((bitsOf hi 64).drop 1) = x at *
  rw [e1, e2]
  omega
/-- is nothing left behind the first digit? -/
def justX (hi lo : Nat) (rest : Bool) : Bool := !rest && !(digX hi lo).any id
theorem justX_iff {hi lo : Nat} (h : WordsX hi lo) (rest : Bool) : justX hi lo rest = true ↔ rest = false ∧ manX hi lo = 2 ^ 127 := by
  unfold justX
  rw [any_num, digX_num h]
  have := h.mant.1
  cases rest <;> simp
  omega
/-- the scales that are neither at the greatest value nor at the least -/
def midX (n : Nat) (s : Int) (just : Bool) : Prop := s < 4 * n - 8 ∧ 8 - 4 * (n : Int) ≤ s ∧ ¬ (s = 8 - 4 * n ∧ just = true)
def cutX (n : Nat) (s : Int) (hi lo : Nat) (rest : Bool) : Nat × Nat :=
  if 4 * (n : Int) - 8 ≤ s then (2 ^ (n - 1) - 1, 0)
  else if s < 8 - 4 * (n : Int) ∨ (s = 8 - 4 * n ∧ justX hi lo rest = true) then (1, 0)
  else (numOf ((strX s hi lo).take (n - 1)), leftL ((strX s hi lo).drop (n - 1)) rest)
def rndX (n : Nat) (s : Int) (hi lo : Nat) (rest : Bool) : Nat := roundP (cutX n s hi lo rest).1 (cutX n s hi lo rest).2
def zX (s : Int) (hi lo : Nat) (rest : Bool) : Nat := 2 * zed s (manX hi lo) + rest.toNat
theorem numOf_false (t : List Bool) (h : false ∈ t) : numOf t + 2 ≤ 2 ^ t.length := by
  induction t with
  | nil => cases h
  | cons b t ih =>
    rw [numOf_cons, List.length_cons, Nat.pow_succ]
    have hlt := numOf_lt t
    have hp : 0 < 2 ^ t.length := Nat.pow_pos (by decide)
    cases b
    · simp; omega
    · have := ih (by simpa using h)
      simp; omega
theorem strX_mid (n : Nat) (s : Int) (hi lo : Nat) (hn : Wd n) (h1 : s < 4 * n - 8) (h2 : 8 - 4 * (n : Int) ≤ s) :
    true ∈ (strX s hi lo).take (n - 1) ∧ false ∈ (strX s hi lo).take (n - 1) ∧ ((strX s hi lo).take (n - 1)).length = n - 1 ∧ n - 1 < (strX s hi lo).length := by
  have hw := wd_le hn
  have hlen : 128 < (strX s hi lo).length := by
    unfold strX
    obtain ⟨b, r, hh, _⟩ := headK_form (s / 4)
    rw [hh]; simp [bitsOf_length, digX_length]
  have key : ∀ (b : Bool) (j : Nat) (R : List Bool), strX s hi lo = List.replicate (j + 1) b ++ (!b) :: R → j + 1 ≤ n - 2 → true ∈ (strX s hi lo).take (n - 1) ∧ false ∈ (strX s hi lo).take (n - 1) := by
    intro b j R e hj
    rw [e, List.take_append, List.length_replicate, show n - 1 - (j + 1) = (n - 1 - (j + 1) - 1) + 1 by omega, List.take_succ_cons, List.take_of_length_le (by rw [List.length_replicate]; omega)]
    cases b
    · exact ⟨List.mem_append_right _ (List.mem_cons_self ..), List.mem_append_left _ (by simp)⟩
    · exact ⟨List.mem_append_left _ (by simp), List.mem_append_right _ (List.mem_cons_self ..)⟩
  have hk : true ∈ (strX s hi lo).take (n - 1) ∧ false ∈ (strX s hi lo).take (n - 1) := by
    obtain ⟨b, r, hh, hk⟩ := headK_form (s / 4)
    refine key b r (bitsOf (s % 4).toNat 2 ++ digX hi lo) (by unfold strX; rw [hh]; simp) ?_
    cases b <;> simp at hk <;> omega
  exact ⟨hk.1, hk.2, by rw [List.length_take]; omega, by omega⟩
/-- in the middle the rounded pattern is the number's string, rounded -/
theorem rnd_mid (n : Nat) (s : Int) (hi lo : Nat) (rest : Bool) (hn : Wd n) (h : WordsX hi lo) (hm : midX n s (justX hi lo rest)) :
    rndX n s hi lo rest = rhe (2 ^ (210 - n)) (zX s hi lo rest) ∧ 1 ≤ rndX n s hi lo rest ∧ rndX n s hi lo rest ≤ 2 ^ (n - 1) - 1 := by
  have hw := wd_le hn
  obtain ⟨h1, h2, h3⟩ := hm
  obtain ⟨t1, t2, t3, t4⟩ := strX_mid n s hi lo hn h1 h2
  have hc : cutX n s hi lo rest = (numOf ((strX s hi lo).take (n - 1)), leftL ((strX s hi lo).drop (n - 1)) rest) := by
    unfold cutX
    rw [if_neg (by omega), if_neg (by rintro (h | h); omega; exact h3 h)]
  have p1 := numOf_pos _ t1
  have p2 := numOf_false _ t2
  rw [t3] at p2
  obtain ⟨z1, z2⟩ := zed_str s (manX hi lo) (digX hi lo) (digX_length hi lo) (digX_num h) (by omega) (by omega)
  have hcl := cut_left (strX s hi lo) (n - 1) rest t4 z1
  unfold rndX
  rw [hc]
  have hr := roundP_le (numOf ((strX s hi lo).take (n - 1))) (leftL ((strX s hi lo).drop (n - 1)) rest)
  refine ⟨?_, Nat.le_trans p1 hr.1, Nat.le_trans hr.2 (by omega)⟩
  show roundP _ _ = _
  rw [hcl, show 209 - (n - 1) = 210 - n by omega]
  unfold zX strX
  rw [z2]
theorem rnd_range (n : Nat) (s : Int) (hi lo : Nat) (rest : Bool) (hn : Wd n) (h : WordsX hi lo) : 1 ≤ rndX n s hi lo rest ∧ rndX n s hi lo rest ≤ 2 ^ (n - 1) - 1 := by
  obtain ⟨H, e1, e2, e3, _⟩ := wd_pows hn
  by_cases hm : midX n s (justX hi lo rest)
  · exact (rnd_mid n s hi lo rest hn h hm).2
  · unfold rndX cutX
    rw [e2]
    by_cases c1 : 4 * (n : Int) - 8 ≤ s
    · rw [if_pos c1]; simp only [roundP]; simp; omega
    · rw [if_neg c1]
      have c2 : s < 8 - 4 * (n : Int) ∨ (s = 8 - 4 * n ∧ justX hi lo rest = true) := by
        unfold midX at hm
        by_cases c3 : s < 8 - 4 * (n : Int)
        · exact .inl c3
        · refine .inr ?_
          by_cases c4 : s = 8 - 4 * n ∧ justX hi lo rest = true
          · exact c4
          · exact absurd ⟨by omega, by omega, c4⟩ hm
      rw [if_pos c2]; simp only [roundP]; simp; omega
theorem rnd_top (n : Nat) (s : Int) (hi lo : Nat) (rest : Bool) (c : 4 * (n : Int) - 8 ≤ s) : rndX n s hi lo rest = 2 ^ (n - 1) - 1 := by
  unfold rndX cutX; rw [if_pos c]; rfl
theorem rnd_low (n : Nat) (s : Int) (hi lo : Nat) (rest : Bool) (c0 : ¬ 4 * (n : Int) - 8 ≤ s) (c : s < 8 - 4 * (n : Int) ∨ (s = 8 - 4 * n ∧ justX hi lo rest = true)) : rndX n s hi lo rest = 1 := by
  unfold rndX cutX; rw [if_neg c0, if_pos c]; rfl
theorem mid_or (n : Nat) (s : Int) (j : Bool) : midX n s j ∨ 4 * (n : Int) - 8 ≤ s ∨ (¬ 4 * (n : Int) - 8 ≤ s ∧ (s < 8 - 4 * (n : Int) ∨ (s = 8 - 4 * n ∧ j = true))) := by
  unfold midX
  by_cases c1 : 4 * (n : Int) - 8 ≤ s
  · exact .inr (.inl c1)
  · by_cases c3 : s < 8 - 4 * (n : Int)
    · exact .inr (.inr ⟨c1, .inl c3⟩)
    · by_cases c4 : s = 8 - 4 * n ∧ j = true
      · exact .inr (.inr ⟨c1, .inr c4⟩)
      · exact .inl ⟨by omega, by omega, c4⟩
end Go.Proofs.Ytheliihkkoohnab

namespace Go.Proofs.Ytheliihkkoohnab
set_option maxRecDepth 100000
set_option linter.unusedVariables false
set_option linter.unusedSimpArgs false

/-! ### what the program cuts off a number's string, and what it finds behind (plain mathematics) -/
def cmpX (left : Nat) (rest : Bool) : Nat := if left = 2 ^ 127 then (if rest then 3 else 2) else if 2 ^ 127 < left then 3 else if left = 0 ∧ rest = false then 0 else 1
theorem left_num (l : List Bool) (j : Nat) (rest : Bool) (hj : 1 ≤ j) (hj2 : j ≤ 128) (hl : l.length = j + 1) :
    leftL l rest = cmpX (numOf l / 2 * 2 ^ (128 - j)) (decide (numOf l % 2 = 1) || rest) := by
  cases l with
  | nil => simp at hl
  | cons b t =>
    have ht : t.length = j := by simpa using hl
    have hV := numOf_lt t
    rw [ht] at hV
    rw [numOf_cons, ht]
    have hany := any_num t
    unfold leftL cmpX
    rw [show (b :: t).getD 0 false = b from rfl, show (b :: t).drop 1 = t from rfl, hany]
    have p1 : 2 ^ j = 2 * 2 ^ (j - 1) := by rw [← Nat.pow_succ']; congr 1; omega
    have p2 : 2 ^ (j - 1) * 2 ^ (128 - j) = 2 ^ 127 := by rw [← Nat.pow_add]; congr 1; omega
    have p3 : 0 < 2 ^ (128 - j) := Nat.pow_pos (by decide)
    rw [p1] at hV ⊢
    generalize numOf t = V at *
    generalize 2 ^ (j - 1) = A at *
    generalize 2 ^ (128 - j) = C at *
    have hh : (b.toNat * (2 * A) + V) / 2 = b.toNat * A + V / 2 := by cases b <;> simp <;> omega
    have hm : (b.toNat * (2 * A) + V) % 2 = V % 2 := by cases b <;> simp <;> omega
    rw [hh, hm, Nat.add_mul, Nat.mul_assoc b.toNat A C, ← p2]
    have hlt : V / 2 * C < A * C := Nat.mul_lt_mul_of_pos_right (by omega) p3
    have h0 : V / 2 * C = 0 ↔ V / 2 = 0 := by
      constructor
      · intro h; rcases Nat.mul_eq_zero.1 h with h | h <;> omega
      · intro h; rw [h]; simp
    generalize V / 2 * C = X at *
    generalize A * C = D at *
    cases b
    · simp only [Bool.toNat_false, Nat.zero_mul, Nat.zero_add]
      have n1 : ¬ X = D := by omega
      have n2 : ¬ D < X := by omega
      rw [if_neg n1, if_neg n2]
      by_cases hx : X = 0
      · have := h0.1 hx
        rcases Nat.mod_two_eq_zero_or_one V with hv | hv
        · have : V = 0 := by omega
          subst this
          cases rest <;> simp [hx]
        · have : V ≠ 0 := by omega
          cases rest <;> simp [hx, hv, this]
      · have : ¬ V / 2 = 0 := fun h => hx (h0.2 h)
        have : V ≠ 0 := by omega
        cases rest <;> simp [hx, this]
    · simp only [Bool.toNat_true, Nat.one_mul]
      by_cases hx : X = 0
      · have := h0.1 hx
        have n1 : D + X = D := by omega
        rw [if_pos n1]
        rcases Nat.mod_two_eq_zero_or_one V with hv | hv
        · have : V = 0 := by omega
          subst this
          cases rest <;> simp
        · have : V ≠ 0 := by omega
          cases rest <;> simp [hv, this]
      · have : ¬ V / 2 = 0 := fun h => hx (h0.2 h)
        have : V ≠ 0 := by omega
        have n1 : ¬ D + X = D := by omega
        have n2 : D < D + X := by omega
        rw [if_neg n1, if_pos n2]
        cases rest <;> simp [this]
theorem headK_num (k : Int) : numOf (headK k) = (if 0 ≤ k then 2 ^ (k.toNat + 2) - 2 else 1) ∧ (headK k).length = (if 0 ≤ k then k.toNat + 2 else (1 - k).toNat) := by
  unfold headK
  by_cases h : 0 ≤ k
  · rw [if_pos h, if_pos h, if_pos h, numOf_append, numOf_ones]
    have : 1 ≤ 2 ^ (k.toNat + 1) := Nat.one_le_two_pow
    rw [Nat.pow_succ 2 (k.toNat + 1)]
    refine ⟨?_, by simp⟩
    show (2 ^ (k.toNat + 1) - 1) * 2 ^ 1 + 0 = _
    omega
  · rw [if_neg h, if_neg h, if_neg h, numOf_append, show List.replicate (-k).toNat false = noughts (-k).toNat from rfl, numOf_noughts]
    refine ⟨by simp; rfl, ?_⟩
    simp [noughts]; omega
def tailL (s : Int) (hi lo : Nat) : List Bool := bitsOf (s % 4).toNat 2 ++ digX hi lo
theorem tailL_num (s : Int) {hi lo : Nat} (h : WordsX hi lo) : (tailL s hi lo).length = 129 ∧ numOf (tailL s hi lo) = tailN s (manX hi lo) := by
  unfold tailL
  refine ⟨by simp [bitsOf_length, digX_length], ?_⟩
  rw [numOf_append, digX_num h, digX_length, numOf_bits, Nat.mod_eq_of_lt (by omega)]
  rfl
theorem room_pows (room : Nat) (h : room ≤ 64) : 2 ^ (129 - room) = 2 * 2 ^ (128 - room) ∧ 2 ^ 128 = 2 ^ (128 - room) * 2 ^ room := by
  refine ⟨?_, ?_⟩
  · rw [← Nat.pow_succ']; congr 1; omega
  · rw [← Nat.pow_add]; congr 1; omega
/-- the first n - 1 bits of the string, and what is left, from the run and from what stands behind it but for the last bit -/
theorem cut_parts (n : Nat) (s : Int) (hi lo : Nat) (rest : Bool) (h : WordsX hi lo) (hr : (headK (s / 4)).length ≤ n - 1) (hn : n ≤ 64) (B room : Nat)
    (hB : B = tailN s (manX hi lo) / 2) (hroom : room = n - 1 - (headK (s / 4)).length) :
    numOf ((strX s hi lo).take (n - 1)) = numOf (headK (s / 4)) * 2 ^ room + B / 2 ^ (128 - room) ∧ B / 2 ^ (128 - room) < 2 ^ room ∧ leftL ((strX s hi lo).drop (n - 1)) rest = cmpX (B * 2 ^ room % 2 ^ 128) (decide (lo % 2 = 1) || rest) := by
  obtain ⟨t1, t2⟩ := tailL_num s h
  have e : strX s hi lo = headK (s / 4) ++ tailL s hi lo := by unfold strX tailL; simp
  have hr2 : room ≤ 64 := by omega
  have e1 : (strX s hi lo).take (n - 1) = headK (s / 4) ++ (tailL s hi lo).take room := by
    rw [e, List.take_append, List.take_of_length_le hr, ← hroom]
  have e2 : (strX s hi lo).drop (n - 1) = (tailL s hi lo).drop room := by
    rw [e, List.drop_append, List.drop_of_length_le hr, ← hroom, List.nil_append]
  have hc := cut_num (tailL s hi lo) room (by omega)
  have hlt := numOf_lt ((tailL s hi lo).drop room)
  rw [List.length_drop, t1] at hlt
  rw [t1, t2] at hc
  have hpar : tailN s (manX hi lo) % 2 = lo % 2 := by
    unfold tailN manX
    have := h.top
    rw [show (2 : Nat) ^ 127 = 2 * 85070591730234615865843651857942052864 by decide]
    omega
  obtain ⟨p1, p3⟩ := room_pows room hr2
  have hdl : ((tailL s hi lo).drop room).length = (128 - room) + 1 := by rw [List.length_drop, t1]; omega
  have htl : ((tailL s hi lo).take room).length = room := by rw [List.length_take, t1]; omega
  have hlf := left_num ((tailL s hi lo).drop room) (128 - room) rest (by omega) (by omega) hdl
  have htk := numOf_lt ((tailL s hi lo).take room)
  rw [htl] at htk
  rw [e1, e2, hlf, numOf_append, htl, p3, Nat.mul_mod_mul_right, show 128 - (128 - room) = room by omega]
  rw [p1] at hc hlt
  generalize numOf ((tailL s hi lo).drop room) = R at *
  generalize numOf ((tailL s hi lo).take room) = P at *
  generalize tailN s (manX hi lo) = T at *
  have hpos : 0 < 2 ^ (128 - room) := Nat.pow_pos (by decide)
  generalize 2 ^ (128 - room) = G at *
  have hB2 : B = P * G + R / 2 := by
    have : P * (2 * G) = 2 * (P * G) := by rw [Nat.mul_left_comm]
    omega
  have hRG : R / 2 < G := by omega
  have d1 : B / G = P := by rw [hB2, Nat.mul_comm, Nat.mul_add_div hpos, Nat.div_eq_of_lt hRG]; rfl
  have d2 : B % G = R / 2 := by rw [hB2, Nat.mul_comm, Nat.mul_add_mod, Nat.mod_eq_of_lt hRG]
  have hR2 : R % 2 = lo % 2 := by
    have : P * (2 * G) = 2 * (P * G) := by rw [Nat.mul_left_comm]
    omega
  rw [d1, d2, hR2]
  exact ⟨rfl, htk, rfl⟩
/-- within the ends the run has room -/
theorem head_room (n : Nat) (s : Int) (hn : Wd n) (h1 : s < 4 * n - 8) (h2 : 8 - 4 * (n : Int) ≤ s) : (headK (s / 4)).length ≤ n - 1 ∧ 2 ≤ (headK (s / 4)).length := by
  have hw := wd_le hn
  rw [(headK_num (s / 4)).2]
  split <;> omega
end Go.Proofs.Ytheliihkkoohnab

namespace Go.Proofs.Ytheliihkkoohnab
open Go.ChangeShapes Go.WideShapes Go.ChangeAt Go.RowKit
set_option linter.unusedVariables false
set_option linter.unusedSimpArgs false
set_option maxRecDepth 100000

/-! ### the document's round: which Exacts are sound; what is left -/
def exV (k : Int) (neg : Bool) (s : Int) (hi lo : Nat) (rest : Bool) : Value := .agg #[.int .i64 k, .bool neg, .int .i64 s, .int .u64 hi, .int .u64 lo, .bool rest]
def soundX (k : Int) (neg : Bool) (s : Int) (hi lo : Nat) (rest : Bool) : Bool :=
  if k = 0 ∨ k = 2 then decide (neg = false ∧ s = 0 ∧ hi = 0 ∧ lo = 0 ∧ rest = false) else decide (k = 1 ∧ 9223372036854775808 ≤ hi ∧ -1099511627776 ≤ s ∧ s ≤ 1099511627776)
end Go.Proofs.Ytheliihkkoohnab

namespace Go.Proofs.Ytheliihkkoohnab
open Go.ChangeShapes Go.WideShapes Go.ChangeAt Go.RowKit
set_option linter.unusedVariables false
set_option linter.unusedSimpArgs false
set_option maxRecDepth 100000

/-! ### the document's Cut -/
end Go.Proofs.Ytheliihkkoohnab

namespace Go.Proofs.Ytheliihkkoohnab
open Go.ChangeShapes Go.WideShapes Go.ChangeAt Go.RowKit
set_option linter.unusedVariables false
set_option linter.unusedSimpArgs false
set_option maxRecDepth 100000

/-! ### the document's Round -/
def patR (n : Nat) (neg : Bool) (R : Nat) : Nat := if neg then 2 ^ n - R else R
end Go.Proofs.Ytheliihkkoohnab

namespace Go.Proofs.Ytheliihkkoohnab
open Go.ChangeShapes Go.WideShapes Go.ChangeAt Go.RowKit
set_option linter.unusedVariables false
set_option linter.unusedSimpArgs false
set_option maxRecDepth 100000

/-! ### the document's Of -/
end Go.Proofs.Ytheliihkkoohnab

namespace Go.Proofs.Ytheliihkkoohnab
open Go.ChangeShapes Go.WideShapes Go.ChangeAt Go.RowKit
set_option linter.unusedVariables false
set_option linter.unusedSimpArgs false
set_option maxRecDepth 100000

/-! ### the document's order of exact numbers -/
end Go.Proofs.Ytheliihkkoohnab

namespace Go.Proofs.Ytheliihkkoohnab
open Go.ChangeShapes Go.WideShapes Go.ChangeAt Go.RowKit
set_option linter.unusedVariables false
set_option linter.unusedSimpArgs false
set_option maxRecDepth 100000

/-! ### two numbers of one sign, compared -/
end Go.Proofs.Ytheliihkkoohnab

namespace Go.Proofs.Ytheliihkkoohnab
open Go.ChangeShapes Go.WideShapes Go.ChangeAt Go.RowKit
set_option linter.unusedVariables false
set_option linter.unusedSimpArgs false
set_option maxRecDepth 100000

/-! ### a scale within the bound -/
def heldX (s : Int) : Int := if s < -1099511627776 then -1099511627776 else if s > 1099511627776 then 1099511627776 else s
end Go.Proofs.Ytheliihkkoohnab

namespace Go.Proofs.Ytheliihkkoohnab
set_option maxRecDepth 100000

/-! ### numbers as rows of digits of 24 bits, the lowest first -/
/-- what stands from digit k on -/
def top (n : Nat) : Nat → Nat
  | 0 => n
  | k + 1 => top n k / 16777216
theorem top_zero (n : Nat) : top n 0 = n := rfl
theorem top_succ (n k : Nat) : top n (k + 1) = top n k / 16777216 := rfl
theorem top_succ' (n k : Nat) : top n (k + 1) = top (n / 16777216) k := by
  induction k with
  | zero => rfl
  | succ k ih => rw [top_succ, ih, top_succ]
theorem top_eq (n k : Nat) : top n k = n / 16777216 ^ k := by
  induction k with
  | zero => simp [top]
  | succ k ih => rw [top_succ, ih, Nat.div_div_eq_div_mul, Nat.pow_succ]
theorem top_add (n j k : Nat) : top n (j + k) = top (top n j) k := by
  induction k with
  | zero => rfl
  | succ k ih => rw [← Nat.add_assoc, top_succ, ih, top_succ]
theorem top_zero_left (k : Nat) : top 0 k = 0 := by
  induction k with
  | zero => rfl
  | succ k ih => rw [top_succ, ih]
/-- the lowest k digits -/
def low (n k : Nat) : List Nat := (List.range k).map fun i => top n i % 16777216
theorem low_length (n k : Nat) : (low n k).length = k := by simp [low]
theorem low_zero (n : Nat) : low n 0 = [] := rfl
theorem low_snoc (n k : Nat) : low n (k + 1) = low n k ++ [top n k % 16777216] := by simp [low, List.range_succ]
theorem low_cons (n k : Nat) : low n (k + 1) = n % 16777216 :: low (n / 16777216) k := by
  simp only [low, List.range_succ_eq_map, List.map_cons, List.map_map, top_zero]
  congr 1
  apply List.map_congr_left
  intro i _
  simp [top_succ']
theorem low_get (n k i : Nat) (h : i < k) : (low n k).getD i 0 = top n i % 16777216 := by
  simp [low, h]

def dig (n : Nat) : List Nat := if h : n = 0 then [] else n % 16777216 :: dig (n / 16777216)
theorem dig_zero : dig 0 = [] := by unfold dig; simp
theorem dig_pos {n : Nat} (h : n ≠ 0) : dig n = n % 16777216 :: dig (n / 16777216) := by
  conv => lhs; unfold dig
  simp [h]
/-- how many digits -/
def dlen (n : Nat) : Nat := (dig n).length
theorem dlen_zero : dlen 0 = 0 := by simp [dlen, dig_zero]
theorem dlen_pos {n : Nat} (h : n ≠ 0) : dlen n = dlen (n / 16777216) + 1 := by simp [dlen, dig_pos h]
theorem top_pos_iff (n k : Nat) : 0 < top n k ↔ k < dlen n := by
  induction k generalizing n with
  | zero =>
    rw [top_zero]
    by_cases h : n = 0
    · subst h; simp [dlen_zero]
    · rw [dlen_pos h]; omega
  | succ k ih =>
    rw [top_succ', ih]
    by_cases h : n = 0
    · subst h; simp [dlen_zero]
    · rw [dlen_pos h]; omega
theorem top_eq_zero {n k : Nat} (h : dlen n ≤ k) : top n k = 0 := by
  by_cases hc : 0 < top n k
  · have := (top_pos_iff n k).1 hc; omega
  · omega
theorem low_dlen (n : Nat) : low n (dlen n) = dig n := by
  induction n using Nat.strongRecOn with
  | _ n ih =>
    by_cases h : n = 0
    · subst h; simp [dlen_zero, low_zero, dig_zero]
    · rw [dlen_pos h, low_cons, ih _ (by omega), ← dig_pos h]
theorem low_more (n k : Nat) : low n (dlen n + k) = dig n ++ List.replicate k 0 := by
  induction k with
  | zero => simp [low_dlen]
  | succ k ih => rw [← Nat.add_assoc, low_snoc, ih, top_eq_zero (by omega), List.append_assoc, List.replicate_succ']
theorem low_ge {n m : Nat} (h : dlen n ≤ m) : low n m = dig n ++ List.replicate (m - dlen n) 0 := by
  obtain ⟨k, rfl⟩ := Nat.exists_eq_add_of_le h
  rw [low_more]; congr 2; omega
theorem dig_get (n k : Nat) : (dig n).getD k 0 = top n k % 16777216 := by
  by_cases h : k < dlen n
  · rw [← low_dlen, low_get _ _ _ h]
  · rw [top_eq_zero (by omega), List.getD_eq_getElem?_getD, List.getElem?_eq_none (by unfold dlen at h; omega)]; rfl
theorem dig_length (n : Nat) : (dig n).length = dlen n := rfl
theorem dlen_le_of_lt {n k : Nat} (h : n < 16777216 ^ k) : dlen n ≤ k := by
  by_cases hc : dlen n ≤ k
  · exact hc
  · have h1 : 0 < top n k := (top_pos_iff n _).2 (by omega)
    rw [top_eq, Nat.div_eq_of_lt h] at h1; omega
/-- the number that a row of digits is -/
def val : List Nat → Nat
  | [] => 0
  | d :: l => d + 16777216 * val l
theorem val_cons (d : Nat) (l : List Nat) : val (d :: l) = d + 16777216 * val l := rfl
theorem val_append (l m : List Nat) : val (l ++ m) = val l + 16777216 ^ l.length * val m := by
  induction l with
  | nil => simp [val]
  | cons d l ih => simp only [List.cons_append, val_cons, ih, List.length_cons, Nat.pow_succ, Nat.mul_add]; rw [Nat.mul_comm (16777216 ^ l.length) 16777216, Nat.mul_assoc]; omega
theorem val_low (l : List Nat) (h : ∀ d ∈ l, d < 16777216) : low (val l) l.length = l := by
  induction l with
  | nil => rfl
  | cons d l ih =>
    have hd := h d (by simp)
    rw [List.length_cons, low_cons]
    have e1 : val (d :: l) % 16777216 = d := by rw [val_cons]; omega
    have e2 : val (d :: l) / 16777216 = val l := by rw [val_cons]; omega
    rw [e1, e2, ih (fun x hx => h x (by simp [hx]))]
theorem val_dig (n : Nat) : val (dig n) = n := by
  induction n using Nat.strongRecOn with
  | _ n ih =>
    by_cases h : n = 0
    · subst h; simp [dig_zero, val]
    · rw [dig_pos h, val_cons, ih _ (by omega)]; omega
theorem val_lt (l : List Nat) (h : ∀ d ∈ l, d < 16777216) : val l < 16777216 ^ l.length := by
  induction l with
  | nil => simp [val]
  | cons d l ih =>
    have hd := h d (by simp)
    have := ih (fun x hx => h x (by simp [hx]))
    rw [val_cons, List.length_cons, Nat.pow_succ]
    omega
theorem dig_drop (n q : Nat) : (dig n).drop q = dig (top n q) := by
  induction q generalizing n with
  | zero => rfl
  | succ q ih =>
    by_cases h : n = 0
    · subst h; simp [dig_zero, top_zero_left]
    · rw [dig_pos h, List.drop_succ_cons, ih, top_succ']
theorem dlen_top (n q : Nat) : dlen (top n q) = dlen n - q := by
  have := congrArg List.length (dig_drop n q)
  rw [List.length_drop] at this; unfold dlen; omega
end Go.Proofs.Ytheliihkkoohnab

namespace Go.Proofs.Ytheliihkkoohnab
open Go.ChangeShapes Go.WideShapes Go.ChangeAt Go.RowKit
set_option linter.unusedVariables false
set_option maxRecDepth 100000

/-! ### rows of ints that are read -/
def enc (d : Nat) : Value := .int .i64 (d : Int)
/-- b is a block of ints -/
def IntB (w : World) (b : Nat) : Prop := ∃ cs, w.heap[b]? = some (.cells cs 3 (0, 0))
theorem IntB.lt {w : World} {b : Nat} (h : IntB w b) : b < w.heap.size := by
  obtain ⟨cs, h⟩ := h; exact (Array.getElem?_eq_some_iff.1 h).1
theorem IntB.same {w w' : World} {b : Nat} (h : IntB w b) (e : w'.heap[b]? = w.heap[b]?) : IntB w' b := by
  obtain ⟨cs, h⟩ := h; exact ⟨cs, e.trans h⟩
theorem IntB.set {w : World} {b g j : Nat} {u : Value} (h : IntB w b) : IntB (w.setCell ⟨g, j, none⟩ u) b := by
  obtain ⟨cs, h⟩ := h
  by_cases e : b = g
  · subst e; exact ⟨_, heap_setCell_same w b j cs _ u h⟩
  · exact ⟨cs, (heap_setCell_other w ⟨g, j, none⟩ b u e).trans h⟩
/-- v is a slice of ints that reads as l in w -/
def Row (w : World) (v : Value) (l : List Nat) : Prop :=
  ∃ ao c, v = .slice ao l.length c ∧ c ≤ 9223372036854775807 ∧ l.length ≤ c ∧
    ((ao = none ∧ l = [] ∧ c = 0) ∨ ∃ b off, ao = some ⟨b, off, none⟩ ∧ IntB w b ∧ ∀ j, j < l.length → w.cell? ⟨b, off + j, none⟩ = some (.int .i64 (l.getD j 0 : Nat)))
theorem Row.below {w w' : World} {v : Value} {l : List Nat} (h : Row w v l) (hb : Below w.heap.size w w') : Row w' v l := by
  obtain ⟨ao, c, rfl, hc, hl, h⟩ := h
  refine ⟨ao, c, rfl, hc, hl, ?_⟩
  rcases h with h | ⟨b, off, rfl, hlt, h⟩
  · exact .inl h
  · exact .inr ⟨b, off, rfl, hlt.same (hb.block b hlt.lt), fun j hj => (hb.cell (p := ⟨b, off + j, none⟩) hlt.lt).trans (h j hj)⟩
/-- how a row goes into a walk -/
theorem Row.out {w : World} {v : Value} {l : List Nat} (h : Row w v l) : ∃ ao c, v = .slice ao l.length c ∧ c ≤ 9223372036854775807 ∧ l.length ≤ c ∧
    (l.length = 0 ∨ ∃ b off, ao = some ⟨b, off, none⟩ ∧ ∀ j, j < l.length → w.cell? ⟨b, off + j, none⟩ = some (.int .i64 (l.getD j 0 : Nat))) := by
  obtain ⟨ao, c, rfl, hc, hl, h⟩ := h
  refine ⟨ao, c, rfl, hc, hl, ?_⟩
  rcases h with ⟨_, rfl, _⟩ | ⟨b, off, rfl, _, h⟩
  · exact .inl rfl
  · exact .inr ⟨b, off, rfl, h⟩

/-- 'l[:n]' of a row -/
theorem Row.take {w : World} {ao : Option Addr} {c k : Nat} {l : List Nat} (h : Row w (.slice ao k c) l) (n : Nat) (hn : n ≤ l.length) : Row w (.slice ao n c) (l.take n) := by
  obtain ⟨ao', c', he, hc, hl, h⟩ := h
  injection he with e1 e2 e3
  subst e1 e2 e3
  have e : (l.take n).length = n := by rw [List.length_take]; omega
  refine ⟨ao, c, by rw [e], hc, by omega, ?_⟩
  rcases h with ⟨h1, h2, h3⟩ | ⟨b, off, h1, h2, h3⟩
  · exact .inl ⟨h1, by rw [h2]; simp, h3⟩
  · refine .inr ⟨b, off, h1, h2, fun j hj => ?_⟩
    rw [e] at hj
    rw [h3 j (by omega), List.getD_eq_getElem?_getD, List.getD_eq_getElem?_getD, List.getElem?_take_of_lt hj]

end Go.Proofs.Ytheliihkkoohnab

namespace Go.Proofs.Ytheliihkkoohnab
open Go.ChangeShapes Go.WideShapes Go.ChangeAt Go.RowKit
set_option linter.unusedVariables false
set_option maxRecDepth 100000

/-- how a number's slice goes into a walk that reads its elements -/
theorem Row.reads {w : World} {v : Value} {n : Nat} (h : Row w v (dig n)) : ∃ ao c, v = .slice ao (dlen n) c ∧ c ≤ 9223372036854775807 ∧ dlen n ≤ c ∧
    (dlen n = 0 ∨ ∃ b off, ao = some ⟨b, off, none⟩ ∧ b < w.heap.size ∧ ∀ j, j < dlen n → w.cell? ⟨b, off + j, none⟩ = some (.int .i64 (top n j % 16777216 : Nat))) := by
  obtain ⟨ao, c, rfl, hc, hl, h⟩ := h
  refine ⟨ao, c, rfl, hc, hl, ?_⟩
  rcases h with ⟨_, h, _⟩ | ⟨b, off, rfl, hb, h⟩
  · exact .inl (by unfold dlen; rw [h]; rfl)
  · exact .inr ⟨b, off, rfl, hb.lt, fun j hj => by rw [h j hj, dig_get]⟩
end Go.Proofs.Ytheliihkkoohnab

namespace Go.Proofs.Ytheliihkkoohnab
open Go.ChangeShapes Go.WideShapes Go.ChangeAt Go.RowKit
set_option linter.unusedVariables false
set_option maxRecDepth 100000

/-- 'l[q:]' of a row -/
theorem Row.drop {w : World} {b off c : Nat} {n k : Nat} (h : Row w (.slice (some ⟨b, off, none⟩) k c) (dig n)) (q : Nat) (hq : q ≤ dlen n) : Row w (.slice (some ⟨b, off + q, none⟩) (dlen n - q) (c - q)) (dig (top n q)) := by
  obtain ⟨ao', c', he, hc, hl, h⟩ := h
  injection he with e1 e2 e3
  subst e1 e2 e3
  have hl' : dlen n ≤ c := hl
  refine ⟨_, c - q, by rw [dig_length, dlen_top], by omega, by rw [dig_length, dlen_top]; omega, ?_⟩
  rcases h with ⟨h1, h2⟩ | ⟨b', off', h1, h2, h3⟩
  · simp at h1
  · simp at h1
    obtain ⟨rfl, rfl⟩ := h1
    refine .inr ⟨_, _, rfl, h2, fun j hj => ?_⟩
    rw [dig_length, dlen_top] at hj
    rw [Nat.add_assoc, h3 (q + j) (by rw [dig_length]; omega), dig_get, dig_get, top_add]

end Go.Proofs.Ytheliihkkoohnab

namespace Go.Proofs.Ytheliihkkoohnab
open Go.ChangeShapes Go.WideShapes Go.ChangeAt Go.RowKit
set_option linter.unusedVariables false
set_option maxRecDepth 100000

theorem Row.drew {w : World} {v : Value} {l : List Nat} (h : Row w v l) : Row w.drew v l := h.below (Below.refl _ _).drew
theorem Row.cells {w : World} {b off k c n : Nat} (h : Row w (.slice (some ⟨b, off, none⟩) k c) (dig n)) : ∀ j, j < dlen n → w.cell? ⟨b, off + j, none⟩ = some (.int .i64 (top n j % 16777216 : Nat)) := by
  obtain ⟨ao, c', he, _, _, hr⟩ := h.reads
  injection he with e1 _ _
  subst e1
  intro j hj
  rcases hr with hr | ⟨b', off', e, _, hr⟩
  · omega
  · simp at e
    obtain ⟨rfl, rfl⟩ := e
    exact hr j hj

end Go.Proofs.Ytheliihkkoohnab

namespace Go.Proofs.Ytheliihkkoohnab
open Go.ChangeShapes Go.WideShapes Go.ChangeAt Go.RowKit
set_option linter.unusedVariables false
set_option maxRecDepth 100000

/-! ### how many bits -/
def blen (n : Nat) : Nat := if h : n = 0 then 0 else blen (n / 2) + 1
theorem blen_zero : blen 0 = 0 := by unfold blen; simp
theorem blen_pos {n : Nat} (h : n ≠ 0) : blen n = blen (n / 2) + 1 := by
  conv => lhs; unfold blen
  simp [h]
theorem blen_le {n m : Nat} : blen n ≤ m ↔ n < 2 ^ m := by
  induction m generalizing n with
  | zero =>
    by_cases h : n = 0
    · subst h; simp [blen_zero]
    · rw [blen_pos h]; simp; exact h
  | succ m ih =>
    by_cases h : n = 0
    · subst h; simp [blen_zero]; exact Nat.pow_pos (by decide)
    · rw [blen_pos h, Nat.add_le_add_iff_right, ih, Nat.pow_succ]; omega
theorem blen_shift {a k : Nat} (h : a / 2 ^ k ≠ 0) : blen a = blen (a / 2 ^ k) + k := by
  induction k with
  | zero => simp
  | succ k ih =>
    have e : a / 2 ^ (k + 1) = a / 2 ^ k / 2 := by rw [Nat.pow_succ, Nat.div_div_eq_div_mul]
    have h1 : a / 2 ^ k ≠ 0 := by intro h2; rw [e, h2] at h; simp at h
    rw [ih h1, blen_pos h1, e]; omega
/-! ### comparing -/
def cmpN (a b : Nat) : Int := if a < b then -1 else if a = b then 0 else 1
theorem cmpN_lt {a b : Nat} (h : a < b) : cmpN a b = -1 := by simp [cmpN, h]
theorem cmpN_gt {a b : Nat} (h : b < a) : cmpN a b = 1 := by unfold cmpN; rw [if_neg (by omega), if_neg (by omega)]
theorem cmpN_eq (a : Nat) : cmpN a a = 0 := by simp [cmpN]
/-! ### is one of the lowest bits 1? -/
end Go.Proofs.Ytheliihkkoohnab

namespace Go.Proofs.Ytheliihkkoohnab
open Go.ChangeShapes Go.WideShapes Go.ChangeAt Go.RowKit
set_option linter.unusedVariables false
set_option linter.unusedSimpArgs false
set_option maxRecDepth 100000

/-! ### a natural number's first 128 bits, and whether something is lost -/
def normN (M : Nat) : Nat := if blen M < 128 then M * 2 ^ (128 - blen M) else M / 2 ^ (blen M - 128)
def lostN (M : Nat) : Bool := decide (128 < blen M) && decide (M % 2 ^ (blen M - 128) ≠ 0)
def exactV (neg : Bool) (M : Nat) (exp : Int) (rest : Bool) : Value :=
  if M = 0 then exV 0 false 0 0 0 false else exV 1 neg (heldX (exp + blen M - 1)) (normN M / 2 ^ 64 % 2 ^ 64) (normN M % 2 ^ 64) (rest || lostN M)
theorem blen_lo {M : Nat} (h : M ≠ 0) : 2 ^ (blen M - 1) ≤ M := by
  have := @blen_le M (blen M - 1)
  have hp : blen M ≠ 0 := by rw [blen_pos h]; omega
  refine Nat.le_of_not_lt fun hlt => ?_
  have := this.2 hlt
  omega
theorem blen_hi (M : Nat) : M < 2 ^ blen M := blen_le.1 (Nat.le_refl _)
/-- the first of the 128 bits is a 1 -/
theorem normN_mant {M : Nat} (h : M ≠ 0) : 2 ^ 127 ≤ normN M ∧ normN M < 2 ^ 128 := by
  have h1 := blen_lo h
  have h2 := blen_hi M
  have hp : 1 ≤ blen M := by rw [blen_pos h]; omega
  unfold normN
  split
  · rename_i hc
    constructor
    · have := Nat.mul_le_mul_right (2 ^ (128 - blen M)) h1
      rwa [← Nat.pow_add, show blen M - 1 + (128 - blen M) = 127 by omega] at this
    · have := Nat.mul_lt_mul_of_pos_right h2 (show 0 < 2 ^ (128 - blen M) from Nat.pow_pos (by decide))
      rwa [← Nat.pow_add, show blen M + (128 - blen M) = 128 by omega] at this
  · rename_i hc
    constructor
    · rw [Nat.le_div_iff_mul_le (Nat.pow_pos (by decide)), ← Nat.pow_add, show 127 + (blen M - 128) = blen M - 1 by omega]
      exact h1
    · rw [Nat.div_lt_iff_lt_mul (Nat.pow_pos (by decide)), ← Nat.pow_add, show 128 + (blen M - 128) = blen M by omega]
      exact h2
theorem normN_words {M : Nat} (h : M ≠ 0) : WordsX (normN M / 2 ^ 64 % 2 ^ 64) (normN M % 2 ^ 64) := by
  obtain ⟨h1, h2⟩ := normN_mant h
  have e1 : normN M / 2 ^ 64 < 2 ^ 64 := by rw [Nat.div_lt_iff_lt_mul (Nat.pow_pos (by decide)), ← Nat.pow_add]; exact h2
  have e2 : 2 ^ 63 ≤ normN M / 2 ^ 64 := by rw [Nat.le_div_iff_mul_le (Nat.pow_pos (by decide)), ← Nat.pow_add]; exact h1
  rw [Nat.mod_eq_of_lt e1]
  exact ⟨e2, e1, Nat.mod_lt _ (by decide)⟩
end Go.Proofs.Ytheliihkkoohnab

namespace Go.Proofs.Ytheliihkkoohnab
open Go.ChangeShapes Go.WideShapes Go.ChangeAt Go.RowKit
set_option linter.unusedVariables false
set_option linter.unusedSimpArgs false
set_option maxRecDepth 100000

theorem Row.setU {w : World} {v : Value} {l : List Nat} (h : Row w v l) (m k : Nat) (u u' : Value) (hc : w.cell? ⟨m, k, none⟩ = some u) (hu : ∀ x, u ≠ .int .i64 x) : Row (w.setCell ⟨m, k, none⟩ u') v l := by
  obtain ⟨ao, c, rfl, hc1, hl, h⟩ := h
  refine ⟨ao, c, rfl, hc1, hl, ?_⟩
  rcases h with h | ⟨b, off, rfl, hlt, h⟩
  · exact .inl h
  · refine .inr ⟨b, off, rfl, hlt.set, fun j hj => ?_⟩
    have hj2 := h j hj
    have hne : (⟨m, k, none⟩ : Addr) ≠ ⟨b, off + j, none⟩ := fun e => by
      rw [← e, hc] at hj2
      exact hu _ (Option.some.inj hj2)
    rw [World.cell?_setCell_other _ _ _ _ hne]
    exact hj2
theorem heldX_bounds (s : Int) : -1099511627776 ≤ heldX s ∧ heldX s ≤ 1099511627776 := by unfold heldX; split <;> (try split) <;> omega
theorem cset6 {a W : World} {m : Nat} {v0 v1 v2 v3 v4 v5 : Value} (h : Below a.heap.size a W) (hb : a.heap.size ≤ m) :
    Below a.heap.size a ((((((W.setCell ⟨m, 0, none⟩ v0).setCell ⟨m, 1, none⟩ v1).setCell ⟨m, 2, none⟩ v2).setCell ⟨m, 3, none⟩ v3).setCell ⟨m, 4, none⟩ v4).setCell ⟨m, 5, none⟩ v5) :=
  cset (cset (cset (cset (cset (cset h hb 0 v0) hb 1 v1) hb 2 v2) hb 3 v3) hb 4 v4) hb 5 v5
end Go.Proofs.Ytheliihkkoohnab

namespace Go.Proofs.Ytheliihkkoohnab
open Go.ChangeShapes Go.WideShapes Go.ChangeAt Go.RowKit
set_option linter.unusedVariables false
set_option linter.unusedSimpArgs false
set_option maxRecDepth 100000

theorem exactV_form (neg : Bool) (M : Nat) (exp : Int) (rest : Bool) : ∃ k b s h l r, exactV neg M exp rest = exV k b s h l r := by
  unfold exactV
  split
  · exact ⟨_, _, _, _, _, _, rfl⟩
  · exact ⟨_, _, _, _, _, _, rfl⟩
/-! ### Makes -/
theorem manX_lt {hi lo : Nat} (hh : hi < 2 ^ 64) (hl : lo < 2 ^ 64) : manX hi lo < 2 ^ 128 := by unfold manX; omega
end Go.Proofs.Ytheliihkkoohnab
