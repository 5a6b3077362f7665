import Derived.WalkKit
import Derived.WalkLawsBesides
import Derived.WalkSpells
import Derived.ProofKit
import Derived.OpenShut
import Derived.Deep.QuietTactic
import Derived.BigQuiet
import Derived.Deep.RegionWith
namespace Go.Proofs.Ytajlgpamcpgalaa
open Go.ChangeShapes Go.WideShapes Go.ChangeAt Go.RowKit

theorem cps {P : Program} {f : FuncId} {args : Array Value} {w : World} {R : Ending → World → Prop}
    (h : ∀ Q, Hid (∀ e w', R e w' → Q e w') → Calls P f args w Q) : Calls P f args w R := h R (fun _ _ h => h)

/-- the world of a pure call: some draws, nothing else -/
theorem below_drewN {B : Nat} {a w : World} (h : Below B a w) (n : Nat) : Below B a (w.drewN n) := ⟨h.os, h.tape, h.output, h.size, h.block⟩

/-! ### append of one element -/
theorem append1 {P : Program} {w0 : World} {ops : Array Oper} {rest : List Oper} {o : Oper} {a : Act} {Q : Exit → Act → World → Prop} {u : Value} (hgd : o.guard = none) (s x : Operand) (t : TypeId)
    (ho : o.op = .call { callee := .builtin .append, args := #[s, x], argTypes := #[t, t] })
    (base : Nat) (e : TypeId) (i : TypeInfo) (z : Value) (bytes : Nat) (ht : P.underlying t = some (.slice e)) (hi : P.info? e = some i) (hz : i.zero = some z)
    (hsize : i.size = 1) (hby : i.bytes = bytes) (hzs : z.cells.size = 1)
    (v : Value) (n : Nat) (xs : List Value) (hown : w0.ownsRow base e 1 v n xs) (hs : a.eval s = v) (hu : u.oneCell' = true)
    (hx : a.eval x = .slice (some ⟨w0.heap.size, 0, none⟩) 1 1)
    (hbytes : (n + 1) * bytes ≤ 140737488355328) (hb1 : 0 < bytes) (hbase : base ≤ w0.heap.size)
    (h : ∀ v' w', w'.ownsRow base e 1 v' (n + 1) (xs ++ [u]) → Below base w0 w' → v' ≠ .slice none 0 0 → w0.grownBy w' v.ownBlock → wpList P ops Q rest (a.put o.dst v') w') :
    wpList P ops Q (o :: rest) a (w0.alloc (.cells #[u] e)) := by
  have hle : n + 1 ≤ (n + 1) * bytes := Nat.le_mul_of_pos_right _ hb1
  refine wpList_append_own _ hgd s x t ho base e i z 1 bytes ht hi hz hsize hby hzs (by decide) v n xs hs (hown.alloc _) ⟨w0.heap.size, 0, none⟩ 1 1 [u] hx rfl ?_ ?_ ?_ hbytes ?_ ?_
  · intro j y hj
    match j, hj with
    | 0, hj => simp at hj; subst hj; simp [Addr.add]
  · intro y hy; simp at hy; subst hy; exact hu
  · unfold maxLen; omega
  · simp; omega
  · intro v' w' h1 h2 h3
    have hlt := hown.lt
    refine h v' w' h1 (((Below.refl base w0).alloc hbase _).grown h2 (by simp; omega) (fun k hk => (hlt k hk).1)) ?_ ?_
    · intro hv; have := (h3.1 hv).2; omega
    · exact ⟨h2.os, h2.tape, h2.output, Nat.le_trans (by simp) h2.size, fun k hk hne => (h2.block k (by simp; omega) hne).trans (Below.heap_alloc w0 _ _ hk)⟩

/-- 'string(b)', b a row of the call's own -/
theorem run_convert_own {P : Program} {w : World} {base : Nat} {src dst e : TypeId} {v : Value} {n : Nat} (l : List UInt8) (hown : w.ownsRow base e 1 v n (l.map fun b => .int .u8 b.toNat))
    (hs : P.underlying src = some (.slice e)) (he : P.underlying e = some (.int .u8)) (hd : P.underlying dst = some .string) :
    (convert src dst v).run P w = .ok (.string ⟨l.toArray⟩) w := by
  obtain ⟨h1, h2⟩ := hown
  rcases h2 with ⟨rfl, rfl⟩ | ⟨g, cap, cur, rfl, _, hg, hn, _, hsz, ht⟩
  · have hl : l = [] := by simpa using h1
    subst hl
    exact run_convert_bytes_nil w src e hs he 0 0 dst hd
  · have hl : l.length = n := by simpa using h1
    subst hl
    refine run_convert_bytes_back w src dst e _ cap l hs he hd ?_
    intro j hj
    have hc : cur[j]? = some (.int .u8 (l[j].toNat : Int)) := by
      have e1 : (cur.toList.take (l.length * 1))[j]? = (l.map fun b => Value.int .u8 (b.toNat : Int))[j]? := by rw [ht]
      rw [List.getElem?_take_of_lt (by omega)] at e1
      simpa [hj] using e1
    unfold Addr.add; split <;> simp_all [World.cell?]

/-! ### words -/
theorem ext64 {a b : Nat} (ha : a < 2^64) (hb : b < 2^64) (h : ∀ i, i < 64 → a.testBit i = b.testBit i) : a = b := by
  apply Nat.eq_of_testBit_eq
  intro i
  by_cases hi : i < 64
  · exact h i hi
  · rw [Nat.testBit_lt_two_pow (Nat.lt_of_lt_of_le ha (Nat.pow_le_pow_right (by decide) (by omega))), Nat.testBit_lt_two_pow (Nat.lt_of_lt_of_le hb (Nat.pow_le_pow_right (by decide) (by omega)))]
theorem wrapI {n : Int} (h : -9223372036854775808 ≤ n ∧ n ≤ 9223372036854775807) : IntKind.i64.wrap n = n := by simp [IntKind.wrap, IntKind.bits, IntKind.signed]; omega
theorem wrapN (x : Nat) : IntKind.u64.wrap (x : Int) = ((x % 2^64 : Nat) : Int) := by rw [IntKind.wrap_u64]; omega
theorem wrapShl (x k : Nat) : IntKind.u64.wrap ((x : Int) * 2 ^ k) = (((x <<< k) % 2^64 : Nat) : Int) := by
  rw [Nat.shiftLeft_eq, ← wrapN]; simp
theorem shrN (x k : Nat) : (x : Int) / 2 ^ k = ((x >>> k : Nat) : Int) := by rw [Nat.shiftRight_eq_div_pow]; simp
/-- the lowest n bits' mask, as the code reckons it -/
theorem wrapMask (n : Nat) (hn : n ≤ 64) : IntKind.u64.wrap (IntKind.u64.wrap (2 ^ n) - 1) = ((2^n - 1 : Nat) : Int) := by
  have e : ((2:Int) ^ n) = ((2 ^ n : Nat) : Int) := by simp
  rw [e, wrapN]
  rcases Nat.lt_or_ge n 64 with h | h
  · have h1 : 2^n < 2^64 := Nat.pow_lt_pow_right (by decide) h
    have h2 : 0 < 2^n := Nat.pos_of_ne_zero (by simp)
    rw [Nat.mod_eq_of_lt h1, IntKind.wrap_u64]; omega
  · have : n = 64 := by omega
    subst this; rw [IntKind.wrap_u64]; decide
theorem mask_lt (n : Nat) (hn : n ≤ 64) : 2^n - 1 < 2^64 := by
  have : 2^n ≤ 2^64 := Nat.pow_le_pow_right (by decide) hn
  have h2 : 0 < 2^n := Nat.pos_of_ne_zero (by simp)
  omega

/-! ### bits as text -/
def bitByte (b : Bool) : UInt8 := if b then 49 else 48
def IsBits (s : ByteArray) (l : List Bool) : Prop := s.data.toList = l.map bitByte
def bitsOf (x n : Nat) : List Bool := (List.range n).map fun j => x.testBit (n - 1 - j)
def numOf (l : List Bool) : Nat := l.foldl (fun a b => 2 * a + b.toNat) 0
theorem bitsOf_length (x n : Nat) : (bitsOf x n).length = n := by simp [bitsOf]
theorem bitsOf_get (x n j : Nat) (h : j < n) : (bitsOf x n)[j]? = some (x.testBit (n - 1 - j)) := by
  simp [bitsOf, h]
theorem numOf_snoc (l : List Bool) (b : Bool) : numOf (l ++ [b]) = 2 * numOf l + b.toNat := by simp [numOf]
theorem numOf_acc (l : List Bool) (a : Nat) : l.foldl (fun a b => 2 * a + b.toNat) a = a * 2 ^ l.length + numOf l := by
  induction l generalizing a with
  | nil => simp [numOf]
  | cons b l ih => simp only [List.foldl_cons, numOf, List.length_cons]; rw [ih, ih (2 * 0 + b.toNat)]; simp only [Nat.pow_succ]; rw [Nat.add_mul, Nat.add_mul, Nat.add_assoc]; congr 1; rw [Nat.mul_comm (2 ^ l.length) 2, ← Nat.mul_assoc, Nat.mul_comm a 2]; simp
theorem numOf_cons (b : Bool) (l : List Bool) : numOf (b :: l) = b.toNat * 2 ^ l.length + numOf l := by
  have := numOf_acc l (2 * 0 + b.toNat); simpa [numOf] using this
theorem numOf_lt (l : List Bool) : numOf l < 2 ^ l.length := by
  induction l with
  | nil => simp [numOf]
  | cons b l ih => rw [numOf_cons, List.length_cons, Nat.pow_succ]; cases b <;> simp <;> omega
theorem numOf_testBit (l : List Bool) (i : Nat) : (numOf l).testBit i = (decide (i < l.length) && l.getD (l.length - 1 - i) false) := by
  induction l with
  | nil => simp [numOf]
  | cons b l ih =>
    have hlt := numOf_lt l
    rw [numOf_cons, Nat.mul_comm]
    rw [Nat.testBit_two_pow_mul_add _ hlt]
    by_cases h : i < l.length
    · rw [if_pos h, ih]
      have e : l.length + 1 - 1 - i = (l.length - 1 - i) + 1 := by omega
      simp only [List.length_cons, e, List.getD_cons_succ]
      simp [h, Nat.lt_succ_of_lt h]
    · rw [if_neg h]
      by_cases h2 : i = l.length
      · subst h2; cases b <;> simp
      · have h3 : ¬ i < (b :: l).length := by simp; omega
        have h4 : 1 ≤ i - l.length := by omega
        simp only [h3, decide_false, Bool.false_and]
        have : b.toNat < 2 ^ (i - l.length) := Nat.lt_of_lt_of_le (show b.toNat < 2 by cases b <;> decide) (by rw [show (2:Nat) = 2^1 from rfl]; exact Nat.pow_le_pow_right (by decide) h4)
        exact Nat.testBit_lt_two_pow this
/-- shown and read again: the lowest n bits -/
theorem bitsOf_getD (x n j : Nat) : (bitsOf x n).getD j false = (decide (j < n) && x.testBit (n - 1 - j)) := by
  by_cases h : j < n
  · rw [List.getD_eq_getElem?_getD, bitsOf_get x n j h]; simp [h]
  · rw [List.getD_eq_getElem?_getD, List.getElem?_eq_none (by rw [bitsOf_length]; omega)]; simp [h]
theorem isBits_size {s : ByteArray} {l : List Bool} (h : IsBits s l) : s.size = l.length := by
  have := congrArg List.length h; simpa using this
theorem isBits_get {s : ByteArray} {l : List Bool} (h : IsBits s l) (j : Nat) (hj : j < s.size) : s[j] = bitByte (l.getD j false) := by
  have hl := isBits_size h
  have e : s.data.toList[j]? = (l.map bitByte)[j]? := by rw [h]
  rw [List.getElem?_map, List.getElem?_eq_getElem (by simpa using hj), List.getElem?_eq_getElem (by omega)] at e
  simp only [Option.map_some, Option.some.injEq] at e
  rw [List.getD_eq_getElem?_getD, List.getElem?_eq_getElem (by omega)]
  exact e
theorem isBits_extract {s : ByteArray} {l : List Bool} (h : IsBits s l) (a b : Nat) : IsBits (s.extract a b) ((l.drop a).take (b - a)) := by
  unfold IsBits at *
  rw [ByteArray.data_extract]
  simp only [Array.toList_extract, List.extract_eq_take_drop, h, List.map_take, List.map_drop]
theorem isBits_append {s t : ByteArray} {l m : List Bool} (h : IsBits s l) (k : IsBits t m) : IsBits (s ++ t) (l ++ m) := by
  unfold IsBits at *
  simp [h, k]

theorem nat_of_u64 {a : Int} (h : (Lit.int .u64 a).wf = true) : ∃ x : Nat, a = x ∧ x < 2 ^ 64 := by
  have := bounds_u64 h
  exact ⟨a.toNat, by omega, by omega⟩

/-! ### pieces of a text -/
theorem slice_h {P : Program} {t : TypeId} {s : ByteArray} (ht : P.underlying t = some .string) (h : Int) (n : Nat) (hn : h = n) (h2 : n ≤ s.size) (wx : World) :
    (Instr.slice t (.string s) none (some (.int .i64 h)) none).run P wx = .ok (.string (s.extract 0 n)) wx := by
  subst hn
  exact run_slice_string_h wx t s ht .i64 n (by omega) (by omega)
theorem slice_l {P : Program} {t : TypeId} {s : ByteArray} (ht : P.underlying t = some .string) (l : Int) (n : Nat) (hn : l = n) (h2 : n ≤ s.size) (wx : World) :
    (Instr.slice t (.string s) (some (.int .i64 l)) none none).run P wx = .ok (.string (s.extract n s.size)) wx := by
  subst hn
  exact run_slice_string_l wx t s ht .i64 n (by omega) (by omega)

/-! ### results -/
theorem ret_i {k : IntKind} {a b : Int} (h : a = b) : Ending.returned (.int k a) = .returned (.int k b) := by rw [h]
theorem ret_b {a b : Bool} (h : a = b) : Ending.returned (.bool a) = .returned (.bool b) := by rw [h]
theorem ret_ix {k : IntKind} {a b : Int} {u : Value} (h : a = b) : Ending.returned (.tuple #[.int k a, u]) = .returned (.tuple #[.int k b, u]) := by rw [h]
theorem ret_bix {x y : Bool} {k : IntKind} {a b : Int} {u : Value} (g : x = y) (h : a = b) : Ending.returned (.tuple #[.bool x, .int k a, u]) = .returned (.tuple #[.bool y, .int k b, u]) := by rw [g, h]
end Go.Proofs.Ytajlgpamcpgalaa
