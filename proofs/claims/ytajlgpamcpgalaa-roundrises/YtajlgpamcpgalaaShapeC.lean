import Derived.Test.YtajlgpamcpgalaaShapeB
import Derived.Test.YtajlgpamcpgalaaRegC
namespace Go.Proofs.Ytajlgpamcpgalaa
open Go.ChangeShapes Go.WideShapes Go.ChangeAt Go.RowKit
set_option linter.unusedVariables false
set_option linter.unusedSimpArgs false
set_option maxRecDepth 100000

/-! ### what a width is -/
theorem bmoreS {a w : World} (h : Below a.heap.size a w) (o : Obj) : Below a.heap.size a (w.alloc o) := h.alloc h.size o
theorem bthenS {a W w : World} (h : Below a.heap.size a W) (hb : Below W.heap.size W w) : Below a.heap.size a w := h.trans (hb.mono h.size)
theorem bsetS {a W : World} {b : Nat} (h : Below a.heap.size a W) (hb : a.heap.size ≤ b) (o : Nat) (v : Value) : Below a.heap.size a (W.setCell ⟨b, o, none⟩ v) := h.setCell hb _
def shp (n m : Nat) : Value := .agg #[.int .i64 n, .int .u64 (m - 1 : Nat), .int .u64 1, .int .u64 m, .int .i64 (4 * n - 8 : Nat)]
def shp0 : Value := .agg #[.int .i64 0, .int .u64 0, .int .u64 0, .int .u64 0, .int .i64 0]
theorem two_pow_lt {n : Nat} (h : Wd n) : 1 ≤ 2 ^ (n - 1) ∧ 2 ^ (n - 1) ≤ 9223372036854775808 := by rcases h with rfl | rfl | rfl | rfl <;> decide
theorem of_no (n : Int) (hn : isW n = false) (w : World) :
    Calls Try.prog 33 #[.int .i64 n] w fun e w' => e = .returned (.tuple #[shp0, .iface 51 (.int .i64 2)]) ∧ Below w.heap.size w w' := by
  have k1 := known_any n
  rw [hn] at k1
  clear hn
  refine cps fun Q hQ => ?_
  go_enter Try.func33, Try.ntmps33
  go_wp2_with (go_at_call 58; refine (k1 _).mono ?_; rintro e w1 ⟨rfl, hb1⟩; have hc := fun b o h => hb1.cell (p := ⟨b, o, none⟩) h; have hf := fun b o h => hb1.frozen (p := ⟨b, o, none⟩) h; have hz := hb1.size; simp at hz)
  have hz' : w.heap.size < w1.heap.size := hz
  refine bodyPost_ret (v := .tuple #[shp0, .iface 51 (.int .i64 2)]) (by simp [results, Try.results33, go_sem, hc, hz', shp0]) rfl (hQ.out _ _ ⟨rfl, ?_⟩)
  exact bsetS (bsetS (bsetS (bsetS (bsetS (bthenS (bmoreS (Below.refl _ _) _) hb1) (Nat.le_refl _) _ _) (Nat.le_refl _) _ _) (Nat.le_refl _) _ _) (Nat.le_refl _) _ _) (Nat.le_refl _) _ _
theorem of_ok (n : Nat) (hn : Wd n) (w : World) :
    Calls Try.prog 33 #[.int .i64 n] w fun e w' => e = .returned (.tuple #[shp n (2 ^ (n - 1)), .nilIface]) ∧ Below w.heap.size w w' := by
  have k1 := known_any n
  rw [isW_of hn] at k1
  have hw := wd_le hn
  have k2 := nar_any n (by omega) hw.2
  have hm := two_pow_lt hn
  clear hn
  refine cps fun Q hQ => ?_
  generalize 2 ^ (n - 1) = m at *
  have e1 : (m : Int) - 1 = ((m - 1 : Nat) : Int) := by omega
  have e2 : 4 * (n : Int) - 8 = ((4 * n - 8 : Nat) : Int) := by omega
  go_enter Try.func33, Try.ntmps33
  go_wp2_with (first
    | (go_at_call 58; refine (k1 _).mono ?_; rintro e w1 ⟨rfl, hb1⟩; have hc := fun b o h => hb1.cell (p := ⟨b, o, none⟩) h; have hf := fun b o h => hb1.frozen (p := ⟨b, o, none⟩) h; have hz := hb1.size; simp at hz)
    | (go_at_call 59; refine (k2 _).mono ?_; rintro e w1 ⟨rfl, rfl⟩))
  have hz' : w.heap.size < w1.heap.size := hz
  refine bodyPost_ret (v := .tuple #[shp n m, .nilIface]) (by simp [results, Try.results33, go_sem, hc, hz', shp]) rfl (hQ.out _ _ ⟨rfl, ?_⟩)
  exact bsetS (bsetS (bsetS (bsetS (bsetS (bthenS (bmoreS (Below.refl _ _) _) hb1) (Nat.le_refl _) _ _) (Nat.le_refl _) _ _) (Nat.le_refl _) _ _) (Nat.le_refl _) _ _) (Nat.le_refl _) _ _
end Go.Proofs.Ytajlgpamcpgalaa
