import Derived.Test.YtckmmdmimlhmoaaDoorRegC
import Derived.OrdersIn
import Derived.OwnWalkIn
namespace Go.Proofs.YtckmmdmimlhmoaaDoor
open Go.ChangeShapes Go.WideShapes Go.ChangeAt Go.RowKit
set_option linter.unusedVariables false

/-! ### a region whose order is open, in a round of a loop over a function (RegC's make within a fence that lets every function in) -/
/-- the way on alone -/
def onlyNormal (R : Act → World → Prop) : Exit → Act → World → Prop
  | .normal, a, w => R a w
  | _, _, _ => False
theorem wp_only {P : Program} {c : Code} {Q : Exit → Act → World → Prop} {a : Act} {w : World} (h : c.wp P (onlyNormal (fun a w => Q .normal a w)) a w) : c.wp P Q a w :=
  wp_mono h fun e a w hq => by cases e <;> first | exact hq | exact hq.elim
def noDefer (ops : Array Oper) : Bool := ops.all fun o => match o.op with
  | .defer _ => false
  | _ => true
section
variable {F : Fence} {n : Nat} {P : Program} {ops : Array Oper} {Q : Exit → Act → World → Prop} {md : Region.Mode} {C : World → Prop}
theorem noDefer_spec (h : noDefer ops = true) {j : Nat} {o : Oper} (hj : ops[j]? = some o) (ro : Option Nat) (ρ : Operand → Value) : o.semAt ro ρ = execOp ρ o := by
  refine Oper.semAt_eq ro ρ o fun c hc => ?_
  have := Array.all_eq_true.1 h j (Array.getElem?_eq_some_iff.1 hj).1
  rw [(Array.getElem?_eq_some_iff.1 hj).2, hc] at this
  cases this

theorem wpOpIn_past {j : Nat} {oj : Oper} {dst : Option Tmp} {v : Value} (hF : ∀ f, F.fn f) (hND : noDefer ops = true) (hj : ops[j]? = some oj)
    (h1 : ∀ d, dst = some d → d ∉ oj.looksAt ops) (h2 : ∀ d, dst = some d → oj.dst ≠ some d) (hsj : ∀ cs b, oj.op ≠ .select cs b)
    (hQ : ∀ c a w, Q (.panic c) (a.put dst v) w → Q (.panic c) a w) {Y : Act → Prop} (hY : ∀ a u, Y a → Y (a.put oj.dst u))
    (hD : ∀ a d, Y a → Y { a with defers := d :: a.defers }) {K : Act → World → Prop} {a : Act} {w : World} (hy : Y a)
    (h : wpOpIn F n P ops Q j K (a.put dst v) w) : wpOpIn F n P ops Q j (fun a' w' => Y a' ∧ K (a'.put dst v) w') a w := by
  have back : ∀ (b : Act) u w', Y b → K ((b.put dst v).put oj.dst u) w' → Y (b.put oj.dst u) ∧ K ((b.put oj.dst u).put dst v) w' :=
    fun b u w' hb hk => ⟨hY b u hb, by rw [← Act.put_comm b v u h2]; exact hk⟩
  have hS := noDefer_spec hND hj F.round
  unfold wpOpIn at h ⊢
  rw [hj] at h ⊢
  simp only [wanted_put oj a dst v h1] at h
  by_cases hw : Region.wanted oj (yielded ops a.tmps) = true
  · simp only [hw, if_true] at h ⊢
    unfold Oper.wpIn at h ⊢
    refine ⟨fun f _ => hF f, ?_⟩
    have h := h.2
    rw [hS, execOp_put oj hsj a dst v h1] at h
    rw [hS]
    generalize (execOp a.eval oj).run P w = r at *
    cases r with
    | halt x w' =>
      cases x <;> simp only [Oper.uponIn] at h ⊢
      case panic u => exact hQ _ _ _ h
    | ok nx w' =>
      cases nx <;> simp only [Oper.uponIn] at h ⊢
      case value u => exact back a u w' hy h
      case skip => exact back a undef w' hy h
      case defer d =>
        refine back _ undef w' (hD a d hy) ?_
        rw [← Act.put_defers]; exact h
      case enter f args =>
        refine ⟨h.1, CallsIn.mono h.2 fun e w'' he => ?_⟩
        cases e with
        | returned u => exact back a u w'' hy he
        | panicked c => exact hQ _ _ _ he
        | outgrown => exact he
      case row r1 r2 => exact ⟨h.1, RowsIn.mono h.2 fun u w'' he => back a u w'' hy he⟩
      case round l f tmps assign body =>
        refine ⟨h.1, RoundIn.mono h.2 fun e w'' he => ?_⟩
        cases e with
        | returned u => exact back a u w'' hy he
        | panicked c => exact hQ _ _ _ he
        | outgrown => exact he
  · simp only [hw] at h ⊢
    exact ⟨fun f _ => hF f, back a undef w hy h.2⟩

def wpAnyI (C : World → Prop) (F : Fence) (n : Nat) (P : Program) (md : Region.Mode) (ops : Array Oper) (Q : Exit → Act → World → Prop) : Nat → Array Bool → Act → World → Prop
  | 0, listed, a, w => C w ∧ Region.ready md ops listed = [] ∧ Q .normal a w
  | fuel + 1, listed, a, w => C w ∧ (Region.ready md ops listed = [] → Q .normal a w) ∧
      ∀ i ∈ Region.ready md ops listed, wpOpIn F n P ops Q i (wpAnyI C F n P md ops Q fuel (listed.setIfInBounds i true)) a w
theorem wpAnyI_sound : ∀ (fuel : Nat) (listed : Array Bool) (a : Act) (w : World), wpAnyI C F n P md ops Q fuel listed a w → wpAnyIn F n P md ops Q fuel listed a w
  | 0, _, _, _, h => h.2
  | fuel + 1, listed, _, _, h => ⟨h.2.1, fun i hi => wpOpIn_mono (fun a w => wpAnyI_sound fuel (listed.setIfInBounds i true) a w) (h.2.2 i hi)⟩
/-- o yields v in whatever world of the class -/
theorem YieldsC.op {i : Nat} {o : Oper} {v : Value} {a : Act} {w : World} {K : Act → World → Prop} (hF : ∀ f, F.fn f) (hND : noDefer ops = true) (hi : ops[i]? = some o) (hy : YieldsC C P ops o v a) (hC : C w)
    (h : K (a.put o.dst v) w) : wpOpIn F n P ops Q i K a w := by
  unfold wpOpIn
  simp only [hi]
  rcases hy with ⟨hw, hv⟩ | ⟨hw, rfl⟩
  · simp only [hw, if_true, Oper.wpIn, noDefer_spec hND hi, hv w hC, Oper.uponIn]; exact ⟨fun f _ => hF f, h⟩
  · simp only [hw]; exact ⟨fun f _ => hF f, h⟩
theorem wpI_first {i : Nat} {oi : Oper} {v : Value} (hF : ∀ f, F.fn f) (hND : noDefer ops = true) (hi : ops[i]? = some oi) (hsel : ∀ (j : Nat) (o : Oper) cs b, ops[j]? = some o → o.op ≠ .select cs b)
    (hQ : ∀ c a w, Q (.panic c) (a.put oi.dst v) w → Q (.panic c) a w) :
    ∀ (fuel : Nat) (listed : Array Bool) (a : Act) (w : World),
      (∀ j oj, ops[j]? = some oj → j ≠ i → listed.getD j true = false → (∀ e ∈ oj.after, Region.binds md e = true → e.on ≠ i) → oi.apart ops oj = true) →
      i ∈ Region.ready md ops listed → YieldsC C P ops oi v a →
      wpAnyI C F n P md ops Q fuel (listed.setIfInBounds i true) (a.put oi.dst v) w → wpAnyI C F n P md ops Q (fuel + 1) listed a w := by
  intro fuel
  induction fuel with
  | zero =>
    intro listed a w _ hr hy H
    refine ⟨H.1, fun h => (by rw [h] at hr; cases hr), fun j hj => ?_⟩
    by_cases hji : j = i
    · subst hji; exact hy.op hF hND hi H.1 H
    · have := ready_mono hj hji
      rw [H.2.1] at this
      cases this
  | succ fuel ih =>
    intro listed a w hfree hr hy H
    refine ⟨H.1, fun h => (by rw [h] at hr; cases hr), fun j hj => ?_⟩
    by_cases hji : j = i
    · subst hji; exact hy.op hF hND hi H.1 H
    · have g := H.2.2 j (ready_mono hj hji)
      obtain ⟨hjun, oj, hoj, hall⟩ := mem_ready.1 hj
      have hnot : ∀ e ∈ oj.after, Region.binds md e = true → e.on ≠ i := fun e he hb heq => by
        have g1 := hall e he hb
        have g0 := (mem_ready.1 hr).1
        rw [heq] at g1
        rcases Nat.lt_or_ge i listed.size with h' | h'
        · simp [h'] at g0 g1; rw [g0] at g1; cases g1
        · simp [Array.getElem?_eq_none h'] at g1
      obtain ⟨a1, a2, a3⟩ := Oper.apart_spec (hfree j oj hoj hji hjun hnot)
      have g2 := wpOpIn_past hF hND hoj a1 a2 (fun cs b => hsel j oj cs b hoj) hQ (Y := fun b => YieldsC C P ops oi v b)
        (fun b u hb => by unfold YieldsC at *; rw [execOp_put oi (fun cs d => hsel i oi cs d hi) b oj.dst u a3, wanted_put oi b oj.dst u a3]; exact hb)
        (fun b d hb => hb) hy g
      have hfree' : ∀ k ok, ops[k]? = some ok → k ≠ i → (listed.setIfInBounds j true).getD k true = false →
          (∀ e ∈ ok.after, Region.binds md e = true → e.on ≠ i) → oi.apart ops ok = true := fun k ok hk hki hun hno => by
        refine hfree k ok hk hki ?_ hno
        by_cases hjk : j = k
        · subst hjk; exact hjun
        · rw [getD_set_ne true hjk] at hun; exact hun
      refine wpOpIn_mono (fun a' w' g3 => ih (listed.setIfInBounds j true) a' w' hfree' (ready_mono hr (Ne.symm hji)) g3.1 ?_) g2
      rw [Array.setIfInBounds_comm _ _ hji]
      exact g3.2
/-- such an operation goes first -/
theorem wpI_take (hF : ∀ f, F.fn f) (hND : noDefer ops = true) (i : Nat) {oi : Oper} {v : Value} {fuel : Nat} {listed : Array Bool} {a : Act} {w : World} (hi : ops[i]? = some oi)
    (hf : (Region.noSelect ops && Region.free md ops listed i && (Region.ready md ops listed).contains i) = true)
    (hQ : ∀ c a w, Q (.panic c) (a.put oi.dst v) w → Q (.panic c) a w) (hwant : Region.wanted oi (yielded ops a.tmps) = true)
    (hy : ∀ w, C w → (execOp a.eval oi).run P w = .ok (.value v) w)
    (h : wpAnyI C F n P md ops Q fuel (listed.setIfInBounds i true) (a.put oi.dst v) w) : wpAnyI C F n P md ops Q (fuel + 1) listed a w := by
  simp only [Bool.and_eq_true] at hf
  exact wpI_first hF hND hi (Region.noSelect_spec hf.1.1) hQ fuel listed a w (Region.free_spec hi hf.1.2) (by simpa using hf.2) (.inl ⟨hwant, hy⟩) h
/-- one alone may come next -/
theorem wpI_step (i : Nat) {o : Oper} {fuel : Nat} {listed : Array Bool} {a : Act} {w : World} (hi : ops[i]? = some o)
    (hr : Region.ready md ops listed = [i]) (hwant : Region.wanted o (yielded ops a.tmps) = true) (hC : C w)
    (h : ∀ K : Act → World → Prop, (∀ a w, wpAnyI C F n P md ops Q fuel (listed.setIfInBounds i true) a w → K a w) → Oper.wpIn F n P o a w K Q) :
    wpAnyI C F n P md ops Q (fuel + 1) listed a w := by
  refine ⟨hC, fun h0 => (by rw [h0] at hr; cases hr), fun j hj => ?_⟩
  rw [hr] at hj
  have : j = i := by simpa using hj
  subst this
  unfold wpOpIn
  simp only [hi, hwant, if_true]
  exact h _ fun _ _ g => g
/-- one of two may come next -/
theorem wpI_two (i i' : Nat) {o o' : Oper} {fuel : Nat} {listed : Array Bool} {a : Act} {w : World} (hi : ops[i]? = some o) (hi' : ops[i']? = some o')
    (hr : Region.ready md ops listed = [i, i']) (hwant : Region.wanted o (yielded ops a.tmps) = true) (hwant' : Region.wanted o' (yielded ops a.tmps) = true) (hC : C w)
    (h : ∀ K : Act → World → Prop, (∀ a w, wpAnyI C F n P md ops Q fuel (listed.setIfInBounds i true) a w → K a w) → Oper.wpIn F n P o a w K Q)
    (h' : ∀ K : Act → World → Prop, (∀ a w, wpAnyI C F n P md ops Q fuel (listed.setIfInBounds i' true) a w → K a w) → Oper.wpIn F n P o' a w K Q) :
    wpAnyI C F n P md ops Q (fuel + 1) listed a w := by
  refine ⟨hC, fun h0 => (by rw [h0] at hr; cases hr), fun j hj => ?_⟩
  rw [hr] at hj
  have hj : j = i ∨ j = i' := by simpa using hj
  unfold wpOpIn
  rcases hj with rfl | rfl
  · simp only [hi, hwant, if_true]
    exact h _ fun _ _ g => g
  · simp only [hi', hwant', if_true]
    exact h' _ fun _ _ g => g
theorem wpI_done {listed : Array Bool} {fuel : Nat} {a : Act} {w : World} (hr : Region.ready md ops listed = []) (hC : C w) (h : Q .normal a w) : wpAnyI C F n P md ops Q fuel listed a w := by
  cases fuel with
  | zero => exact ⟨hC, hr, h⟩
  | succ fuel => exact ⟨hC, fun _ => h, fun i hi => by rw [hr] at hi; cases hi⟩
theorem wpI_region (C : World → Prop) {id : Nat} {a : Act} {w : World} (hm : P.follows .mixedOrders = true)
    (h : wpAnyI C F n P .any ops Q ops.size (Array.replicate ops.size false) a w.drew) : (Code.region id ops true).wpIn F n P Q a w :=
  wpIn_region_any hm (wpAnyI_sound _ _ _ _ h)
end
end Go.Proofs.YtckmmdmimlhmoaaDoor
