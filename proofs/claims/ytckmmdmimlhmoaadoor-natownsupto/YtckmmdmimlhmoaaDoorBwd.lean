import Derived.RangeFuncNested
import Derived.RangeFuncBound
import Derived.RangeFuncCalls
import Derived.RangeFuncLeaves
import Derived.Shelf.Abstract
import Derived.WalkKit
import Derived.OwnWalkIn
import Derived.TacticsInMore
import Derived.LoopNIn
import Derived.LoopIn
import Derived.Test.YtckmmdmimlhmoaaDoorNatA
namespace Go.Proofs.YtckmmdmimlhmoaaDoor
open Go.ChangeShapes Go.WideShapes Go.ChangeAt Go.RowKit Go.Shelf
set_option linter.unusedVariables false
set_option maxRecDepth 100000
attribute [local go_sem] Oper.semAt_some

/-! ### a range over slices.Backward, whose slice the body may write -/
/-- one round's worth: at place N - 1 - k stands X k -/
def BwdCell (ao : Option Addr) (N : Nat) (X : Nat → Nat) (k : Nat) (W : World) : Prop :=
  ∃ b off, ao = some ⟨b, off, none⟩ ∧ W.cell? ⟨b, off + (N - 1 - k), none⟩ = some (.int .u64 (X k : Nat))

set_option maxHeartbeats 2000000 in
/-- slices.Backward's closure, whatever the rounds keep: J tells what stands in the box and at the place that comes next -/
theorem bwd_iter (n m l bs N c : Nat) (ao : Option Addr) (X : Nat → Nat) (hN : N ≤ 1099511627776) (hc : c ≤ 9223372036854775807) (hNc : N ≤ c) (J : Nat → World → Prop) (Jx : World → Prop)
    (hbox : ∀ k W, J k W → W.cell? ⟨bs, 0, none⟩ = some (.slice ao N c))
    (hcell : ∀ k W, J k W → k < N → BwdCell ao N X k W)
    (hY : ∀ k W, J k W → k < N → YieldAt Fence.wide (n - 1) Tryd.prog l #[.int .i64 (N - 1 - k : Nat), .int .u64 (X k : Nat)] W fun e W' => (e = .returned (.bool true) ∧ J (k + 1) W') ∨ (e = .returned (.bool false) ∧ Jx W'))
    (W : World) (h0 : J 0 W) :
    CallsIn Fence.wide n Tryd.prog 44 #[.func (.yield l) #[] #[], .pointer (some ⟨bs, 0, none⟩)] W fun e W' => (∃ v, e = .returned v) ∧ (J N W' ∨ Jx W') := by
  have h1 : 1 ≤ n ∨ n = 0 := by omega
  have HC : Hid (∀ k W, J k W → k < N → BwdCell ao N X k W) := hcell
  have HY : Hid (∀ k W, J k W → k < N → YieldAt Fence.wide (n - 1) Tryd.prog l #[.int .i64 (N - 1 - k : Nat), .int .u64 (X k : Nat)] W fun e W' => (e = .returned (.bool true) ∧ J (k + 1) W') ∨ (e = .returned (.bool false) ∧ Jx W')) := hY
  have HB : Hid (∀ k W, J k W → W.cell? ⟨bs, 0, none⟩ = some (.slice ao N c)) := hbox
  have hb0 := hbox 0 W h0
  clear hcell hY hbox
  refine callsIn_of_wp Tryd.func44 rfl trivial ?_ rfl
  simp only [Tryd.ntmps44, List.size_toArray, List.length_cons, List.length_nil, Nat.reduceAdd, Nat.reduceSub, Array.replicate_succ, Array.replicate_zero, List.push_toArray, List.append_toArray, List.nil_append, List.cons_append]
  gi_wp2
  gi_loopw [3] (fun i wr => ∃ k : Nat, k ≤ N ∧ i = .int .i64 ((N : Int) - 1 - k) ∧ J k wr)
    (fun i _ => (intOf i + 1).toNat)
  case atStart => exact ⟨0, Nat.zero_le _, by simp, h0⟩
  case round =>
    obtain ⟨k, hk, rfl, hJs⟩ := hrel
    have hbx := HB.out k wr hJs
    by_cases hlt : k < N
    · obtain ⟨b, off, rfl, hcl⟩ := HC.out k wr hJs hlt
      obtain ⟨fn, tmps, assign, body, hy, hR⟩ := HY.out k wr hJs hlt
      obtain ⟨i, hi⟩ : ∃ i : Nat, i = N - 1 - k := ⟨_, rfl⟩
      have hii : (N : Int) - 1 - k = (i : Int) := by omega
      rw [← hi] at hcl hy
      rw [hii]
      have hiN : i < N := by omega
      have HI : Hid (i = N - 1 - k) := hi
      clear hi hii
      generalize X k = x at *
      gi_wp2
      refine ⟨fun h => (by cases h), hR.mono ?_⟩
      rintro e W3 (⟨rfl, hJ3⟩ | ⟨rfl, hJx3⟩)
      · gi_wp2
        go_roundw
        case rel => exact ⟨k + 1, by omega, by have := HI.out; simp; omega, hJ3⟩
        case measure => simp [intOf]
      · gi_wp2
        refine bodyPost_ret (results_none rfl _ _ _) rfl ?_
        exact ⟨⟨_, rfl⟩, .inr hJx3⟩
    · obtain rfl : k = N := by omega
      have hii : (k : Int) - 1 - k = -1 := by omega
      rw [hii]
      gi_wp2
      go_end0
      exact ⟨⟨_, rfl⟩, .inl hJs⟩

set_option maxHeartbeats 1000000 in
/-- slices.Backward: the slice is boxed; the function value has captured the box -/
theorem bwd_make (v : Value) (w : World) (hv : v.oneCell' = true) (ao : Option Addr) (n c : Nat) (e : v = .slice ao n c) :
    Calls Tryd.prog 29 #[v] w fun e w' => e = .returned (.func (.func 44) #[] #[.pointer (some ⟨w.heap.size, 0, none⟩)]) ∧ w' = w.alloc (.cells #[v] 23) := by
  subst e
  refine cps fun Q hQ => ?_
  go_enter Tryd.func29, Tryd.ntmps29
  go_wp2
  exact hQ.out _ _ ⟨rfl, rfl⟩

/-- how the body of a round may be left -/
def bwdPost (B : Nat) (I : Nat → World → Prop) (Ix : World → Prop) (k : Nat) (W : World) : Exit → Act → World → Prop
  | .normal, _, W' => KeepsFrom B W W' ∧ I (k + 1) W'
  | .ret, _, W' => KeepsFrom B W W' ∧ Ix W'
  | _, _, _ => False

/-- the statement 'for i, x := range slices.Backward(s) { .. }' -/
theorem wpIn_bwd {n : Nat} {g : Operand} {ps : Array Tmp} {assign body : Code} {Q : Exit → Act → World → Prop} {a : Act} {w : World}
    (bs N c : Nat) (ao : Option Addr) (X : Nat → Nat) (hg : a.eval g = .func (.func 44) #[] #[.pointer (some ⟨bs, 0, none⟩)])
    (hN : N ≤ 1099511627776) (hc : c ≤ 9223372036854775807) (hNc : N ≤ c) (hps : ps.size = 2)
    (I : Nat → World → Prop) (Ix : World → Prop) (hI : OwnFrom w.heap.size I) (hIx : OwnFrom w.heap.size (fun (_ : Unit) W => Ix W)) (h0 : I 0 w)
    (hbox : ∀ k W, I k W → W.cell? ⟨bs, 0, none⟩ = some (.slice ao N c))
    (hcell : ∀ k W, I k W → k < N → BwdCell ao N X k W) (a₁ : Nat → Act)
    (hassign : ∀ (l k : Nat) (W : World) (K : Act → World → Prop), K (a₁ k) W →
      assign.wpIn (Fence.wide.inRound l) (n - 1 - 1) Tryd.prog (Exit.then K (fun _ _ _ => False)) { tmps := (ps.zip #[.int .i64 (N - 1 - k : Nat), .int .u64 (X k : Nat)]).foldl (fun t (p, v) => t.setIfInBounds p v) a.tmps, defers := [] } W)
    (hbody : ∀ (l k : Nat) (W : World), I k W → k < N → body.wpIn (Fence.wide.inRound l) (n - 1 - 1) Tryd.prog (bwdPost w.heap.size I Ix k W) (a₁ k) W)
    (hdone : ∀ W, I N W → W.heap[w.heap.size]? = some (.deferred (some [])) → w.heap.size < W.heap.size → Q .normal { a with defers := { target := .collected w.heap.size, args := #[] } :: a.defers } W)
    (hstop : ∀ W, Ix W → W.heap[w.heap.size]? = some (.deferred (some [])) → Code.ret.wpIn Fence.wide n Tryd.prog Q { a with defers := { target := .collected w.heap.size, args := #[] } :: a.defers } W) :
    (Code.rangeFunc g ps assign body).wpIn Fence.wide n Tryd.prog Q a w := by
  refine wpIn_rangeFunc ?_
  intro fn hfn
  -- the loop's record, and the block for deferred calls, as they lie before each round
  obtain ⟨rec, hrec⟩ : ∃ rec : LoopState → Option Code → Loop, rec = fun st pe => { state := st, pending := pe, fn, tmps := a.tmps, params := ps, assign, body, defers := w.heap.size } := ⟨_, rfl⟩
  let Rdy : World → Prop := fun W => W.heap[w.heap.size + 1]? = some (.loop (rec .ready none)) ∧ W.heap[w.heap.size]? = some (.deferred (some []))
  have nocells : ∀ {A : World} {k : Nat} {o o' : Obj}, A.heap[k]? = some o → o.isCells = false → ∀ r, some k = some r → ∃ o : Obj, A.heap[r]? = some o ∧ o.isCells = false := fun h ho r e => by cases e; exact ⟨_, h, ho⟩
  obtain ⟨W1, hW1⟩ : ∃ W1, (w.alloc (.deferred (some []))).alloc (.loop (rec .ready none)) = W1 := ⟨_, rfl⟩
  have hL1 : W1.heap[w.heap.size + 1]? = some (.loop (rec .ready none)) := by
    rw [← hW1]; have := World.alloc_heap_new (w.alloc (.deferred (some []))) (.loop (rec .ready none)); rwa [World.size_alloc] at this
  have hK1 : W1.heap[w.heap.size]? = some (.deferred (some [])) := by
    rw [← hW1]; exact (Below.heap_alloc _ _ _ (by simp)).trans (World.alloc_heap_new w _)
  have hI1 : I 0 W1 := by rw [← hW1]; exact hI.alloc _ (hI.alloc _ h0)
  refine ⟨w.heap.size + 1, [{ target := .collected w.heap.size, args := #[] }], W1, { target := .fn (.func 44) #[.pointer (some ⟨bs, 0, none⟩)], args := #[.func (.yield (w.heap.size + 1)) #[] #[]] }, W1, 44,
    #[.func (.yield (w.heap.size + 1)) #[] #[], .pointer (some ⟨bs, 0, none⟩)], W1, ?_, ?_, fun _ _ => trivial, ?_, fun h => (by cases h), ?_⟩
  · rw [← hW1, hrec]; exact run_enterLoop_outer _ _ _ _ _
  · simp only [resolve, hg]
    simp [go_sem]
  · simp [invoke, go_sem]
  · refine (bwd_iter (n - 1) 0 (w.heap.size + 1) bs N c ao X hN hc hNc (fun k W => I k W ∧ Rdy W)
      (fun W => Ix W ∧ W.heap[w.heap.size + 1]? = some (.loop (rec .done (some .ret))) ∧ W.heap[w.heap.size]? = some (.deferred (some [])))
      (fun k W h => hbox k W h.1) (fun k W h hk => hcell k W h.1 hk) ?_ W1 ⟨hI1, hL1, hK1⟩).mono ?_
    · -- one round
      rintro k W ⟨hi, hl, hk⟩ hlt
      have hsz : w.heap.size + 1 < W.heap.size := (Array.getElem?_eq_some_iff.1 hl).1
      have hy := run_yield (P := Tryd.prog) (args := #[.int .i64 (N - 1 - k : Nat), .int .u64 (X k : Nat)]) hl (by rw [hrec]; exact hps.symm)
      rw [hrec] at hy
      refine ⟨fn, _, assign, body, hy, roundIn_of_wpIn hfn (hassign _ k W _ ⟨_, run_beginRound hl (by rw [hrec]), ?_⟩)⟩
      clear hy
      have hl2 : (W.putObj (w.heap.size + 1) (.loop { rec .ready none with state := .busy })).heap[w.heap.size + 1]? = some (.loop { rec .ready none with state := .busy }) := World.putObj_heap_same hsz
      have hk2 : (W.putObj (w.heap.size + 1) (.loop { rec .ready none with state := .busy })).heap[w.heap.size]? = some (.deferred (some [])) := (World.putObj_heap_other (by omega)).trans hk
      refine wpIn_mono (hbody _ k _ (hI.putObj _ hi (by omega) hl rfl) hlt) ?_
      rintro e a3 W3 hp
      cases e with
      | normal =>
        obtain ⟨hk3, hi3⟩ := hp
        have hl3 := hk3.same _ _ (by omega) hl2 rfl
        have hd3 := hk3.same _ _ (Nat.le_refl _) hk2 rfl
        have he := run_endRound (P := Tryd.prog) none hl3
        rw [hrec] at he
        refine ⟨_, _, he, .inl ⟨rfl, hI.putObj _ hi3 (by omega) hl3 rfl, ?_, (World.putObj_heap_other (by omega)).trans hd3⟩⟩
        rw [hrec]; exact World.putObj_heap_same (Array.getElem?_eq_some_iff.1 hl3).1
      | ret =>
        obtain ⟨hk3, hi3⟩ := hp
        have hl3 := hk3.same _ _ (by omega) hl2 rfl
        have hd3 := hk3.same _ _ (Nat.le_refl _) hk2 rfl
        have he := run_endRound (P := Tryd.prog) (some .ret) hl3
        rw [hrec] at he
        refine ⟨_, _, he, .inr ⟨rfl, hIx.putObj (s := ()) _ hi3 (by omega) hl3 rfl, ?_, (World.putObj_heap_other (by omega)).trans hd3⟩⟩
        rw [hrec]; exact World.putObj_heap_same (Array.getElem?_eq_some_iff.1 hl3).1
      | exit id => exact hp.elim
      | goto t => exact hp.elim
      | panic ch => exact hp.elim
      | outgrown => exact hp.elim
    · rintro e W2 ⟨⟨v, rfl⟩, (⟨hi, hl, hk⟩ | ⟨hi, hl, hk⟩)⟩
      · have hs : w.heap.size < W2.heap.size := (Array.getElem?_eq_some_iff.1 hk).1
        exact ⟨none, _, by have := run_endLoop (P := Tryd.prog) hl (by rw [hrec]; simp); rw [hrec] at this; exact this, hdone _ (hI.putObj _ hi (by omega) hl rfl) ((World.putObj_heap_other (by omega)).trans hk) (by simpa using hs)⟩
      · exact ⟨some .ret, _, by have := run_endLoop (P := Tryd.prog) hl (by rw [hrec]; simp); rw [hrec] at this; exact this, hstop _ (hIx.putObj (s := ()) _ hi (by omega) hl rfl) ((World.putObj_heap_other (by omega)).trans hk)⟩
end Go.Proofs.YtckmmdmimlhmoaaDoor
