import Derived.Test.YthchcocolclpoaaGreatDoorIsC
namespace Go.Proofs.YthchcocolclpoaaGreatDoor
open Go.RowKit Go.Extern.Stop Go.Stop Go.Extern
set_option linter.unusedVariables false

theorem neq_iface_ptr_same {P : Program} (w : World) {ti tp te : TypeId} {ms : Array (String × TypeId)} {i j : TypeInfo} (a : Addr)
    (hi : P.underlying ti = some (.interface ms)) (hp : P.underlying tp = some (.pointer te)) (hinfo : P.info? tp = some i) (hcomp : i.comparable = true) (hte : P.info? te = some j) :
    (binOp .neq ti (.iface tp (.pointer (some a))) (.iface tp (.pointer (some a)))).run P w = .ok (.bool false) w := by
  simp only [binOp]
  simp [Op.equal, Op.maxDepth, run_equalIn_iface_ptr_same w 9998 a hi hp hinfo hcomp hte]
theorem faultComp : (Tryz.prog.info? 41).map (·.comparable) = some true := by kernel_rfl
theorem faultSize : (Tryz.prog.info? 43).map (·.size) = some 3 := by kernel_rfl
theorem at_alloc_old {w : World} {o : Obj} {b k : Nat} (h : b < w.heap.size) : (w.alloc o).cell? ⟨b, k, none⟩ = w.cell? ⟨b, k, none⟩ := World.cell?_alloc_lt _ _ ⟨b, k, none⟩ h
theorem as_new (b : Nat) (v : World) (hg : v.cell? ⟨0, 0, none⟩ = some (.iface 109 (.agg #[.pointer (some ⟨11, 26, none⟩)]))) :
    Calls Tryz.prog 18 #[.iface 41 (.pointer (some ⟨b, 0, none⟩)), .iface 49 (.pointer (some ⟨v.heap.size, 0, none⟩))] (v.alloc (.cells #[.pointer none] 41)) fun ev w' => ev = .returned (.bool true) ∧ Below v.heap.size v w' ∧ v.heap.size < w'.heap.size ∧ w'.cell? ⟨v.heap.size, 0, none⟩ = some (.pointer (some ⟨b, 0, none⟩)) := by
  have hlt : 0 < v.heap.size := by
    rcases Nat.lt_or_ge 0 v.heap.size with h | h
    · exact h
    · simp [World.cell?, Array.getElem?_eq_none h] at hg
  refine (as_fault ⟨b, 0, none⟩ ⟨v.heap.size, 0, none⟩ (.pointer none) _ (by rw [at_alloc_old hlt]; exact hg) (by simp) (by simp)).mono ?_
  rintro e w' ⟨rfl, W, hW, rfl⟩
  have h1 : Below v.heap.size v W := ((Below.refl _ v).alloc (Nat.le_refl _) _).trans (hW.mono (by simp))
  have hs : v.heap.size < W.heap.size := by have := hW.size; simp at this; omega
  have hc : W.cell? ⟨v.heap.size, 0, none⟩ = some (.pointer none) := by rw [hW.cell (p := ⟨v.heap.size, 0, none⟩) (by simp)]; simp
  refine ⟨rfl, h1.setCell (Nat.le_refl _) _, by simpa using hs, ?_⟩
  simp [go_sem, hc]
set_option maxHeartbeats 2000000 in
theorem isf_any (b : Nat) (line pos c code : Int) (hc : codeOf c = code) (w : World) (hg : w.cell? ⟨0, 0, none⟩ = some (.iface 109 (.agg #[.pointer (some ⟨11, 26, none⟩)])))
    (h0 : w.cell? ⟨b, 0, none⟩ = some (.int .i64 line)) (h1 : w.cell? ⟨b, 1, none⟩ = some (.int .i64 pos)) (h2 : w.cell? ⟨b, 2, none⟩ = some (.iface 29 (.int .i64 c))) :
    Calls Tryz.prog 6 #[.iface 41 (.pointer (some ⟨b, 0, none⟩)), .int .i64 line, .int .i64 pos, .int .i64 code] w fun e w' => e = .returned (.bool true) ∧ Below w.heap.size w w' := by
  refine cps fun Q hQ => ?_
  obtain ⟨i, hi, hcmp⟩ := Option.map_eq_some_iff.1 faultComp
  obtain ⟨j, hj, hjs⟩ := Option.map_eq_some_iff.1 faultSize
  have hn := fun w => neq_iface_ptr_same (P := Tryz.prog) w ⟨b, 0, none⟩ Tryz.underlying26 Tryz.underlying41 hi hcmp hj
  have hbl : b < w.heap.size := by
    rcases Nat.lt_or_ge b w.heap.size with h | h
    · exact h
    · simp [World.cell?, Array.getElem?_eq_none h] at h0
  have k1 := as_new b w hg
  have k2 := fun v h => is_fault b c v h
  have k3 := fun v => code_any c v
  rw [hc] at k3
  clear hi hcmp hj hjs hc
  go_enter Tryz.func6, Tryz.ntmps6
  go_wp2_with (first
    | (go_at_call 18; refine k1.mono ?_; rintro e w1 ⟨rfl, hb1, hz1, hf1⟩; have c0 := (hb1.cell (p := ⟨b, 0, none⟩) hbl).trans h0; have c1 := (hb1.cell (p := ⟨b, 1, none⟩) hbl).trans h1; have c2 := (hb1.cell (p := ⟨b, 2, none⟩) hbl).trans h2; have k2 := k2 w1 c2)
    | (go_at_call 19; refine k2.mono ?_; rintro e w' ⟨rfl, hw⟩; rw [hw]; clear hw w')
    | (go_at_call 20; refine (k3 _).mono ?_; rintro e w' ⟨rfl, hw⟩; rw [hw]; clear hw w'))
  exact hQ.out _ _ ⟨rfl, hb1⟩
end Go.Proofs.YthchcocolclpoaaGreatDoor
