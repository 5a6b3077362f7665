import Derived.Test.YtckmmdmimlhmoaaDoorNatTen
import Derived.Test.YtckmmdmimlhmoaaDoorNatY
import Derived.Test.YtckmmdmimlhmoaaDoorRegC
import Derived.ArgAppend
import Derived.Laws.AppendOwnNone
import Derived.Deep.AppendLies
namespace Go.Proofs.YtckmmdmimlhmoaaDoor
open Go.ChangeShapes Go.WideShapes Go.ChangeAt Go.RowKit
set_option linter.unusedVariables false
set_option linter.unusedSimpArgs false
set_option maxRecDepth 100000

/-! ### worlds that differ in few blocks -/
structure Chg (S : Nat → Prop) (w w' : World) : Prop where
  os : w'.os = w.os
  tape : w'.tape = w.tape
  output : w'.output = w.output
  size : w.heap.size ≤ w'.heap.size
  block : ∀ k, k < w.heap.size → ¬ S k → w'.heap[k]? = w.heap[k]?
theorem Chg.refl (S : Nat → Prop) (w : World) : Chg S w w := ⟨rfl, rfl, rfl, Nat.le_refl _, fun _ _ _ => rfl⟩
theorem Chg.trans {S : Nat → Prop} {a b c : World} (h : Chg S a b) (k : Chg S b c) : Chg S a c :=
  ⟨k.os.trans h.os, k.tape.trans h.tape, k.output.trans h.output, Nat.le_trans h.size k.size, fun i hi hs => (k.block i (Nat.lt_of_lt_of_le hi h.size) hs).trans (h.block i hi hs)⟩
theorem Chg.mono {S T : Nat → Prop} {a b : World} (h : Chg S a b) (k : ∀ i, S i → T i) : Chg T a b :=
  ⟨h.os, h.tape, h.output, h.size, fun i hi hs => h.block i hi (fun x => hs (k i x))⟩
theorem Chg.grown {w w' : World} {row : Option Nat} (h : w.grownBy w' row) : Chg (fun k => some k = row) w w' :=
  ⟨h.os, h.tape, h.output, h.size, fun k hk hs => h.block k hk hs⟩
theorem Chg.below {B : Nat} {w w' : World} (h : Below B w w') : Chg (fun k => B ≤ k) w w' :=
  ⟨h.os, h.tape, h.output, h.size, fun k hk hs => h.block k (by omega)⟩
theorem Chg.out {B : Nat} {w w' : World} (h : Chg (fun k => B ≤ k) w w') (hB : B ≤ w.heap.size) : Below B w w' :=
  ⟨h.os, h.tape, h.output, h.size, fun k hk => h.block k (by omega) (by omega)⟩
theorem Chg.drewN {S : Nat → Prop} {w w' : World} (h : Chg S w w') (n : Nat) : Chg S w (w'.drewN n) := ⟨h.os, h.tape, h.output, h.size, h.block⟩
theorem Chg.set {S : Nat → Prop} {w w' : World} (h : Chg S w w') (b j : Nat) (v : Value) (hb : S b) : Chg S w (w'.setCell ⟨b, j, none⟩ v) :=
  h.trans ((Chg.grown (grown_set w' b j v)).mono fun k e => by cases e; exact hb)
theorem Blk.chg {S : Nat → Prop} {w w' : World} {b : Nat} {L : List Nat} (h : Blk w b L) (hc : Chg S w w') (hs : ¬ S b) : Blk w' b L := by
  have hlt := h.lt
  obtain ⟨tl, h⟩ := h
  exact ⟨tl, (hc.block b hlt hs).trans h⟩
theorem owns_chg {S : Nat → Prop} {w w' : World} {base : Nat} {e : TypeId} {size : Nat} {v : Value} {n : Nat} {xs : List Value} (h : w.ownsRow base e size v n xs) (hc : Chg S w w') (hs : ∀ g, v.ownBlock = some g → ¬ S g) : w'.ownsRow base e size v n xs := by
  refine ⟨h.1, ?_⟩
  rcases h.2 with hn | ⟨g, cap, cur, rfl, hb, hgg, rest⟩
  · exact .inl hn
  · refine .inr ⟨g, cap, cur, rfl, hb, ?_, rest⟩
    rw [hc.block g (Array.getElem?_eq_some_iff.1 hgg).1 (hs g rfl)]
    exact hgg

/-! ### a list that is lent -/
structure LentAt (w : World) (s F G n cF cG : Nat) (L M : List Nat) : Prop where
  st : w.heap[s]? = some (.cells #[.slice (some ⟨F, 0, none⟩) (n + 5 : Nat) cF, .slice (some ⟨G, 0, none⟩) (n + 5 : Nat) cG, .int .i64 n] 46 (0, 0))
  full : Blk w F L
  was : Blk w G M
  lenL : L.length = n + 5
  lenM : M.length = n + 5
  cF1 : n + 5 ≤ cF
  cF2 : cF ≤ 9223372036854775807
  cG1 : n + 5 ≤ cG
  cG2 : cG ≤ 9223372036854775807
  ne : F ≠ G
theorem LentAt.chg {S : Nat → Prop} {w w' : World} {s F G n cF cG : Nat} {L M : List Nat} (h : LentAt w s F G n cF cG L M) (hc : Chg S w w') (h1 : ¬ S s) (h2 : ¬ S F) (h3 : ¬ S G) : LentAt w' s F G n cF cG L M := by
  obtain ⟨a, b, c, d⟩ := h
  exact ⟨(hc.block s (Array.getElem?_eq_some_iff.1 a).1 h1).trans a, b.chg hc h2, c.chg hc h3, d, by assumption, by assumption, by assumption, by assumption, by assumption, by assumption⟩
theorem LentAt.lt {w : World} {s F G n cF cG : Nat} {L M : List Nat} (h : LentAt w s F G n cF cG L M) : s < w.heap.size ∧ F < w.heap.size ∧ G < w.heap.size :=
  ⟨(Array.getElem?_eq_some_iff.1 h.st).1, h.full.lt, h.was.lt⟩
theorem LentAt.below {w w' : World} {s F G n cF cG : Nat} {L M : List Nat} (h : LentAt w s F G n cF cG L M) (hb : Below w.heap.size w w') : LentAt w' s F G n cF cG L M := by
  obtain ⟨a, b, c⟩ := h.lt
  exact h.chg (Chg.below hb) (by omega) (by omega) (by omega)
theorem LentAt.cells {w : World} {s F G n cF cG : Nat} {L M : List Nat} (h : LentAt w s F G n cF cG L M) : w.cell? ⟨s, 0, none⟩ = some (.slice (some ⟨F, 0, none⟩) (n + 5 : Nat) cF) ∧ w.cell? ⟨s, 1, none⟩ = some (.slice (some ⟨G, 0, none⟩) (n + 5 : Nat) cG) ∧ w.cell? ⟨s, 2, none⟩ = some (.int .i64 n) := by
  refine ⟨?_, ?_, ?_⟩ <;> (rw [cell_of_row w s _ _ _ _ h.st]; rfl)
theorem LentAt.neF {w : World} {s F G n cF cG : Nat} {L M : List Nat} (h : LentAt w s F G n cF cG L M) : s ≠ F ∧ s ≠ G := by
  have h1 := h.st
  refine ⟨?_, ?_⟩
  · rintro rfl; obtain ⟨tl, h2⟩ := h.full; rw [h1] at h2; simp at h2
  · rintro rfl; obtain ⟨tl, h2⟩ := h.was; rw [h1] at h2; simp at h2
theorem LentAt.row {w : World} {s F G n cF cG : Nat} {L M : List Nat} (h : LentAt w s F G n cF cG L M) : RowU w (.slice (some ⟨F, 0, none⟩) n cF) (L.take n) := by
  have hl : (L.take n).length = n := by rw [List.length_take, h.lenL]; omega
  have := Blk.row (P := []) (A := L.take n) (R := L.drop n) (by simpa using h.full) cF (by rw [hl]; have := h.cF1; omega) h.cF2
  rw [hl] at this
  exact this
theorem list_any (s F G n cF cG : Nat) (L M : List Nat) (w : World) (h : LentAt w s F G n cF cG L M) :
    Calls Tryd.prog 7 #[.pointer (some ⟨s, 0, none⟩)] w fun e w' => e = .returned (.slice (some ⟨F, 0, none⟩) n cF) ∧ ∃ q, w' = w.drewN q := by
  obtain ⟨c0, c1, c2⟩ := h.cells
  have h1 := h.cF1
  have h2 := h.cF2
  have hn : n ≤ cF := by omega
  clear h
  refine cps fun Q hQ => ?_
  go_enter Tryd.func7, Tryd.ntmps7
  go_wp2
  go_quiet (fail)
  go_wp2
  exact hQ.out _ _ ⟨rfl, _, rfl⟩
set_option maxHeartbeats 1000000 in
theorem kept_any (s F G n cF cG : Nat) (L : List Nat) (hnb : n ≤ 16777216) (w : World) (h : LentAt w s F G n cF cG L L) :
    Calls Tryd.prog 13 #[.pointer (some ⟨s, 0, none⟩)] w fun e w' => e = .returned (.bool true) ∧ ∃ q, w' = w.drewN q := by
  obtain ⟨c0, c1, c2⟩ := h.cells
  have h1 := h.cF1
  have h2 := h.cF2
  have h3 := h.cG1
  have h4 := h.cG2
  have H : Hid (LentAt w s F G n cF cG L L) := h
  clear h
  obtain ⟨m, hm⟩ : ∃ m, m = n + 5 := ⟨_, rfl⟩
  rw [← hm] at c0 c1 h1 h3
  have hmb : m ≤ 16777221 := by omega
  have HM : Hid (m = n + 5) := hm
  clear hm
  refine cps fun Q hQ => ?_
  go_enter Tryd.func13, Tryd.ntmps13
  go_wp2
  go_loopw [3] (fun iv wr => ∃ i q : Nat, i ≤ m ∧ iv = .int .i64 i ∧ wr = w.drewN q) (fun iv _ => m - (intOf iv).toNat)
  case atStart => exact ⟨0, 0, Nat.zero_le _, rfl, rfl⟩
  case round =>
    obtain ⟨i, q, hi, rfl, rfl⟩ := hrel
    by_cases hlt : i < m
    · have hx := H.out.full.cell i (by rw [H.out.lenL, ← HM.out]; exact hlt)
      have hy := H.out.was.cell i (by rw [H.out.lenM, ← HM.out]; exact hlt)
      generalize L.getD i 0 = d at *
      go_wp2
      go_quiet (fail)
      go_wp2
      go_roundw
      case rel => exact ⟨i + 1, _, by omega, by go_num, rfl⟩
      case measure => simp [intOf]; omega
    · go_wp2
      exact hQ.out _ _ ⟨rfl, _, rfl⟩
/-- what its owner writes over a list -/
def turned (m : Nat) : List Nat := (List.range m).map fun i => 9000 + i
def turnAt (L : List Nat) (i : Nat) : List Nat := (turned L.length).take i ++ L.drop i
theorem turnAt_length (L : List Nat) (i : Nat) (h : i ≤ L.length) : (turnAt L i).length = L.length := by
  simp [turnAt, turned]; omega
theorem turnAt_step (L : List Nat) (i : Nat) (h : i < L.length) : (turnAt L i).set i (9000 + i) = turnAt L (i + 1) := by
  have e1 : ((turned L.length).take i).length = i := by simp [turned]; omega
  unfold turnAt
  rw [List.set_append_right _ _ (by omega), e1, Nat.sub_self, List.drop_eq_getElem_cons h, List.set_cons_zero, List.take_add_one]
  have e2 : (turned L.length)[i]? = some (9000 + i) := by simp [turned, h]
  rw [e2]
  simp
theorem turnAt_get (L : List Nat) (i : Nat) (h : i < L.length) : (turnAt L (i + 1)).getD i 0 = 9000 + i := by
  rw [← turnAt_step L i h, List.getD_eq_getElem?_getD, List.getElem?_set]
  simp [turnAt_length L i (by omega), h]
theorem LentAt.one {w : World} {s F G n cF cG : Nat} {L M : List Nat} (h : LentAt w s F G n cF cG L M) (i d : Nat) (hi : i < n + 5) : LentAt (w.setCell ⟨F, i, none⟩ (.int .u64 (d : Nat))) s F G n cF cG (L.set i d) M := by
  obtain ⟨hf, hg⟩ := h.neF
  have hc : Chg (fun k => k = F) w (w.setCell ⟨F, i, none⟩ (.int .u64 (d : Nat))) := (Chg.refl _ w).set F i _ rfl
  refine ⟨(hc.block s h.lt.1 hf).trans h.st, h.full.set i d (by rw [h.lenL]; exact hi), h.was.chg hc (fun e => h.ne e.symm), by rw [List.length_set]; exact h.lenL, h.lenM, h.cF1, h.cF2, h.cG1, h.cG2, h.ne⟩
theorem LentAt.two {w : World} {s F G n cF cG : Nat} {L M : List Nat} (h : LentAt w s F G n cF cG L M) (i d : Nat) (hi : i < n + 5) : LentAt (w.setCell ⟨G, i, none⟩ (.int .u64 (d : Nat))) s F G n cF cG L (M.set i d) := by
  obtain ⟨hf, hg⟩ := h.neF
  have hc : Chg (fun k => k = G) w (w.setCell ⟨G, i, none⟩ (.int .u64 (d : Nat))) := (Chg.refl _ w).set G i _ rfl
  refine ⟨(hc.block s h.lt.1 hg).trans h.st, h.full.chg hc h.ne, h.was.set i d (by rw [h.lenM]; exact hi), h.lenL, by rw [List.length_set]; exact h.lenM, h.cF1, h.cF2, h.cG1, h.cG2, h.ne⟩
theorem LentAt.drew' {w : World} {s F G n cF cG : Nat} {L M : List Nat} (h : LentAt w s F G n cF cG L M) : LentAt w.drew s F G n cF cG L M :=
  ⟨h.st, h.full, h.was, h.lenL, h.lenM, h.cF1, h.cF2, h.cG1, h.cG2, h.ne⟩
set_option maxHeartbeats 2000000 in
theorem turn_any (s F G n cF cG : Nat) (L M : List Nat) (hnb : n ≤ 16777216) (w : World) (h : LentAt w s F G n cF cG L M) :
    Calls Tryd.prog 14 #[.pointer (some ⟨s, 0, none⟩)] w fun e w' => e = .returned (.tuple #[]) ∧ LentAt w' s F G n cF cG (turned (n + 5)) (turned (n + 5)) ∧ Chg (fun k => k = F ∨ k = G) w w' := by
  have hL := h.lenL
  have hM := h.lenM
  have hz := h.lt
  have hne := h.ne
  obtain ⟨hsF, hsG⟩ := h.neF
  have h1 := h.cF1
  have h2 := h.cF2
  have h3 := h.cG1
  have h4 := h.cG2
  have H : Hid (LentAt w s F G n cF cG L M) := h
  clear h
  obtain ⟨m, hm⟩ : ∃ m, m = n + 5 := ⟨_, rfl⟩
  rw [← hm] at h1 h3
  have hmb : m ≤ 16777221 := by omega
  have HM : Hid (m = n + 5) := hm
  rw [← hm] at hL hM
  have HL : Hid (L.length = m) := hL
  have HK : Hid (M.length = m) := hM
  clear hm hL hM hz
  refine cps fun Q hQ => ?_
  go_enter Tryd.func14, Tryd.ntmps14
  go_wp2
  go_loopw [2] (fun iv wr => ∃ i : Nat, i ≤ m ∧ iv = .int .i64 i ∧ Hid (LentAt wr s F G n cF cG (turnAt L i) (turnAt M i)) ∧ Hid (Chg (fun k => k = F ∨ k = G) w wr)) (fun iv _ => m - (intOf iv).toNat)
  case atStart => exact ⟨0, Nat.zero_le _, rfl, by show LentAt _ _ _ _ _ _ _ _ _; simpa [turnAt] using H.out, Chg.refl _ _⟩
  case round =>
    obtain ⟨i, hi, rfl, hl, hc⟩ := hrel
    obtain ⟨c0, c1, c2⟩ := hl.out.cells
    rw [← HM.out] at c0 c1
    by_cases hlt : i < m
    · have hx := hl.out.full.cell i (by rw [hl.out.lenL, ← HM.out]; exact hlt)
      have hy := hl.out.was.cell i (by rw [hl.out.lenM, ← HM.out]; exact hlt)
      have hfx := hl.out.full.frozen i
      have hfy := hl.out.was.frozen i
      have hs1 := hl.out.one i (9000 + i) (by rw [← HM.out]; exact hlt)
      rw [turnAt_step L i (by rw [HL.out]; exact hlt)] at hs1
      have hs2 := hs1.two i (9000 + i) (by rw [← HM.out]; exact hlt)
      rw [turnAt_step M i (by rw [HK.out]; exact hlt)] at hs2
      have e9 : ((9000 + i : Nat) : Int) = 9000 + (i : Int) := by omega
      rw [e9] at hs2
      have HS2 : Hid (LentAt _ _ _ _ _ _ _ _ _) := hs2
      have e8 : IntKind.u64.wrap (9000 + (i : Int)) = 9000 + (i : Int) := by rw [IntKind.wrap_u64]; omega
      generalize (turnAt L i).getD i 0 = d1 at *
      generalize (turnAt M i).getD i 0 = d2 at *
      clear hs1 hs2 e9 hl
      go_wp2
      go_region
      go_wp2
      refine ⟨⟨i + 1, by omega, by go_num, ?_, ?_⟩, by simp [intOf]; omega⟩
      · exact HS2.out.drew'
      · exact ((hc.out.set F i _ (.inl rfl)).set G i _ (.inr rfl)).drewN 1
    · have him : i = m := by omega
      subst him
      have e1 : turnAt L i = turned (n + 5) := by
        unfold turnAt
        rw [List.drop_eq_nil_of_le (by have := HL.out; omega), List.append_nil, HL.out, ← HM.out]
        exact List.take_of_length_le (by simp [turned])
      have e2 : turnAt M i = turned (n + 5) := by
        unfold turnAt
        rw [List.drop_eq_nil_of_le (by have := HK.out; omega), List.append_nil, HK.out, ← HM.out]
        exact List.take_of_length_le (by simp [turned])
      have hl' := hl.out
      rw [e1, e2] at hl'
      have HL' : Hid (LentAt _ _ _ _ _ _ _ _ _) := hl'
      clear hl' e1 e2 hl
      go_wp2
      refine bodyPost_ret (results_none rfl _ _ _) rfl (hQ _ _ ⟨rfl, HL'.out, hc.out⟩)
end Go.Proofs.YtckmmdmimlhmoaaDoor
