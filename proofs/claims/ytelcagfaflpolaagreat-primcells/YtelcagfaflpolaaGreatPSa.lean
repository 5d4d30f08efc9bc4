
/- PrimCells: the walk where a cell is refused. -/

import Derived.Test.YtelcagfaflpolaaGreatPM

namespace Go.Proofs.YtelcagfaflpolaaGreat

open Go.RowKit

set_option linter.unusedVariables false

theorem lF_first {gE : Nat → Int} {fs : List Int} {xs : Nat → List Int × List Int} : ∀ {n : Nat}, lF gE fs xs n ≠ 0 → ∃ m, m < n ∧ lF gE fs xs m = 0 ∧ lE gE fs xs m ≠ 0
  | 0, h => absurd rfl h
  | n + 1, h => by
    by_cases c : lF gE fs xs n = 0
    · refine ⟨n, by omega, c, ?_⟩
      have e : lF gE fs xs (n + 1) = lE gE fs xs n := if_pos c
      rwa [e] at h
    · obtain ⟨m, h1, h2⟩ := lF_first c
      exact ⟨m, by omega, h2⟩
/-- What a verb does with each of the arrays xs. -/
def MonK (w : World) (op : Int) (n : Nat) (xs : Nat → List Int × List Int) (gE : Nat → Int) (ys : Nat → List Int × List Int) : Prop :=
  ∀ V k so ao sn sc an ac, Below w.heap.size w V → k < n → Rd V so sn (xs k).1 → Sl so sn sc → Rd V ao an (xs k).2 → Sl ao an ac → Calls Tryz.prog 16 #[.int .i64 op, .agg #[.slice so sn sc, .slice ao an ac]] V fun e w' => AnsP V (gE k) (ys k).1 (ys k).2 e w'

set_option maxRecDepth 20000 in
set_option maxHeartbeats 8000000 in
theorem cells_no (so ao : Option Addr) (sn sc an ac : Nat) (sy ay : List Int) (w : World) (hsy : Rd w so sn sy) (ssy : Sl so sn sc) (hay : Rd w ao an ay) (say : Sl ao an ac) (op : Int) 
    (hinf : ∀ W, Calls Tryz.prog 10 #[.int .i64 op] W fun e w' => e = .returned (.tuple #[.agg #[.string ⟨#[]⟩, .bool false, .bool false, .int .i64 0, .int .i64 0, .int .i64 0, .int .i64 0, .bool false, .bool false], .int .i64 1]) ∧ Below W.heap.size W w') :
    Calls Tryz.prog 4 #[.int .i64 op, .agg #[.slice so sn sc, .slice ao an ac]] w fun e w' => e = .returned (.bool true) ∧ Below w.heap.size w w' := by
  have b1 := box_below w (.cells #[.slice so sn sc, .slice ao an ac] 36)
  have n1 := allocNew w (.cells #[.slice so sn sc, .slice ao an ac] 36)
  have hbg := begun9_any (w.alloc (.cells #[.slice so sn sc, .slice ao an ac] 36))
  have cM := fun V => mayA_any so ao sn sc an ac sy ay V
  go_enter Tryz.func4, Tryz.ntmps4
  go_wp2_with (first
    | (go_at_call 8; (with_reducible refine hbg.mono ?_); rintro e w3 ⟨rfl, k3⟩
       have b3 := btw b1 k3 b1.size
       have s3 := k3.size
       rw [World.size_alloc] at s3
       have m1 := (k3.block w.heap.size (by simp)).trans n1
       clear n1 k3 hbg b1)
    | (go_at_call 10; (with_reducible refine (hinf _).mono ?_); rintro e w4 ⟨rfl, k4⟩
       have k5 := btw k4 (box_below w4 (.cells #[.string ⟨#[]⟩, .bool false, .bool false, .int .i64 0, .int .i64 0, .int .i64 0, .int .i64 0, .bool false, .bool false] 27)) k4.size
       have b5 := btw b3 k5 b3.size
       have s5 := k5.size
       have p1 := (k5.block w.heap.size (by omega)).trans m1
       obtain ⟨x0, x1, _, _⟩ := box2 p1
       have ibx := allocNew w4 (.cells #[.string ⟨#[]⟩, .bool false, .bool false, .int .i64 0, .int .i64 0, .int .i64 0, .int .i64 0, .bool false, .bool false] 27)
       obtain ⟨⟨_, im, _, ir, _, _, _, _, _⟩, _⟩ := bx9 ibx
       clear m1 hinf k4))
  go_ret
  exact ⟨rfl, b5⟩

set_option maxRecDepth 20000 in
set_option maxHeartbeats 8000000 in
theorem cells_free (so ao : Option Addr) (sn sc an ac : Nat) (sy ay : List Int) (w : World) (hsy : Rd w so sn sy) (ssy : Sl so sn sc) (hay : Rd w ao an ay) (say : Sl ao an ac) (op : Int) (k : Nat) (sp : ByteArray) (db : Bool) (r l g i : Int) (h c : Bool)
    (hinf : ∀ W, Calls Tryz.prog 10 #[.int .i64 ((k : Int) + 1)] W fun e w' => e = .returned (.tuple #[.agg #[.string sp, .bool false, .bool db, .int .i64 r, .int .i64 l, .int .i64 g, .int .i64 i, .bool h, .bool c], .int .i64 0]) ∧ Below W.heap.size W w') :
    Calls Tryz.prog 4 #[.int .i64 ((k : Int) + 1), .agg #[.slice so sn sc, .slice ao an ac]] w fun e w' => e = .returned (.bool true) ∧ Below w.heap.size w w' := by
  have b1 := box_below w (.cells #[.slice so sn sc, .slice ao an ac] 36)
  have n1 := allocNew w (.cells #[.slice so sn sc, .slice ao an ac] 36)
  have hbg := begun9_any (w.alloc (.cells #[.slice so sn sc, .slice ao an ac] 36))
  have cM := fun V => mayA_any so ao sn sc an ac sy ay V
  go_enter Tryz.func4, Tryz.ntmps4
  go_wp2_with (first
    | (go_at_call 8; (with_reducible refine hbg.mono ?_); rintro e w3 ⟨rfl, k3⟩
       have b3 := btw b1 k3 b1.size
       have s3 := k3.size
       rw [World.size_alloc] at s3
       have m1 := (k3.block w.heap.size (by simp)).trans n1
       clear n1 k3 hbg b1)
    | (go_at_call 10; (with_reducible refine (hinf _).mono ?_); rintro e w4 ⟨rfl, k4⟩
       have k5 := btw k4 (box_below w4 (.cells #[.string sp, .bool false, .bool db, .int .i64 r, .int .i64 l, .int .i64 g, .int .i64 i, .bool h, .bool c] 27)) k4.size
       have b5 := btw b3 k5 b3.size
       have s5 := k5.size
       have p1 := (k5.block w.heap.size (by omega)).trans m1
       obtain ⟨x0, x1, _, _⟩ := box2 p1
       have ibx := allocNew w4 (.cells #[.string sp, .bool false, .bool db, .int .i64 r, .int .i64 l, .int .i64 g, .int .i64 i, .bool h, .bool c] 27)
       obtain ⟨⟨_, im, _, ir, _, _, _, _, _⟩, _⟩ := bx9 ibx
       clear m1 hinf k4))
  go_ret
  exact ⟨rfl, b5⟩

set_option maxRecDepth 20000 in
set_option maxHeartbeats 8000000 in
theorem cells_bad (so ao : Option Addr) (sn sc an ac : Nat) (sy ay : List Int) (w : World) (hsy : Rd w so sn sy) (ssy : Sl so sn sc) (hay : Rd w ao an ay) (say : Sl ao an ac) (op : Int) (k : Nat) (sp : ByteArray) (db : Bool) (r l g i : Int) (h c : Bool) (my : mayA sy ay ≠ 0)
    (hinf : ∀ W, Calls Tryz.prog 10 #[.int .i64 ((k : Int) + 1)] W fun e w' => e = .returned (.tuple #[.agg #[.string sp, .bool true, .bool db, .int .i64 r, .int .i64 l, .int .i64 g, .int .i64 i, .bool h, .bool c], .int .i64 0]) ∧ Below W.heap.size W w') :
    Calls Tryz.prog 4 #[.int .i64 ((k : Int) + 1), .agg #[.slice so sn sc, .slice ao an ac]] w fun e w' => e = .returned (.bool true) ∧ Below w.heap.size w w' := by
  have b1 := box_below w (.cells #[.slice so sn sc, .slice ao an ac] 36)
  have n1 := allocNew w (.cells #[.slice so sn sc, .slice ao an ac] 36)
  have hbg := begun9_any (w.alloc (.cells #[.slice so sn sc, .slice ao an ac] 36))
  have cM := fun V => mayA_any so ao sn sc an ac sy ay V
  have h0' : (mayA sy ay != 0) = true := by simpa using my
  clear my
  go_enter Tryz.func4, Tryz.ntmps4
  go_wp2_with (first
    | (go_at_call 8; (with_reducible refine hbg.mono ?_); rintro e w3 ⟨rfl, k3⟩
       have b3 := btw b1 k3 b1.size
       have s3 := k3.size
       rw [World.size_alloc] at s3
       have m1 := (k3.block w.heap.size (by simp)).trans n1
       clear n1 k3 hbg b1)
    | (go_at_call 10; (with_reducible refine (hinf _).mono ?_); rintro e w4 ⟨rfl, k4⟩
       have k5 := btw k4 (box_below w4 (.cells #[.string sp, .bool true, .bool db, .int .i64 r, .int .i64 l, .int .i64 g, .int .i64 i, .bool h, .bool c] 27)) k4.size
       have b5 := btw b3 k5 b3.size
       have s5 := k5.size
       have p1 := (k5.block w.heap.size (by omega)).trans m1
       obtain ⟨x0, x1, _, _⟩ := box2 p1
       have ibx := allocNew w4 (.cells #[.string sp, .bool true, .bool db, .int .i64 r, .int .i64 l, .int .i64 g, .int .i64 i, .bool h, .bool c] 27)
       obtain ⟨⟨_, im, _, ir, _, _, _, _, _⟩, _⟩ := bx9 ibx
       clear m1 hinf k4)
    | (go_at_call 13; (with_reducible refine (cM _ (hsy.below b5 (Nat.le_refl _)) (hay.below b5 (Nat.le_refl _))).mono ?_); rintro e w6 ⟨rfl, k6⟩
       have b6 := btw b5 k6 b5.size
       have s6 := k6.size
       have q1 := (k6.block w.heap.size (by omega)).trans p1
       have q2 := (k6.block w4.heap.size (by simp)).trans ibx
       clear x0 x1 im ir p1 ibx
       obtain ⟨x0, x1, _, _⟩ := box2 q1
       obtain ⟨⟨_, im, _, ir, _, _, _, _, _⟩, _⟩ := bx9 q2
       clear cM))
  go_ret
  exact ⟨rfl, b6⟩

set_option maxRecDepth 20000 in
set_option maxHeartbeats 8000000 in
theorem cells_whole (so ao : Option Addr) (sn sc an ac : Nat) (sy ay : List Int) (w : World) (hsy : Rd w so sn sy) (ssy : Sl so sn sc) (hay : Rd w ao an ay) (say : Sl ao an ac) (op : Int) (k : Nat) (sp : ByteArray) (db : Bool) (r l g i : Int) (h c : Bool) (my : mayA sy ay = 0) (fs ii zz : List Int) (xs : Nat → List Int × List Int) (n : Nat) (n5 : n ≤ 4096) (hone : ∀ V, Rd V so sn sy → Rd V ao an ay → Calls Tryz.prog 14 #[.agg #[.slice so sn sc, .slice ao an ac], .int .i64 r] V fun e w' => ∃ fo fn fc gg o1 n1 c1 o2 n2 c2, e = .returned (.tuple #[.agg #[.slice fo fn fc, .slice (some ⟨gg, 0, none⟩) n n, .slice o1 n1 c1, .slice o2 n2 c2], .int .i64 0]) ∧
      Ft 3 w' V.heap.size fo fn fc fs ∧ Ac w' gg n n xs ∧ V.heap.size ≤ gg ∧ Ft 3 w' V.heap.size o1 n1 c1 ii ∧ Ft 2 w' V.heap.size o2 n2 c2 zz ∧ Below V.heap.size V w') (hf : fs = [])
    (hinf : ∀ W, Calls Tryz.prog 10 #[.int .i64 ((k : Int) + 1)] W fun e w' => e = .returned (.tuple #[.agg #[.string sp, .bool true, .bool db, .int .i64 r, .int .i64 l, .int .i64 g, .int .i64 i, .bool h, .bool c], .int .i64 0]) ∧ Below W.heap.size W w') :
    Calls Tryz.prog 4 #[.int .i64 ((k : Int) + 1), .agg #[.slice so sn sc, .slice ao an ac]] w fun e w' => e = .returned (.bool true) ∧ Below w.heap.size w w' := by
  have b1 := box_below w (.cells #[.slice so sn sc, .slice ao an ac] 36)
  have n1 := allocNew w (.cells #[.slice so sn sc, .slice ao an ac] 36)
  have hbg := begun9_any (w.alloc (.cells #[.slice so sn sc, .slice ao an ac] 36))
  have cM := fun V => mayA_any so ao sn sc an ac sy ay V
  rw [my] at cM
  go_enter Tryz.func4, Tryz.ntmps4
  go_wp2_with (first
    | (go_at_call 8; (with_reducible refine hbg.mono ?_); rintro e w3 ⟨rfl, k3⟩
       have b3 := btw b1 k3 b1.size
       have s3 := k3.size
       rw [World.size_alloc] at s3
       have m1 := (k3.block w.heap.size (by simp)).trans n1
       clear n1 k3 hbg b1)
    | (go_at_call 10; (with_reducible refine (hinf _).mono ?_); rintro e w4 ⟨rfl, k4⟩
       have k5 := btw k4 (box_below w4 (.cells #[.string sp, .bool true, .bool db, .int .i64 r, .int .i64 l, .int .i64 g, .int .i64 i, .bool h, .bool c] 27)) k4.size
       have b5 := btw b3 k5 b3.size
       have s5 := k5.size
       have p1 := (k5.block w.heap.size (by omega)).trans m1
       obtain ⟨x0, x1, _, _⟩ := box2 p1
       have ibx := allocNew w4 (.cells #[.string sp, .bool true, .bool db, .int .i64 r, .int .i64 l, .int .i64 g, .int .i64 i, .bool h, .bool c] 27)
       obtain ⟨⟨_, im, _, ir, _, _, _, _, _⟩, _⟩ := bx9 ibx
       clear m1 hinf k4)
    | (go_at_call 13; (with_reducible refine (cM _ (hsy.below b5 (Nat.le_refl _)) (hay.below b5 (Nat.le_refl _))).mono ?_); rintro e w6 ⟨rfl, k6⟩
       have b6 := btw b5 k6 b5.size
       have s6 := k6.size
       have q1 := (k6.block w.heap.size (by omega)).trans p1
       have q2 := (k6.block w4.heap.size (by simp)).trans ibx
       clear x0 x1 im ir p1 ibx
       obtain ⟨x0, x1, _, _⟩ := box2 q1
       obtain ⟨⟨_, im, _, ir, _, _, _, _, _⟩, _⟩ := bx9 q2
       clear cM)
    | (go_at_call 14; (with_reducible refine (hone _ (hsy.below b6 (Nat.le_refl _)) (hay.below b6 (Nat.le_refl _))).mono ?_); rintro e w7 ⟨fo, fn, fc, gg, u1, v1, x1', u2, v2, x2', rfl, f1, f2, _, _, _, k7⟩
       have kb := box_below w7 (.cells #[.slice fo fn fc, .slice (some ⟨gg, 0, none⟩) n n, .slice u1 v1 x1', .slice u2 v2 x2'] 40)
       have k8 := btw k7 kb k7.size
       have b8 := btw b6 k8 b6.size
       have s7 := k7.size
       have y1 := (k8.block w.heap.size (by omega)).trans q1
       have cbx := allocNew w7 (.cells #[.slice fo fn fc, .slice (some ⟨gg, 0, none⟩) n n, .slice u1 v1 x1', .slice u2 v2 x2'] 40)
       have ff := f1.rd.below kb (Nat.le_refl _)
       have fsl := f1.sl
       have fln := f1.rd.len
       obtain rfl : fn = 0 := (by rw [← fln, hf]; rfl)
       have AS := (f2.below kb).as n5
       clear x0 x1 im ir q1 q2 hone k7 kb f1 f2
       obtain ⟨x0, x1, _, _⟩ := box2 y1
       obtain ⟨i0, i1, _⟩ := box4 cbx))
  go_ret
  exact ⟨rfl, b8⟩

set_option maxRecDepth 20000 in
set_option maxHeartbeats 8000000 in
theorem cells_none (so ao : Option Addr) (sn sc an ac : Nat) (sy ay : List Int) (w : World) (hsy : Rd w so sn sy) (ssy : Sl so sn sc) (hay : Rd w ao an ay) (say : Sl ao an ac) (op : Int) (k : Nat) (sp : ByteArray) (db : Bool) (r l g i : Int) (h c : Bool) (my : mayA sy ay = 0) (fs ii zz : List Int) (xs : Nat → List Int × List Int) (n : Nat) (n5 : n ≤ 4096) (hone : ∀ V, Rd V so sn sy → Rd V ao an ay → Calls Tryz.prog 14 #[.agg #[.slice so sn sc, .slice ao an ac], .int .i64 r] V fun e w' => ∃ fo fn fc gg o1 n1 c1 o2 n2 c2, e = .returned (.tuple #[.agg #[.slice fo fn fc, .slice (some ⟨gg, 0, none⟩) n n, .slice o1 n1 c1, .slice o2 n2 c2], .int .i64 0]) ∧
      Ft 3 w' V.heap.size fo fn fc fs ∧ Ac w' gg n n xs ∧ V.heap.size ≤ gg ∧ Ft 3 w' V.heap.size o1 n1 c1 ii ∧ Ft 2 w' V.heap.size o2 n2 c2 zz ∧ Below V.heap.size V w') (hf : fs ≠ []) (hn : n = 0)
    (hinf : ∀ W, Calls Tryz.prog 10 #[.int .i64 ((k : Int) + 1)] W fun e w' => e = .returned (.tuple #[.agg #[.string sp, .bool true, .bool db, .int .i64 r, .int .i64 l, .int .i64 g, .int .i64 i, .bool h, .bool c], .int .i64 0]) ∧ Below W.heap.size W w') :
    Calls Tryz.prog 4 #[.int .i64 ((k : Int) + 1), .agg #[.slice so sn sc, .slice ao an ac]] w fun e w' => e = .returned (.bool true) ∧ Below w.heap.size w w' := by
  have b1 := box_below w (.cells #[.slice so sn sc, .slice ao an ac] 36)
  have n1 := allocNew w (.cells #[.slice so sn sc, .slice ao an ac] 36)
  have hbg := begun9_any (w.alloc (.cells #[.slice so sn sc, .slice ao an ac] 36))
  have cM := fun V => mayA_any so ao sn sc an ac sy ay V
  rw [my] at cM
  have tn : ((n : Int) == 0) = true := by simp [hn]
  clear hn
  go_enter Tryz.func4, Tryz.ntmps4
  go_wp2_with (first
    | (go_at_call 8; (with_reducible refine hbg.mono ?_); rintro e w3 ⟨rfl, k3⟩
       have b3 := btw b1 k3 b1.size
       have s3 := k3.size
       rw [World.size_alloc] at s3
       have m1 := (k3.block w.heap.size (by simp)).trans n1
       clear n1 k3 hbg b1)
    | (go_at_call 10; (with_reducible refine (hinf _).mono ?_); rintro e w4 ⟨rfl, k4⟩
       have k5 := btw k4 (box_below w4 (.cells #[.string sp, .bool true, .bool db, .int .i64 r, .int .i64 l, .int .i64 g, .int .i64 i, .bool h, .bool c] 27)) k4.size
       have b5 := btw b3 k5 b3.size
       have s5 := k5.size
       have p1 := (k5.block w.heap.size (by omega)).trans m1
       obtain ⟨x0, x1, _, _⟩ := box2 p1
       have ibx := allocNew w4 (.cells #[.string sp, .bool true, .bool db, .int .i64 r, .int .i64 l, .int .i64 g, .int .i64 i, .bool h, .bool c] 27)
       obtain ⟨⟨_, im, _, ir, _, _, _, _, _⟩, _⟩ := bx9 ibx
       clear m1 hinf k4)
    | (go_at_call 13; (with_reducible refine (cM _ (hsy.below b5 (Nat.le_refl _)) (hay.below b5 (Nat.le_refl _))).mono ?_); rintro e w6 ⟨rfl, k6⟩
       have b6 := btw b5 k6 b5.size
       have s6 := k6.size
       have q1 := (k6.block w.heap.size (by omega)).trans p1
       have q2 := (k6.block w4.heap.size (by simp)).trans ibx
       clear x0 x1 im ir p1 ibx
       obtain ⟨x0, x1, _, _⟩ := box2 q1
       obtain ⟨⟨_, im, _, ir, _, _, _, _, _⟩, _⟩ := bx9 q2
       clear cM)
    | (go_at_call 14; (with_reducible refine (hone _ (hsy.below b6 (Nat.le_refl _)) (hay.below b6 (Nat.le_refl _))).mono ?_); rintro e w7 ⟨fo, fn, fc, gg, u1, v1, x1', u2, v2, x2', rfl, f1, f2, _, _, _, k7⟩
       have kb := box_below w7 (.cells #[.slice fo fn fc, .slice (some ⟨gg, 0, none⟩) n n, .slice u1 v1 x1', .slice u2 v2 x2'] 40)
       have k8 := btw k7 kb k7.size
       have b8 := btw b6 k8 b6.size
       have s7 := k7.size
       have y1 := (k8.block w.heap.size (by omega)).trans q1
       have cbx := allocNew w7 (.cells #[.slice fo fn fc, .slice (some ⟨gg, 0, none⟩) n n, .slice u1 v1 x1', .slice u2 v2 x2'] 40)
       have ff := f1.rd.below kb (Nat.le_refl _)
       have fsl := f1.sl
       have fln := f1.rd.len
       have tf : ((fn : Int) == 0) = false := (by have : fs.length ≠ 0 := (fun e => hf (List.length_eq_zero_iff.1 e)); simp; omega)
       have AS := (f2.below kb).as n5
       clear x0 x1 im ir q1 q2 hone k7 kb f1 f2
       obtain ⟨x0, x1, _, _⟩ := box2 y1
       obtain ⟨i0, i1, _⟩ := box4 cbx))
  go_ret
  exact ⟨rfl, b8⟩

theorem ptr_nil (w : World) (g : Nat) : (binOp .eql 43 (.pointer (some ⟨g, 0, none⟩)) (.pointer none)).run Tryz.prog w = .ok (.bool false) w := by kernel_rfl

set_option maxRecDepth 20000 in
set_option maxHeartbeats 8000000 in
theorem cells_mok (so ao : Option Addr) (sn sc an ac : Nat) (sy ay : List Int) (w : World) (hsy : Rd w so sn sy) (ssy : Sl so sn sc) (hay : Rd w ao an ay) (say : Sl ao an ac) (op : Int) (k : Nat) (sp : ByteArray) (db : Bool) (r l g i : Int) (h c : Bool) (my : mayA sy ay = 0) (fs ii zz : List Int) (xs : Nat → List Int × List Int) (n : Nat) (n5 : n ≤ 4096) (hone : ∀ V, Rd V so sn sy → Rd V ao an ay → Calls Tryz.prog 14 #[.agg #[.slice so sn sc, .slice ao an ac], .int .i64 r] V fun e w' => ∃ fo fn fc gg o1 n1 c1 o2 n2 c2, e = .returned (.tuple #[.agg #[.slice fo fn fc, .slice (some ⟨gg, 0, none⟩) n n, .slice o1 n1 c1, .slice o2 n2 c2], .int .i64 0]) ∧
      Ft 3 w' V.heap.size fo fn fc fs ∧ Ac w' gg n n xs ∧ V.heap.size ≤ gg ∧ Ft 3 w' V.heap.size o1 n1 c1 ii ∧ Ft 2 w' V.heap.size o2 n2 c2 zz ∧ Below V.heap.size V w') (hf : fs ≠ []) (gE : Nat → Int) (ys : Nat → List Int × List Int) (hbe : begE fs = 0) (hpr : (n : Int) = pr fs) (hmk : MonK w ((k : Int) + 1) n xs gE ys) (E : Int) (S A : List Int) (hmy : ∀ V, Below w.heap.size w V → Calls Tryz.prog 16 #[.int .i64 ((k : Int) + 1), .agg #[.slice so sn sc, .slice ao an ac]] V fun e w' => AnsP V E S A e w') (hl : lF gE fs ys n = 0) (hE : E = 0) (hSS : S = fs ++ cmn ys n ∧ A = jnZ (cmn ys n) (pr (cmn ys n)).toNat ys (List.replicate (pr (fs ++ cmn ys n)).toNat 0) n)
    (hinf : ∀ W, Calls Tryz.prog 10 #[.int .i64 ((k : Int) + 1)] W fun e w' => e = .returned (.tuple #[.agg #[.string sp, .bool true, .bool db, .int .i64 r, .int .i64 l, .int .i64 g, .int .i64 i, .bool h, .bool c], .int .i64 0]) ∧ Below W.heap.size W w') :
    Calls Tryz.prog 4 #[.int .i64 ((k : Int) + 1), .agg #[.slice so sn sc, .slice ao an ac]] w fun e w' => e = .returned (.bool true) ∧ Below w.heap.size w w' := by
  have b1 := box_below w (.cells #[.slice so sn sc, .slice ao an ac] 36)
  have n1 := allocNew w (.cells #[.slice so sn sc, .slice ao an ac] 36)
  have hbg := begun9_any (w.alloc (.cells #[.slice so sn sc, .slice ao an ac] 36))
  have cM := fun V => mayA_any so ao sn sc an ac sy ay V
  rw [my] at cM
  have m0 : mayF fs = 0 := by
    unfold begE at hbe
    by_cases c : mayF fs = 0
    · exact c
    · rw [if_pos c] at hbe; exact absurd hbe c
  have p0 : pr fs ≠ 0 := by
    intro c
    unfold begE at hbe
    rw [if_neg (by omega), if_pos c] at hbe
    omega
  have pf := prF_bd m0
  have n0 : 0 < n := by omega
  have tn : ((n : Int) == 0) = false := by simp; omega
  have HM : Hid (mayF fs = 0) := m0
  have HN : Hid ((n : Int) = pr fs) := hpr
  have HC : Hid (∀ k, lF gE fs ys k = 0 → k ≠ 0 → mayF (cmn ys k) = 0) := fun k hk h0 => by
    have := (jA_parts (lF_all hk (k - 1) (by omega)).2).2.2.1
    rwa [show k - 1 + 1 = k by omega] at this
  have HQ : Hid (MonK w ((k : Int) + 1) n xs gE ys) := hmk
  have hpn := ptr_nil
  clear m0 p0 hpr hmk
  subst hE
  have HL : Hid (lF gE fs ys n = 0) := hl
  have HS : Hid (S = fs ++ cmn ys n ∧ A = jnZ (cmn ys n) (pr (cmn ys n)).toNat ys (List.replicate (pr (fs ++ cmn ys n)).toNat 0) n) := hSS
  clear hl hSS pf
  go_enter Tryz.func4, Tryz.ntmps4
  go_wp2_with (first
    | (go_at_call 8; (with_reducible refine hbg.mono ?_); rintro e w3 ⟨rfl, k3⟩
       have b3 := btw b1 k3 b1.size
       have s3 := k3.size
       rw [World.size_alloc] at s3
       have m1 := (k3.block w.heap.size (by simp)).trans n1
       clear n1 k3 hbg b1)
    | (go_at_call 10; (with_reducible refine (hinf _).mono ?_); rintro e w4 ⟨rfl, k4⟩
       have k5 := btw k4 (box_below w4 (.cells #[.string sp, .bool true, .bool db, .int .i64 r, .int .i64 l, .int .i64 g, .int .i64 i, .bool h, .bool c] 27)) k4.size
       have b5 := btw b3 k5 b3.size
       have s5 := k5.size
       have p1 := (k5.block w.heap.size (by omega)).trans m1
       obtain ⟨x0, x1, _, _⟩ := box2 p1
       have ibx := allocNew w4 (.cells #[.string sp, .bool true, .bool db, .int .i64 r, .int .i64 l, .int .i64 g, .int .i64 i, .bool h, .bool c] 27)
       obtain ⟨⟨_, im, _, ir, _, _, _, _, _⟩, _⟩ := bx9 ibx
       clear m1 hinf k4)
    | (go_at_call 13; (with_reducible refine (cM _ (hsy.below b5 (Nat.le_refl _)) (hay.below b5 (Nat.le_refl _))).mono ?_); rintro e w6 ⟨rfl, k6⟩
       have b6 := btw b5 k6 b5.size
       have s6 := k6.size
       have q1 := (k6.block w.heap.size (by omega)).trans p1
       have q2 := (k6.block w4.heap.size (by simp)).trans ibx
       clear x0 x1 im ir p1 ibx
       obtain ⟨x0, x1, _, _⟩ := box2 q1
       obtain ⟨⟨_, im, _, ir, _, _, _, _, _⟩, _⟩ := bx9 q2
       clear cM)
    | (go_at_call 14; (with_reducible refine (hone _ (hsy.below b6 (Nat.le_refl _)) (hay.below b6 (Nat.le_refl _))).mono ?_); rintro e w7 ⟨fo, fn, fc, gg, u1, v1, x1', u2, v2, x2', rfl, f1, f2, _, _, _, k7⟩
       have kb := box_below w7 (.cells #[.slice fo fn fc, .slice (some ⟨gg, 0, none⟩) n n, .slice u1 v1 x1', .slice u2 v2 x2'] 40)
       have k8 := btw k7 kb k7.size
       have b8 := btw b6 k8 b6.size
       have s7 := k7.size
       have y1 := (k8.block w.heap.size (by omega)).trans q1
       have cbx := allocNew w7 (.cells #[.slice fo fn fc, .slice (some ⟨gg, 0, none⟩) n n, .slice u1 v1 x1', .slice u2 v2 x2'] 40)
       have ff := f1.rd.below kb (Nat.le_refl _)
       have fsl := f1.sl
       have fln := f1.rd.len
       have tf : ((fn : Int) == 0) = false := (by have : fs.length ≠ 0 := (fun e => hf (List.length_eq_zero_iff.1 e)); simp; omega)
       have hbn := begin_ok fo fn fc fs ys _ (f1.rd.below kb (Nat.le_refl _)) f1.sl hbe
       have AS := (f2.below kb).as n5
       clear x0 x1 im ir q1 q2 hone k7 kb f1 f2
       obtain ⟨x0, x1, _, _⟩ := box2 y1
       obtain ⟨i0, i1, _⟩ := box4 cbx)
    | (go_at_call 15; (with_reducible refine hbn.mono ?_); rintro e w9 ⟨jb, o, c', rfl, J0, k9⟩
       clear hbn))
  have gc : w7.heap.size < (w7.alloc (.cells #[.slice fo fn fc, .slice (some ⟨gg, 0, none⟩) n n, .slice u1 v1 x1', .slice u2 v2 x2'] 40)).heap.size := by simp
  have gw : w.heap.size < (w7.alloc (.cells #[.slice fo fn fc, .slice (some ⟨gg, 0, none⟩) n n, .slice u1 v1 x1', .slice u2 v2 x2'] 40)).heap.size := (Array.getElem?_eq_some_iff.1 y1).1
  generalize w7.alloc (.cells #[.slice fo fn fc, .slice (some ⟨gg, 0, none⟩) n n, .slice u1 v1 x1', .slice u2 v2 x2'] 40) = WB at *
  have K0 : Ji WB w9 jb o fn c' fs ys 0 := ⟨k9, _, _, _, _, _, J0⟩
  clear J0 k9 x0 x1 i0 i1
  go_loopw [11, 12] (fun a b V => ∃ q : Nat, q ≤ n ∧ a = .int .i64 0 ∧ b = .int .i64 (q : Nat) ∧ lF gE fs ys q = 0 ∧ Ji WB V jb o fn c' fs ys q) (fun a b V => n + 1 - (intOf b).toNat)
  case atStart => exact ⟨0, Nat.zero_le _, rfl, rfl, rfl, K0⟩
  case round =>
    obtain ⟨q, hqn, rfl, rfl, hlq, JI⟩ := hrel
    have HK : Hid (lF gE fs ys q = 0) := hlq
    clear hlq K0
    obtain ⟨bel, co, cn, cc, go, gc', J⟩ := JI
    have bw := btw b8 bel b8.size
    obtain ⟨i0, i1, _⟩ := box4 ((bel.block w7.heap.size gc).trans cbx)
    obtain ⟨x0, x1, _, _⟩ := box2 ((bel.block w.heap.size gw).trans y1)
    by_cases hq : q < n
    · have hz := lF_all HL.out q hq
      have HE : Hid (gE q = 0) := hz.1
      have HJ : Hid (jA fs ys q = 0) := hz.2
      clear hz
      obtain ⟨b', off, e', hl', hc⟩ := (AS.below bel (Nat.le_refl _)).cells n0
      cases e'
      obtain ⟨s', sn', sc', a', an', ac', a1, a2, a3, a4, a5, a6⟩ := hc q hq
      rw [Nat.zero_add] at a1 a2
      have t1 : decide ((q : Int) < (n : Int)) = true := by simp; omega
      have bq : (q : Int) < (n : Int) := by omega
      have wq : IntKind.i64.wrap ((q : Int) + 1) = (q : Int) + 1 := wrapIn _ (by omega)
      have hdo := HQ.out wr q s' a' sn' sc' an' ac' bw hq a3 a4 a5 a6
      clear hc
      rw [HE.out] at hdo
      go_wp2_with (first
        | (go_at_call 16; (with_reducible refine hdo.mono ?_); rintro e V1 ⟨o1, n1, c1, o2, n2, c2, rfl, g1, g2, d1⟩
           have kc := box_below V1 (.cells #[.slice o1 n1 c1, .slice o2 n2 c2] 36)
           have kb := btw d1 kc d1.size
           have J1 := J.below kb (Nat.le_refl _)
           have had := add_ok J1 o1 o2 n1 c1 n2 c2 (ys q).1 (ys q).2 (g1.rd.below kc (Nat.le_refl _)) g1.sl (g2.rd.below kc (Nat.le_refl _)) g2.sl HM.out (HC.out q HK.out) (by omega) HJ.out rfl (by have := bel.size; have := kb.size; omega)
           clear hdo)
        | (go_at_call 17; (with_reducible refine had.mono ?_); rintro e V2 ⟨co', cn', cc', go', gc'', rfl, J2, b2⟩))
      go_roundw
      case rel => exact ⟨q + 1, by omega, rfl, by go_num, lF_on HK.out HE.out HJ.out, (btw bel kb bel.size).trans b2, _, _, _, _, _, J2⟩
      case measure => simp [intOf]; omega
    · obtain rfl : n = q := by omega
      have t1 : decide ((n : Int) < (n : Int)) = false := by simp
      have hall := lF_all HL.out
      obtain ⟨z1, z2, z3, z4⟩ := jA_parts (hall (n - 1) (by omega)).2
      rw [show n - 1 + 1 = n by omega] at z3 z4
      have hmw := hmy wr bw
      go_wp2_with (first
        | (go_at_call 16; (with_reducible refine hmw.mono ?_); rintro e V1 ⟨o1, n1, c1, o2, n2, c2, rfl, g1, g2, d1⟩
           have kc := box_below V1 (.cells #[.slice o1 n1 c1, .slice o2 n2 c2] 36)
           have kb := btw d1 kc d1.size
           have bv := btw bw kb bw.size
           have X1 := bv_new (c1 := c1) (c2 := c2) g1.rd g2.rd
           have hdn := done_ok (J.below kb (Nat.le_refl _)) HM.out HN.out n0 z4 z3 (fun j hj' => (jA_parts (hall j hj').2).2.1) (join_wn (fun j hj' => (hall j hj').2))
           clear hmw)
        | (go_at_call 19; (with_reducible refine hdn.mono ?_); rintro e V2 ⟨r1, r2, r3, r4, r5, r6, rfl, h1, h2, d2⟩
           have ke := box_below V2 (.cells #[.slice r1 r2 r3, .slice r4 r5 r6] 36)
           have kd := btw d2 ke d2.size
           have bz := btw bv kd bv.size
           have X2 := X1.below kd
           have X3 := bv_new (c1 := r3) (c2 := r6) h1.rd h2.rd
           obtain ⟨e0, e1⟩ := X2.c
           obtain ⟨e2, e3⟩ := X3.c
           have XS := X2.s
           have XA := X2.a
           rw [HS.out.1] at XS
           rw [HS.out.2] at XA
           have heq := eqT9 _ _ _ _ _ _ c1 _ c2 _ r3 _ r6 _ _ XS XA X3.s X3.a
           clear hdn)
        | (go_at_call 18; (with_reducible refine heq.mono ?_); rintro e V3 ⟨rfl, d3⟩
           have by' := btw bz d3 bz.size
           clear heq))
      go_ret
      exact ⟨rfl, by'⟩
end Go.Proofs.YtelcagfaflpolaaGreat


namespace Go.Proofs.YtelcagfaflpolaaGreat

open Go.RowKit

set_option linter.unusedVariables false

set_option maxRecDepth 20000 in
set_option maxHeartbeats 8000000 in
theorem cells_mdo (so ao : Option Addr) (sn sc an ac : Nat) (sy ay : List Int) (w : World) (hsy : Rd w so sn sy) (ssy : Sl so sn sc) (hay : Rd w ao an ay) (say : Sl ao an ac) (op : Int) (k : Nat) (sp : ByteArray) (db : Bool) (r l g i : Int) (h c : Bool) (my : mayA sy ay = 0) (fs ii zz : List Int) (xs : Nat → List Int × List Int) (n : Nat) (n5 : n ≤ 4096) (hone : ∀ V, Rd V so sn sy → Rd V ao an ay → Calls Tryz.prog 14 #[.agg #[.slice so sn sc, .slice ao an ac], .int .i64 r] V fun e w' => ∃ fo fn fc gg o1 n1 c1 o2 n2 c2, e = .returned (.tuple #[.agg #[.slice fo fn fc, .slice (some ⟨gg, 0, none⟩) n n, .slice o1 n1 c1, .slice o2 n2 c2], .int .i64 0]) ∧
      Ft 3 w' V.heap.size fo fn fc fs ∧ Ac w' gg n n xs ∧ V.heap.size ≤ gg ∧ Ft 3 w' V.heap.size o1 n1 c1 ii ∧ Ft 2 w' V.heap.size o2 n2 c2 zz ∧ Below V.heap.size V w') (hf : fs ≠ []) (gE : Nat → Int) (ys : Nat → List Int × List Int) (hbe : begE fs = 0) (hpr : (n : Int) = pr fs) (hmk : MonK w ((k : Int) + 1) n xs gE ys) (E : Int) (S A : List Int) (hmy : ∀ V, Below w.heap.size w V → Calls Tryz.prog 16 #[.int .i64 ((k : Int) + 1), .agg #[.slice so sn sc, .slice ao an ac]] V fun e w' => AnsP V E S A e w') (m : Nat) (hmn : m < n) (hl : lF gE fs ys m = 0) (hg : gE m = E) (hE : E ≠ 0) (hSS : S = [] ∧ A = [])
    (hinf : ∀ W, Calls Tryz.prog 10 #[.int .i64 ((k : Int) + 1)] W fun e w' => e = .returned (.tuple #[.agg #[.string sp, .bool true, .bool db, .int .i64 r, .int .i64 l, .int .i64 g, .int .i64 i, .bool h, .bool c], .int .i64 0]) ∧ Below W.heap.size W w') :
    Calls Tryz.prog 4 #[.int .i64 ((k : Int) + 1), .agg #[.slice so sn sc, .slice ao an ac]] w fun e w' => e = .returned (.bool true) ∧ Below w.heap.size w w' := by
  have b1 := box_below w (.cells #[.slice so sn sc, .slice ao an ac] 36)
  have n1 := allocNew w (.cells #[.slice so sn sc, .slice ao an ac] 36)
  have hbg := begun9_any (w.alloc (.cells #[.slice so sn sc, .slice ao an ac] 36))
  have cM := fun V => mayA_any so ao sn sc an ac sy ay V
  rw [my] at cM
  have m0 : mayF fs = 0 := by
    unfold begE at hbe
    by_cases c : mayF fs = 0
    · exact c
    · rw [if_pos c] at hbe; exact absurd hbe c
  have p0 : pr fs ≠ 0 := by
    intro c
    unfold begE at hbe
    rw [if_neg (by omega), if_pos c] at hbe
    omega
  have pf := prF_bd m0
  have n0 : 0 < n := by omega
  have tn : ((n : Int) == 0) = false := by simp; omega
  have HM : Hid (mayF fs = 0) := m0
  have HN : Hid ((n : Int) = pr fs) := hpr
  have HC : Hid (∀ k, lF gE fs ys k = 0 → k ≠ 0 → mayF (cmn ys k) = 0) := fun k hk h0 => by
    have := (jA_parts (lF_all hk (k - 1) (by omega)).2).2.2.1
    rwa [show k - 1 + 1 = k by omega] at this
  have HQ : Hid (MonK w ((k : Int) + 1) n xs gE ys) := hmk
  have hpn := ptr_nil
  clear m0 p0 hpr hmk
  have HL : Hid (lF gE fs ys m = 0) := hl
  have HG : Hid (gE m = E) := hg
  have HE0 : Hid (E ≠ 0) := hE
  have tE : (E == 0) = false := by simpa using hE
  have HS : Hid (S = [] ∧ A = []) := hSS
  clear hl hSS pf hg hE
  go_enter Tryz.func4, Tryz.ntmps4
  go_wp2_with (first
    | (go_at_call 8; (with_reducible refine hbg.mono ?_); rintro e w3 ⟨rfl, k3⟩
       have b3 := btw b1 k3 b1.size
       have s3 := k3.size
       rw [World.size_alloc] at s3
       have m1 := (k3.block w.heap.size (by simp)).trans n1
       clear n1 k3 hbg b1)
    | (go_at_call 10; (with_reducible refine (hinf _).mono ?_); rintro e w4 ⟨rfl, k4⟩
       have k5 := btw k4 (box_below w4 (.cells #[.string sp, .bool true, .bool db, .int .i64 r, .int .i64 l, .int .i64 g, .int .i64 i, .bool h, .bool c] 27)) k4.size
       have b5 := btw b3 k5 b3.size
       have s5 := k5.size
       have p1 := (k5.block w.heap.size (by omega)).trans m1
       obtain ⟨x0, x1, _, _⟩ := box2 p1
       have ibx := allocNew w4 (.cells #[.string sp, .bool true, .bool db, .int .i64 r, .int .i64 l, .int .i64 g, .int .i64 i, .bool h, .bool c] 27)
       obtain ⟨⟨_, im, _, ir, _, _, _, _, _⟩, _⟩ := bx9 ibx
       clear m1 hinf k4)
    | (go_at_call 13; (with_reducible refine (cM _ (hsy.below b5 (Nat.le_refl _)) (hay.below b5 (Nat.le_refl _))).mono ?_); rintro e w6 ⟨rfl, k6⟩
       have b6 := btw b5 k6 b5.size
       have s6 := k6.size
       have q1 := (k6.block w.heap.size (by omega)).trans p1
       have q2 := (k6.block w4.heap.size (by simp)).trans ibx
       clear x0 x1 im ir p1 ibx
       obtain ⟨x0, x1, _, _⟩ := box2 q1
       obtain ⟨⟨_, im, _, ir, _, _, _, _, _⟩, _⟩ := bx9 q2
       clear cM)
    | (go_at_call 14; (with_reducible refine (hone _ (hsy.below b6 (Nat.le_refl _)) (hay.below b6 (Nat.le_refl _))).mono ?_); rintro e w7 ⟨fo, fn, fc, gg, u1, v1, x1', u2, v2, x2', rfl, f1, f2, _, _, _, k7⟩
       have kb := box_below w7 (.cells #[.slice fo fn fc, .slice (some ⟨gg, 0, none⟩) n n, .slice u1 v1 x1', .slice u2 v2 x2'] 40)
       have k8 := btw k7 kb k7.size
       have b8 := btw b6 k8 b6.size
       have s7 := k7.size
       have y1 := (k8.block w.heap.size (by omega)).trans q1
       have cbx := allocNew w7 (.cells #[.slice fo fn fc, .slice (some ⟨gg, 0, none⟩) n n, .slice u1 v1 x1', .slice u2 v2 x2'] 40)
       have ff := f1.rd.below kb (Nat.le_refl _)
       have fsl := f1.sl
       have fln := f1.rd.len
       have tf : ((fn : Int) == 0) = false := (by have : fs.length ≠ 0 := (fun e => hf (List.length_eq_zero_iff.1 e)); simp; omega)
       have hbn := begin_ok fo fn fc fs ys _ (f1.rd.below kb (Nat.le_refl _)) f1.sl hbe
       have AS := (f2.below kb).as n5
       clear x0 x1 im ir q1 q2 hone k7 kb f1 f2
       obtain ⟨x0, x1, _, _⟩ := box2 y1
       obtain ⟨i0, i1, _⟩ := box4 cbx)
    | (go_at_call 15; (with_reducible refine hbn.mono ?_); rintro e w9 ⟨jb, o, c', rfl, J0, k9⟩
       clear hbn))
  have gc : w7.heap.size < (w7.alloc (.cells #[.slice fo fn fc, .slice (some ⟨gg, 0, none⟩) n n, .slice u1 v1 x1', .slice u2 v2 x2'] 40)).heap.size := by simp
  have gw : w.heap.size < (w7.alloc (.cells #[.slice fo fn fc, .slice (some ⟨gg, 0, none⟩) n n, .slice u1 v1 x1', .slice u2 v2 x2'] 40)).heap.size := (Array.getElem?_eq_some_iff.1 y1).1
  generalize w7.alloc (.cells #[.slice fo fn fc, .slice (some ⟨gg, 0, none⟩) n n, .slice u1 v1 x1', .slice u2 v2 x2'] 40) = WB at *
  have K0 : Ji WB w9 jb o fn c' fs ys 0 := ⟨k9, _, _, _, _, _, J0⟩
  clear J0 k9 x0 x1 i0 i1
  go_loopw [11, 12] (fun a b V => (∃ q : Nat, q ≤ m ∧ a = .int .i64 0 ∧ b = .int .i64 (q : Nat) ∧ lF gE fs ys q = 0 ∧ Ji WB V jb o fn c' fs ys q) ∨ (a = .int .i64 E ∧ b = .int .i64 ((m : Nat) + 1 : Nat) ∧ Below WB.heap.size WB V)) (fun a b V => n + 1 - (intOf b).toNat)
  case atStart => exact .inl ⟨0, Nat.zero_le _, rfl, rfl, rfl, K0⟩
  case round =>
    rcases hrel with ⟨q, hqm, rfl, rfl, hlq, JI⟩ | ⟨rfl, rfl, bel⟩
    · have HK : Hid (lF gE fs ys q = 0) := hlq
      clear hlq K0
      obtain ⟨bel, co, cn, cc, go, gc', J⟩ := JI
      have bw := btw b8 bel b8.size
      obtain ⟨i0, i1, _⟩ := box4 ((bel.block w7.heap.size gc).trans cbx)
      obtain ⟨x0, x1, _, _⟩ := box2 ((bel.block w.heap.size gw).trans y1)
      have hq : q < n := by omega
      by_cases hlt : q < m
      · have hz := lF_all HL.out q hlt
        have HE : Hid (gE q = 0) := hz.1
        have HJ : Hid (jA fs ys q = 0) := hz.2
        clear hz
        obtain ⟨b', off, e', hl', hc⟩ := (AS.below bel (Nat.le_refl _)).cells n0
        cases e'
        obtain ⟨s', sn', sc', a', an', ac', a1, a2, a3, a4, a5, a6⟩ := hc q hq
        rw [Nat.zero_add] at a1 a2
        have t1 : decide ((q : Int) < (n : Int)) = true := by simp; omega
        have bq : (q : Int) < (n : Int) := by omega
        have wq : IntKind.i64.wrap ((q : Int) + 1) = (q : Int) + 1 := wrapIn _ (by omega)
        have hdo := HQ.out wr q s' a' sn' sc' an' ac' bw hq a3 a4 a5 a6
        clear hc
        rw [HE.out] at hdo
        go_wp2_with (first
          | (go_at_call 16; (with_reducible refine hdo.mono ?_); rintro e V1 ⟨o1, n1, c1, o2, n2, c2, rfl, g1, g2, d1⟩
             have kc := box_below V1 (.cells #[.slice o1 n1 c1, .slice o2 n2 c2] 36)
             have kb := btw d1 kc d1.size
             have J1 := J.below kb (Nat.le_refl _)
             have had := add_ok J1 o1 o2 n1 c1 n2 c2 (ys q).1 (ys q).2 (g1.rd.below kc (Nat.le_refl _)) g1.sl (g2.rd.below kc (Nat.le_refl _)) g2.sl HM.out (HC.out q HK.out) (by omega) HJ.out rfl (by have := bel.size; have := kb.size; omega)
             clear hdo)
          | (go_at_call 17; (with_reducible refine had.mono ?_); rintro e V2 ⟨co', cn', cc', go', gc'', rfl, J2, b2⟩))
        go_roundw
        case rel => exact .inl ⟨q + 1, by omega, rfl, by go_num, lF_on HK.out HE.out HJ.out, (btw bel kb bel.size).trans b2, _, _, _, _, _, J2⟩
        case measure => simp [intOf]; omega
      · obtain rfl : q = m := by omega
        obtain ⟨b', off, e', hl', hc⟩ := (AS.below bel (Nat.le_refl _)).cells n0
        cases e'
        obtain ⟨s', sn', sc', a', an', ac', a1, a2, a3, a4, a5, a6⟩ := hc q hq
        rw [Nat.zero_add] at a1 a2
        have t1 : decide ((q : Int) < (n : Int)) = true := by simp; omega
        have bq : (q : Int) < (n : Int) := by omega
        have wq : IntKind.i64.wrap ((q : Int) + 1) = (q : Int) + 1 := wrapIn _ (by omega)
        have hdo := HQ.out wr q s' a' sn' sc' an' ac' bw hq a3 a4 a5 a6
        clear hc
        rw [HG.out] at hdo
        go_wp2_with (first
          | (go_at_call 16; (with_reducible refine hdo.mono ?_); rintro e V1 ⟨o1, n1, c1, o2, n2, c2, rfl, g1, g2, d1⟩
             have kc := box_below V1 (.cells #[.slice o1 n1 c1, .slice o2 n2 c2] 36)
             have kb := btw d1 kc d1.size
             clear hdo)
)
        go_roundw
        case rel => exact .inr ⟨rfl, by go_num, btw bel kb bel.size⟩
        case measure => simp [intOf]; omega
    · have bw := btw b8 bel b8.size
      clear K0
      obtain ⟨i0, i1, _⟩ := box4 ((bel.block w7.heap.size gc).trans cbx)
      obtain ⟨x0, x1, _, _⟩ := box2 ((bel.block w.heap.size gw).trans y1)
      have hmw := hmy wr bw
      have te0 : (E == 0) = false := by simpa using HE0.out
      have te1 : (E != 0) = true := by simpa using HE0.out
      go_wp2_with (first
        | (go_at_call 16; (with_reducible refine hmw.mono ?_); rintro e V1 ⟨o1, n1, c1, o2, n2, c2, rfl, g1, g2, d1⟩
           have kc := box_below V1 (.cells #[.slice o1 n1 c1, .slice o2 n2 c2] 36)
           have kb := btw d1 kc d1.size
           have bv := btw bw kb bw.size
           have X1 := bv_new (c1 := c1) (c2 := c2) g1.rd g2.rd
           obtain ⟨e0, e1⟩ := X1.c
           have XS := X1.s
           have XA := X1.a
           rw [HS.out.1] at XS
           rw [HS.out.2] at XA
           have heq := eqT9 _ _ _ _ _ _ c1 _ c2 _ 0 _ 0 [] [] XS XA (Rd.nil _) (Rd.nil _)
           clear hmw)
        | (go_at_call 18; (with_reducible refine heq.mono ?_); rintro e V3 ⟨rfl, d3⟩
           have by' := btw bv d3 bv.size
           clear heq))
      all_goals
        go_ret
        exact ⟨rfl, by'⟩

set_option maxRecDepth 20000 in
set_option maxHeartbeats 8000000 in
theorem cells_madd (so ao : Option Addr) (sn sc an ac : Nat) (sy ay : List Int) (w : World) (hsy : Rd w so sn sy) (ssy : Sl so sn sc) (hay : Rd w ao an ay) (say : Sl ao an ac) (op : Int) (k : Nat) (sp : ByteArray) (db : Bool) (r l g i : Int) (h c : Bool) (my : mayA sy ay = 0) (fs ii zz : List Int) (xs : Nat → List Int × List Int) (n : Nat) (n5 : n ≤ 4096) (hone : ∀ V, Rd V so sn sy → Rd V ao an ay → Calls Tryz.prog 14 #[.agg #[.slice so sn sc, .slice ao an ac], .int .i64 r] V fun e w' => ∃ fo fn fc gg o1 n1 c1 o2 n2 c2, e = .returned (.tuple #[.agg #[.slice fo fn fc, .slice (some ⟨gg, 0, none⟩) n n, .slice o1 n1 c1, .slice o2 n2 c2], .int .i64 0]) ∧
      Ft 3 w' V.heap.size fo fn fc fs ∧ Ac w' gg n n xs ∧ V.heap.size ≤ gg ∧ Ft 3 w' V.heap.size o1 n1 c1 ii ∧ Ft 2 w' V.heap.size o2 n2 c2 zz ∧ Below V.heap.size V w') (hf : fs ≠ []) (gE : Nat → Int) (ys : Nat → List Int × List Int) (hbe : begE fs = 0) (hpr : (n : Int) = pr fs) (hmk : MonK w ((k : Int) + 1) n xs gE ys) (E : Int) (S A : List Int) (hmy : ∀ V, Below w.heap.size w V → Calls Tryz.prog 16 #[.int .i64 ((k : Int) + 1), .agg #[.slice so sn sc, .slice ao an ac]] V fun e w' => AnsP V E S A e w') (m : Nat) (hmn : m < n) (hl : lF gE fs ys m = 0) (hg : gE m = 0) (hj : addE fs ys m (ys m).1 (ys m).2 = E) (hE : E ≠ 0) (hSS : S = [] ∧ A = [])
    (hinf : ∀ W, Calls Tryz.prog 10 #[.int .i64 ((k : Int) + 1)] W fun e w' => e = .returned (.tuple #[.agg #[.string sp, .bool true, .bool db, .int .i64 r, .int .i64 l, .int .i64 g, .int .i64 i, .bool h, .bool c], .int .i64 0]) ∧ Below W.heap.size W w') :
    Calls Tryz.prog 4 #[.int .i64 ((k : Int) + 1), .agg #[.slice so sn sc, .slice ao an ac]] w fun e w' => e = .returned (.bool true) ∧ Below w.heap.size w w' := by
  have b1 := box_below w (.cells #[.slice so sn sc, .slice ao an ac] 36)
  have n1 := allocNew w (.cells #[.slice so sn sc, .slice ao an ac] 36)
  have hbg := begun9_any (w.alloc (.cells #[.slice so sn sc, .slice ao an ac] 36))
  have cM := fun V => mayA_any so ao sn sc an ac sy ay V
  rw [my] at cM
  have m0 : mayF fs = 0 := by
    unfold begE at hbe
    by_cases c : mayF fs = 0
    · exact c
    · rw [if_pos c] at hbe; exact absurd hbe c
  have p0 : pr fs ≠ 0 := by
    intro c
    unfold begE at hbe
    rw [if_neg (by omega), if_pos c] at hbe
    omega
  have pf := prF_bd m0
  have n0 : 0 < n := by omega
  have tn : ((n : Int) == 0) = false := by simp; omega
  have HM : Hid (mayF fs = 0) := m0
  have HN : Hid ((n : Int) = pr fs) := hpr
  have HC : Hid (∀ k, lF gE fs ys k = 0 → k ≠ 0 → mayF (cmn ys k) = 0) := fun k hk h0 => by
    have := (jA_parts (lF_all hk (k - 1) (by omega)).2).2.2.1
    rwa [show k - 1 + 1 = k by omega] at this
  have HQ : Hid (MonK w ((k : Int) + 1) n xs gE ys) := hmk
  have hpn := ptr_nil
  clear m0 p0 hpr hmk
  have HL : Hid (lF gE fs ys m = 0) := hl
  have HG : Hid (gE m = 0) := hg
  have HR : Hid (addE fs ys m (ys m).1 (ys m).2 = E) := hj
  have HE0 : Hid (E ≠ 0) := hE
  have HS : Hid (S = [] ∧ A = []) := hSS
  clear hl hSS pf hg hE hj
  go_enter Tryz.func4, Tryz.ntmps4
  go_wp2_with (first
    | (go_at_call 8; (with_reducible refine hbg.mono ?_); rintro e w3 ⟨rfl, k3⟩
       have b3 := btw b1 k3 b1.size
       have s3 := k3.size
       rw [World.size_alloc] at s3
       have m1 := (k3.block w.heap.size (by simp)).trans n1
       clear n1 k3 hbg b1)
    | (go_at_call 10; (with_reducible refine (hinf _).mono ?_); rintro e w4 ⟨rfl, k4⟩
       have k5 := btw k4 (box_below w4 (.cells #[.string sp, .bool true, .bool db, .int .i64 r, .int .i64 l, .int .i64 g, .int .i64 i, .bool h, .bool c] 27)) k4.size
       have b5 := btw b3 k5 b3.size
       have s5 := k5.size
       have p1 := (k5.block w.heap.size (by omega)).trans m1
       obtain ⟨x0, x1, _, _⟩ := box2 p1
       have ibx := allocNew w4 (.cells #[.string sp, .bool true, .bool db, .int .i64 r, .int .i64 l, .int .i64 g, .int .i64 i, .bool h, .bool c] 27)
       obtain ⟨⟨_, im, _, ir, _, _, _, _, _⟩, _⟩ := bx9 ibx
       clear m1 hinf k4)
    | (go_at_call 13; (with_reducible refine (cM _ (hsy.below b5 (Nat.le_refl _)) (hay.below b5 (Nat.le_refl _))).mono ?_); rintro e w6 ⟨rfl, k6⟩
       have b6 := btw b5 k6 b5.size
       have s6 := k6.size
       have q1 := (k6.block w.heap.size (by omega)).trans p1
       have q2 := (k6.block w4.heap.size (by simp)).trans ibx
       clear x0 x1 im ir p1 ibx
       obtain ⟨x0, x1, _, _⟩ := box2 q1
       obtain ⟨⟨_, im, _, ir, _, _, _, _, _⟩, _⟩ := bx9 q2
       clear cM)
    | (go_at_call 14; (with_reducible refine (hone _ (hsy.below b6 (Nat.le_refl _)) (hay.below b6 (Nat.le_refl _))).mono ?_); rintro e w7 ⟨fo, fn, fc, gg, u1, v1, x1', u2, v2, x2', rfl, f1, f2, _, _, _, k7⟩
       have kb := box_below w7 (.cells #[.slice fo fn fc, .slice (some ⟨gg, 0, none⟩) n n, .slice u1 v1 x1', .slice u2 v2 x2'] 40)
       have k8 := btw k7 kb k7.size
       have b8 := btw b6 k8 b6.size
       have s7 := k7.size
       have y1 := (k8.block w.heap.size (by omega)).trans q1
       have cbx := allocNew w7 (.cells #[.slice fo fn fc, .slice (some ⟨gg, 0, none⟩) n n, .slice u1 v1 x1', .slice u2 v2 x2'] 40)
       have ff := f1.rd.below kb (Nat.le_refl _)
       have fsl := f1.sl
       have fln := f1.rd.len
       have tf : ((fn : Int) == 0) = false := (by have : fs.length ≠ 0 := (fun e => hf (List.length_eq_zero_iff.1 e)); simp; omega)
       have hbn := begin_ok fo fn fc fs ys _ (f1.rd.below kb (Nat.le_refl _)) f1.sl hbe
       have AS := (f2.below kb).as n5
       clear x0 x1 im ir q1 q2 hone k7 kb f1 f2
       obtain ⟨x0, x1, _, _⟩ := box2 y1
       obtain ⟨i0, i1, _⟩ := box4 cbx)
    | (go_at_call 15; (with_reducible refine hbn.mono ?_); rintro e w9 ⟨jb, o, c', rfl, J0, k9⟩
       clear hbn))
  have gc : w7.heap.size < (w7.alloc (.cells #[.slice fo fn fc, .slice (some ⟨gg, 0, none⟩) n n, .slice u1 v1 x1', .slice u2 v2 x2'] 40)).heap.size := by simp
  have gw : w.heap.size < (w7.alloc (.cells #[.slice fo fn fc, .slice (some ⟨gg, 0, none⟩) n n, .slice u1 v1 x1', .slice u2 v2 x2'] 40)).heap.size := (Array.getElem?_eq_some_iff.1 y1).1
  generalize w7.alloc (.cells #[.slice fo fn fc, .slice (some ⟨gg, 0, none⟩) n n, .slice u1 v1 x1', .slice u2 v2 x2'] 40) = WB at *
  have K0 : Ji WB w9 jb o fn c' fs ys 0 := ⟨k9, _, _, _, _, _, J0⟩
  clear J0 k9 x0 x1 i0 i1
  go_loopw [11, 12] (fun a b V => (∃ q : Nat, q ≤ m ∧ a = .int .i64 0 ∧ b = .int .i64 (q : Nat) ∧ lF gE fs ys q = 0 ∧ Ji WB V jb o fn c' fs ys q) ∨ (a = .int .i64 E ∧ b = .int .i64 ((m : Nat) + 1 : Nat) ∧ Below WB.heap.size WB V)) (fun a b V => n + 1 - (intOf b).toNat)
  case atStart => exact .inl ⟨0, Nat.zero_le _, rfl, rfl, rfl, K0⟩
  case round =>
    rcases hrel with ⟨q, hqm, rfl, rfl, hlq, JI⟩ | ⟨rfl, rfl, bel⟩
    · have HK : Hid (lF gE fs ys q = 0) := hlq
      clear hlq K0
      obtain ⟨bel, co, cn, cc, go, gc', J⟩ := JI
      have bw := btw b8 bel b8.size
      obtain ⟨i0, i1, _⟩ := box4 ((bel.block w7.heap.size gc).trans cbx)
      obtain ⟨x0, x1, _, _⟩ := box2 ((bel.block w.heap.size gw).trans y1)
      have hq : q < n := by omega
      by_cases hlt : q < m
      · have hz := lF_all HL.out q hlt
        have HE : Hid (gE q = 0) := hz.1
        have HJ : Hid (jA fs ys q = 0) := hz.2
        clear hz
        obtain ⟨b', off, e', hl', hc⟩ := (AS.below bel (Nat.le_refl _)).cells n0
        cases e'
        obtain ⟨s', sn', sc', a', an', ac', a1, a2, a3, a4, a5, a6⟩ := hc q hq
        rw [Nat.zero_add] at a1 a2
        have t1 : decide ((q : Int) < (n : Int)) = true := by simp; omega
        have bq : (q : Int) < (n : Int) := by omega
        have wq : IntKind.i64.wrap ((q : Int) + 1) = (q : Int) + 1 := wrapIn _ (by omega)
        have hdo := HQ.out wr q s' a' sn' sc' an' ac' bw hq a3 a4 a5 a6
        clear hc
        rw [HE.out] at hdo
        go_wp2_with (first
          | (go_at_call 16; (with_reducible refine hdo.mono ?_); rintro e V1 ⟨o1, n1, c1, o2, n2, c2, rfl, g1, g2, d1⟩
             have kc := box_below V1 (.cells #[.slice o1 n1 c1, .slice o2 n2 c2] 36)
             have kb := btw d1 kc d1.size
             have J1 := J.below kb (Nat.le_refl _)
             have had := add_ok J1 o1 o2 n1 c1 n2 c2 (ys q).1 (ys q).2 (g1.rd.below kc (Nat.le_refl _)) g1.sl (g2.rd.below kc (Nat.le_refl _)) g2.sl HM.out (HC.out q HK.out) (by omega) HJ.out rfl (by have := bel.size; have := kb.size; omega)
             clear hdo)
          | (go_at_call 17; (with_reducible refine had.mono ?_); rintro e V2 ⟨co', cn', cc', go', gc'', rfl, J2, b2⟩))
        go_roundw
        case rel => exact .inl ⟨q + 1, by omega, rfl, by go_num, lF_on HK.out HE.out HJ.out, (btw bel kb bel.size).trans b2, _, _, _, _, _, J2⟩
        case measure => simp [intOf]; omega
      · obtain rfl : q = m := by omega
        obtain ⟨b', off, e', hl', hc⟩ := (AS.below bel (Nat.le_refl _)).cells n0
        cases e'
        obtain ⟨s', sn', sc', a', an', ac', a1, a2, a3, a4, a5, a6⟩ := hc q hq
        rw [Nat.zero_add] at a1 a2
        have t1 : decide ((q : Int) < (n : Int)) = true := by simp; omega
        have bq : (q : Int) < (n : Int) := by omega
        have wq : IntKind.i64.wrap ((q : Int) + 1) = (q : Int) + 1 := wrapIn _ (by omega)
        have hdo := HQ.out wr q s' a' sn' sc' an' ac' bw hq a3 a4 a5 a6
        clear hc
        rw [HG.out] at hdo
        go_wp2_with (first
          | (go_at_call 16; (with_reducible refine hdo.mono ?_); rintro e V1 ⟨o1, n1, c1, o2, n2, c2, rfl, g1, g2, d1⟩
             have kc := box_below V1 (.cells #[.slice o1 n1 c1, .slice o2 n2 c2] 36)
             have kb := btw d1 kc d1.size
             have J1 := J.below kb (Nat.le_refl _)
             have had := add_bad J1 o1 o2 n1 c1 n2 c2 (ys q).1 (ys q).2 (g1.rd.below kc (Nat.le_refl _)) g1.sl (g2.rd.below kc (Nat.le_refl _)) HM.out (HC.out q HK.out) (by omega) (by rw [HR.out]; exact HE0.out)
             rw [HR.out] at had
             clear hdo)
          | (go_at_call 17; (with_reducible refine had.mono ?_); rintro e V2 ⟨rfl, b2⟩
             have kb2 := btw kb b2 kb.size)
)
        go_roundw
        case rel => exact .inr ⟨rfl, by go_num, btw bel kb2 bel.size⟩
        case measure => simp [intOf]; omega
    · have bw := btw b8 bel b8.size
      clear K0
      obtain ⟨i0, i1, _⟩ := box4 ((bel.block w7.heap.size gc).trans cbx)
      obtain ⟨x0, x1, _, _⟩ := box2 ((bel.block w.heap.size gw).trans y1)
      have hmw := hmy wr bw
      have te0 : (E == 0) = false := by simpa using HE0.out
      have te1 : (E != 0) = true := by simpa using HE0.out
      go_wp2_with (first
        | (go_at_call 16; (with_reducible refine hmw.mono ?_); rintro e V1 ⟨o1, n1, c1, o2, n2, c2, rfl, g1, g2, d1⟩
           have kc := box_below V1 (.cells #[.slice o1 n1 c1, .slice o2 n2 c2] 36)
           have kb := btw d1 kc d1.size
           have bv := btw bw kb bw.size
           have X1 := bv_new (c1 := c1) (c2 := c2) g1.rd g2.rd
           obtain ⟨e0, e1⟩ := X1.c
           have XS := X1.s
           have XA := X1.a
           rw [HS.out.1] at XS
           rw [HS.out.2] at XA
           have heq := eqT9 _ _ _ _ _ _ c1 _ c2 _ 0 _ 0 [] [] XS XA (Rd.nil _) (Rd.nil _)
           clear hmw)
        | (go_at_call 18; (with_reducible refine heq.mono ?_); rintro e V3 ⟨rfl, d3⟩
           have by' := btw bv d3 bv.size
           clear heq))
      all_goals
        go_ret
        exact ⟨rfl, by'⟩
end Go.Proofs.YtelcagfaflpolaaGreat
