
/- Layer 4's calls whose answers the document fixes. -/

import Derived.Test.YtjllmfahmlfljaaD1
import Derived.Test.YtjllmfahmlfljaaE2

namespace Go.Proofs.Ytjllmfahmlfljaa

open Go.RowKit

set_option linter.unusedVariables false

set_option maxHeartbeats 2000000 in
theorem eqPieces_true (ao bo : Option Addr) (n ca cb A B : Nat) (p q : Nat → Int × Int) (w : World) (h : Pf w A ao n ca p) (g : Pf w B bo n cb q) (he : ∀ k, k < n → p k = q k) (hn : n ≤ 5000) :
    Calls Try.prog 40 #[.slice ao n ca, .slice bo n cb] w fun e w' => e = .returned (.bool true) ∧ ∃ m, w' = w.drewN m := by
  go_enter Try.func40, Try.ntmps40
  go_wp2
  go_loopw [5] (fun i wr => ∃ k : Nat, k ≤ n ∧ i = .int .i64 (k : Nat) ∧ ∃ m, wr = w.drewN m) (fun i _ => n - (intOf i).toNat)
  case atStart => exact ⟨0, Nat.zero_le _, rfl, 0, rfl⟩
  case round =>
    obtain ⟨k, hk, rfl, m, rfl⟩ := hrel
    by_cases hlt : k < n
    · obtain ⟨b, rfl, hc⟩ := h.cells (by omega)
      obtain ⟨b2, rfl, gc⟩ := g.cells (by omega)
      obtain ⟨a1, a2⟩ := hc k hlt
      obtain ⟨c1, c2⟩ := gc k hlt
      rw [← he k hlt] at c1 c2
      have t1 : decide ((k : Int) < (n : Int)) = true := by simp; omega
      have b1 : (k : Int) < (n : Int) := by omega
      have w1 : IntKind.i64.wrap ((k : Int) + 1) = (k : Int) + 1 := wrapIn _ (by omega)
      clear hc gc h g
      go_wp2
      go_quiet (fail)
      go_wp2
      go_roundw
      case rel => exact ⟨k + 1, by omega, by go_num, _, rfl⟩
      case measure => simp [intOf]; omega
    · obtain rfl : k = n := by omega
      go_wp2
      go_ret
      exact ⟨rfl, _, rfl⟩
end Go.Proofs.Ytjllmfahmlfljaa



namespace Go.Proofs.Ytjllmfahmlfljaa

open Go.RowKit

set_option linter.unusedVariables false

theorem num_small {zs : List Int} (h : ∀ k, k < zs.length → -9223372036854775808 ≤ nth zs k ∧ nth zs k ≤ 9223372036854775807) : ∀ k, k < zs.length → -9223372036854775808 ≤ nth zs k ∧ nth zs k ≤ 9223372036854775807 := h
theorem table_any (w : World) : Calls Try.prog 39 #[] w fun e w' => ∃ o1 o2, e = .returned (.agg #[.slice (some o1) 2 2, .slice (some o2) 6 6]) ∧ Rd w' (some o1) 2 [2, 3] ∧ Sl (some o1) 2 2 ∧ Rd w' (some o2) 6 [1, 2, 3, 4, 5, 6] ∧ Sl (some o2) 6 6 ∧ Below w.heap.size w w' := by
  go_enter Try.func39, Try.ntmps39
  go_wp2
  go_returns
  have f1 := ft_new 3 (w.alloc (.cells #[.slice (some ⟨w.heap.size + 1, 0, none⟩) 2 2, .slice (some ⟨w.heap.size + 1 + 1, 0, none⟩) 6 6] 25)) [2, 3] (by simp) (by decide)
  have f2 := ft_new 2 ((w.alloc (.cells #[.slice (some ⟨w.heap.size + 1, 0, none⟩) 2 2, .slice (some ⟨w.heap.size + 1 + 1, 0, none⟩) 6 6] 25)).alloc (.cells #[.int .i64 2, .int .i64 3] 3)) [1, 2, 3, 4, 5, 6] (by simp) (by decide)
  have f1' := f1.below (box_below _ (.cells #[.int .i64 1, .int .i64 2, .int .i64 3, .int .i64 4, .int .i64 5, .int .i64 6] 2)) (Nat.le_refl _)
  simp only [World.size_alloc] at f1' f2
  exact ⟨_, _, rfl, f1'.rd, f1'.sl, f2.rd, f2.sl, ((box_below w _).alloc (by simp) _).alloc (by simp; omega) _⟩

theorem c4_one (W : World) (so ao : Option Addr) (sc ac : Nat) (h : Rd W so 2 [2, 3]) (hs : Sl so 2 sc) (g : Rd W ao 6 [1, 2, 3, 4, 5, 6]) (gs : Sl ao 6 ac) :
    Calls Try.prog 10 #[.agg #[.slice so 2 sc, .slice ao 6 ac], .int .i64 1] W fun e w' => ∃ fo fn fc gg o1 n1 c1 o2 n2 c2 x0 y0 z0, e = .returned (.tuple #[.agg #[.slice fo fn fc, .slice (some ⟨gg, 0, none⟩) 2 2, .slice o1 n1 c1, .slice o2 n2 c2], .int .i64 0]) ∧ w'.cell? ⟨gg, 3, none⟩ = some (.slice x0 y0 z0) ∧ Rd w' x0 y0 [4, 5, 6] ∧ Below W.heap.size W w' := by
  refine (one_ok so ao 2 sc 6 ac [2, 3] [1, 2, 3, 4, 5, 6] 1 W h hs g gs (by decide) (by omega) (by omega)).mono fun e w' ⟨fo, fn, fc, gg, o1, n1, c1, o2, n2, c2, x1, x2, x3, x4, x5, x6, x7⟩ => ?_
  rw [show npl [2, 3] 1 = 2 by decide] at x1 x3
  obtain ⟨cur, hr, hl, hc⟩ := x3.row
  obtain ⟨p1, p2, p3, q1, q2, q3, a1, a2, a3, a4⟩ := hc 1 (by omega)
  rw [show (cls [2, 3] [1, 2, 3, 4, 5, 6] 1 1).2 = [4, 5, 6] by decide] at a4
  exact ⟨fo, fn, fc, gg, o1, n1, c1, o2, n2, c2, q1, q2, q3, x1, (cell_of_row w' gg 3 _ _ (0, 0) hr).trans (by simpa using a2), a4.rd, x7⟩

theorem c4_part (W : World) (so ao : Option Addr) (sc ac : Nat) (h : Rd W so 2 [2, 3]) (hs : Sl so 2 sc) (g : Rd W ao 6 [1, 2, 3, 4, 5, 6]) (gs : Sl ao 6 ac) :
    Calls Try.prog 21 #[.agg #[.slice so 2 sc, .slice ao 6 ac], .int .i64 1, .int .i64 1] W fun e w' => ∃ o1 n1 c1 o2 n2 c2, e = .returned (.tuple #[.agg #[.slice o1 n1 c1, .slice o2 n2 c2], .int .i64 0]) ∧ Rd w' o2 n2 [4, 5, 6] ∧ Below W.heap.size W w' := by
  refine (part_any so ao 2 sc 6 ac [2, 3] [1, 2, 3, 4, 5, 6] 1 1 W h hs g gs (by omega) (by omega) (by omega) (by omega)).mono fun e w' ⟨o1, n1, c1, o2, n2, c2, x1, x2, x3, x4⟩ => ?_
  rw [show prtE [2, 3] [1, 2, 3, 4, 5, 6] 1 1 = 0 by decide] at x1
  rw [show prtA [2, 3] [1, 2, 3, 4, 5, 6] 1 1 = [4, 5, 6] by decide] at x3
  exact ⟨o1, n1, c1, o2, n2, c2, x1, x3.rd, x4⟩

theorem c4_empty (W : World) (fo so ao : Option Addr) (fc sc ac : Nat) (hf : Rd W fo 1 [0]) (sf : Sl fo 1 fc) (h : Rd W so 2 [2, 3]) (hs : Sl so 2 sc) (g : Rd W ao 6 [1, 2, 3, 4, 5, 6]) :
    Calls Try.prog 13 #[.slice fo 1 fc, .agg #[.slice so 2 sc, .slice ao 6 ac], .bool false] W fun e w' => ∃ o1 n1 c1 o2 n2 c2, e = .returned (.tuple #[.agg #[.slice o1 n1 c1, .slice o2 n2 c2], .int .i64 0]) ∧ Rd w' o1 n1 [0] ∧ Rd w' o2 n2 [] ∧ Below W.heap.size W w' := by
  refine (empty_any fo 1 fc [0] so ao 2 sc 6 ac [2, 3] [1, 2, 3, 4, 5, 6] false W hf sf h hs g).mono fun e w' ⟨o1, n1, c1, o2, n2, c2, x1, x2, x3, x4⟩ => ?_
  rw [show empE [0] [2, 3] [1, 2, 3, 4, 5, 6] false = 0 by decide] at x1
  rw [show empS [0] [2, 3] [1, 2, 3, 4, 5, 6] false = [0] by decide] at x2
  exact ⟨o1, n1, c1, o2, n2, c2, x1, x2.rd, x3.rd, x4⟩

/-- The arrays 1, and 3 4. -/
def xsJ (k : Nat) : List Int × List Int := if k = 0 then ([], [1]) else ([2], [3, 4])
def xsT (k : Nat) : List Int × List Int := ([2, 3], [1, 2, 3, 4, 5, 6])
theorem c4_join (W : World) (fo ao : Option Addr) (fc ac : Nat) (hf : Rd W fo 1 [2]) (sf : Sl fo 1 fc) (ha : As W ao 2 xsJ) :
    Calls Try.prog 15 #[.slice fo 1 fc, .slice ao 2 ac] W fun e w' => ∃ o1 n1 c1 o2 n2 c2, e = .returned (.tuple #[.agg #[.slice o1 n1 c1, .slice o2 n2 c2], .int .i64 0]) ∧ Rd w' o2 n2 [1, 0, 3, 4] ∧ Below W.heap.size W w' := by
  refine (join_ok fo 1 fc [2] ao 2 ac xsJ W hf sf ha (by decide) (by decide) (by decide)).mono fun e w' ⟨o1, n1, c1, o2, n2, c2, x1, x2, x3, x4⟩ => ?_
  rw [show jnZ (cmn xsJ 2) (pr (cmn xsJ 2)).toNat xsJ (List.replicate (pr ([2] ++ cmn xsJ 2)).toNat 0) 2 = [1, 0, 3, 4] by decide] at x3
  exact ⟨o1, n1, c1, o2, n2, c2, x1, x3.rd, x4⟩
theorem c4_pieces (W : World) (so ao : Option Addr) (sc ac : Nat) (h : Rd W so 2 [2, 3]) (hs : Sl so 2 sc) (g : Rd W ao 6 [1, 2, 3, 4, 5, 6]) :
    Calls Try.prog 23 #[.agg #[.slice so 2 sc, .slice ao 6 ac], .int .i64 1] W fun e w' => ∃ po pc o1 n1 c1 o2 n2 c2, e = .returned (.tuple #[.slice po 2 pc, .agg #[.slice o1 n1 c1, .slice o2 n2 c2], .int .i64 0]) ∧ Pf w' W.heap.size po 2 pc (fun j => ((j : Int), 1)) ∧ Below W.heap.size W w' := by
  refine (pieces_any so ao 2 sc 6 ac [2, 3] [1, 2, 3, 4, 5, 6] 1 W h hs g (by omega) (by omega)).mono fun e w' ⟨K, p, po, pc, o1, n1, c1, o2, n2, c2, E, S, A, x1, x2, x3, x4, x5, x6⟩ => ?_
  rcases x6 with ⟨y, _⟩ | ⟨_, y, _⟩ | ⟨_, _, y, z⟩
  · exact absurd (by decide) y
  · omega
  · obtain ⟨e1, e2⟩ := y.pos (by omega)
    have e3 : K = 2 := by rw [e1]; decide
    subst e3 e2
    rcases z with ⟨_, rfl, _⟩ | ⟨z, _⟩
    · exact ⟨po, pc, o1, n1, c1, o2, n2, c2, x1, x2, x5⟩
    · omega
theorem pf_lit (V : World) : Pf (V.alloc (.cells #[.int .i64 0, .int .i64 1, .int .i64 1, .int .i64 1] 57)) V.heap.size (some ⟨V.heap.size, 0, none⟩) 2 2 (fun j => ((j : Int), 1)) :=
  ⟨by decide, .inr ⟨V.heap.size, 2, _, rfl, Nat.le_refl _, allocNew V _, Nat.le_refl _, by decide, rfl, rfl⟩⟩

theorem c4_begin (W : World) (fo : Option Addr) (fc : Nat) (hf : Rd W fo 1 [1]) (sf : Sl fo 1 fc) :
    Calls Try.prog 24 #[.slice fo 1 fc] W fun e w' => ∃ jb o c, e = .returned (.tuple #[.pointer (some ⟨jb, 0, none⟩), .int .i64 0]) ∧ Jn w' W.heap.size jb o 1 c none 0 0 none 0 [1] xsT 0 ∧ Below W.heap.size W w' :=
  begin_ok fo 1 fc [1] xsT W hf sf (by decide)
theorem c4_add {W : World} {B jb : Nat} {o : Option Addr} {c : Nat} (J : Jn W B jb o 1 c none 0 0 none 0 [1] xsT 0) (so ao : Option Addr) (sc ac : Nat) (h : Rd W so 2 [2, 3]) (hs : Sl so 2 sc) (g : Rd W ao 6 [1, 2, 3, 4, 5, 6]) (gs : Sl ao 6 ac) (hB : B ≤ W.heap.size) :
    Calls Try.prog 26 #[.pointer (some ⟨jb, 0, none⟩), .agg #[.slice so 2 sc, .slice ao 6 ac]] W fun e w' => ∃ co' cn' cc' go' gc', e = .returned (.int .i64 0) ∧ Jn w' B jb o 1 c co' cn' cc' go' gc' [1] xsT 1 ∧ Below B W w' :=
  add_ok J so ao 2 sc 6 ac [2, 3] [1, 2, 3, 4, 5, 6] h hs g gs (by decide) (fun e => absurd rfl e) (by omega) (by decide) rfl hB
theorem c4_done {W : World} {B jb : Nat} {o : Option Addr} {c : Nat} {co : Option Addr} {cn cc : Nat} {go : Option Addr} {gc : Nat} (J : Jn W B jb o 1 c co cn cc go gc [1] xsT 1) :
    Calls Try.prog 25 #[.pointer (some ⟨jb, 0, none⟩)] W fun e w' => ∃ o1 n1 c1 o2 n2 c2, e = .returned (.tuple #[.agg #[.slice o1 n1 c1, .slice o2 n2 c2], .int .i64 0]) ∧ Rd w' o1 n1 [1, 2, 3] ∧ Rd w' o2 n2 [1, 2, 3, 4, 5, 6] ∧ Below W.heap.size W w' := by
  refine (done_ok J (by decide) (by decide) (by omega) (by decide) (by decide) (fun j hj => show mayA [2, 3] [1, 2, 3, 4, 5, 6] = 0 by decide) (fun j hj => wn_self (by decide))).mono fun e w' ⟨o1, n1, c1, o2, n2, c2, x1, x2, x3, x4⟩ => ?_
  rw [show [1] ++ cmn xsT 1 = [1, 2, 3] by decide] at x2 x3
  rw [show jnZ (cmn xsT 1) (pr (cmn xsT 1)).toNat xsT (List.replicate (pr [1, 2, 3]).toNat 0) 1 = [1, 2, 3, 4, 5, 6] by decide] at x3
  exact ⟨o1, n1, c1, o2, n2, c2, x1, x2.rd, x3.rd, x4⟩

/-- The list of both arrays, just laid. -/
theorem as_lit (V : World) (b1 b2 b3 : Nat) (h1 : Rd V (some ⟨b1, 0, none⟩) 1 [1]) (s1 : Sl (some ⟨b1, 0, none⟩) 1 1) (h2 : Rd V (some ⟨b2, 0, none⟩) 1 [2]) (s2 : Sl (some ⟨b2, 0, none⟩) 1 1) (h3 : Rd V (some ⟨b3, 0, none⟩) 2 [3, 4]) (s3 : Sl (some ⟨b3, 0, none⟩) 2 2) :
    As (V.alloc (.cells #[.slice none 0 0, .slice (some ⟨b1, 0, none⟩) 1 1, .slice (some ⟨b2, 0, none⟩) 1 1, .slice (some ⟨b3, 0, none⟩) 2 2] 25)) (some ⟨V.heap.size, 0, none⟩) 2 xsJ := by
  have k := box_below V (.cells #[.slice none 0 0, .slice (some ⟨b1, 0, none⟩) 1 1, .slice (some ⟨b2, 0, none⟩) 1 1, .slice (some ⟨b3, 0, none⟩) 2 2] 25)
  have r := allocNew V (.cells #[.slice none 0 0, .slice (some ⟨b1, 0, none⟩) 1 1, .slice (some ⟨b2, 0, none⟩) 1 1, .slice (some ⟨b3, 0, none⟩) 2 2] 25)
  obtain ⟨c0, c1, c2, c3, _, _, _, _⟩ := box4 r
  refine ⟨by omega, fun _ => ⟨V.heap.size, 0, rfl, by simp, fun j hj => ?_⟩⟩
  rcases (show j = 0 ∨ j = 1 by omega) with rfl | rfl
  · exact ⟨_, _, _, _, _, _, c0, c1, Rd.nil _, ⟨fun _ => ⟨rfl, rfl⟩, Nat.le_refl _, by omega⟩, h1.below k (Nat.le_refl _), s1⟩
  · exact ⟨_, _, _, _, _, _, c2, c3, h2.below k (Nat.le_refl _), s2, h3.below k (Nat.le_refl _), s3⟩
end Go.Proofs.Ytjllmfahmlfljaa
