
/- A call of the law of layer 3. -/

import Derived.Test.YtkplfnajhinkiaaP4
import Derived.Lib.JoinLaws
import Derived.Test.YtkplfnajhinkiaaQ0



namespace Go.Proofs.Ytkplfnajhinkiaa

open Go.RowKit

set_option linter.unusedVariables false


theorem mk_ft (X : World) (B b c : Nat) (hb : b = X.heap.size) (hB : B ≤ X.heap.size) (hc : c ≤ 9000) : Ft 2 (X.alloc (.cells (madeCells #[.int .i64 0] c) 2)) B (some ⟨b, 0, none⟩) 0 c [] := by
  subst hb
  exact ⟨Rd.empty _ _, rfl, .inr ⟨X.heap.size, c, madeCells #[.int .i64 0] c, rfl, hB, allocNew _ _, Nat.zero_le _, by unfold maxLen; omega, by simp [madeCells], rfl⟩⟩
theorem grow_below {e : TypeId} {B : Nat} {W V V' : World} {ao : Option Addr} {n cap : Nat} {zs : List Int} (h : Below B W V) (f : Ft e V B ao n cap zs) (g : V.grownBy V' (Value.slice ao n cap).ownBlock) (hB : B ≤ V.heap.size) : Below B W V' :=
  ⟨g.os.trans h.os, g.tape.trans h.tape, g.output.trans h.output, Nat.le_trans h.size g.size, fun k hk => (g.block k (by omega) (fun e => by
    have := (f.rows k (by rw [own_slice] at e; exact e.symm)).1
    omega)).trans (h.block k hk)⟩
def sev : List Int := [-7, -7]
theorem ft_at {e : TypeId} {w : World} {B : Nat} {ao : Option Addr} {n cap : Nat} {zs : List Int} (h : Ft e w B ao (n + 2) cap zs) : ∃ g, ao = some ⟨g, 0, none⟩ := by
  rcases h.own.2 with ⟨e', _⟩ | ⟨g', c', cur, e', hB, hg', _⟩
  · cases e'
  · cases e'; exact ⟨g', rfl⟩
/-- The list that is handed in, and the two marks behind it. -/
structure Nz (V : World) (g n cap : Nat) (l : List Int) : Prop where
  rd : Rd V (some ⟨g, 0, none⟩) (n + 2) (l.take n ++ sev)
  hn : n ≤ l.length
  sl : Sl (some ⟨g, 0, none⟩) (n + 2) cap
theorem Nz.below {V V' : World} {g n cap : Nat} {l : List Int} (h : Nz V g n cap l) (k : Below V.heap.size V V') : Nz V' g n cap l := ⟨h.rd.below k (Nat.le_refl _), h.hn, h.sl⟩
theorem Nz.pre {V : World} {g n cap : Nat} {l : List Int} (h : Nz V g n cap l) : Rd V (some ⟨g, 0, none⟩) n (l.take n) := by
  have := h.rd.take n (by omega)
  have hl := h.hn
  rwa [List.take_append_of_le_length (by simp; omega), List.take_take, Nat.min_self] at this
theorem Nz.at {V : World} {g n cap : Nat} {l : List Int} (h : Nz V g n cap l) : V.cell? ⟨g, n, none⟩ = some (.int .i64 (-7)) ∧ V.cell? ⟨g, n + 1, none⟩ = some (.int .i64 (-7)) := by
  obtain ⟨b, off, e, hb, hc⟩ := h.rd.cells (by omega)
  cases e
  have hl := h.hn
  have c1 := hc n (by omega)
  have c2 := hc (n + 1) (by omega)
  rw [Nat.zero_add] at c1 c2
  rw [c1, c2]
  simp [nth, sev, hl]
theorem Nz.ps {V : World} {g n cap : Nat} {l : List Int} (h : Nz V g n cap l) : Sl (some ⟨g, 0, none⟩) n cap := ⟨fun e => (by cases e), (by have := h.sl.le; omega), h.sl.max⟩
theorem cellB {X V : World} (k : Below X.heap.size X V) {p : Addr} {v : Value} (h : X.cell? p = some v) : V.cell? p = some v := (k.cell (World.block_lt_of_cell? X _ h)).trans h
theorem sev_ft (X : World) (b : Nat) (hb : b = X.heap.size) : Ft 2 (X.alloc (.cells #[.int .i64 (-7), .int .i64 (-7)] 2)) X.heap.size (some ⟨b, 0, none⟩) 2 2 sev := by
  subst hb
  exact ft_new 2 X [-7, -7] (by simp) (by decide)
set_option maxHeartbeats 20000000 in
set_option maxRecDepth 20000 in
theorem plays_List (hb gb B : Nat) (K N I : Int) (so : Option Addr) (sn sc : Nat) (ao : Option Addr) (an ac : Nat) (uo : Option Addr) (tn tc : Nat) (bo : Option Addr) (bn bc : Nat) (lo : Option Addr) (ln lc : Nat) (s a t b l : List Int) (go0 go1 ho0 ho1 : Option Addr) (n0 n1 m0 m1 : Nat) (w : World) (rs : Rd w so sn s) (ra : Rd w ao an a) (rt : Rd w uo tn t) (rb : Rd w bo bn b) (rl : Rd w lo ln l) (ls : (0 < sn → ∀ b off, so = some ⟨b, off, none⟩ → b < B)) (la : (0 < an → ∀ b off, ao = some ⟨b, off, none⟩ → b < B)) (lt : (0 < tn → ∀ b off, uo = some ⟨b, off, none⟩ → b < B)) (lb : (0 < bn → ∀ b off, bo = some ⟨b, off, none⟩ → b < B)) (ll : (0 < ln → ∀ b off, lo = some ⟨b, off, none⟩ → b < B)) (hB : B ≤ w.heap.size) (h : Hx w B hb go0 n0 go1 n1) (g : Hx w B gb ho0 m0 ho1 m1) (d : Dis hb gb go0 go1 ho0 ho1) (ss : Sl so sn sc) (sa : Sl ao an ac) (st : Sl uo tn tc) (sb : Sl bo bn bc) (sl : Sl lo ln lc) (hk : K = 3) :
    Calls Try.prog 19 #[.agg #[.int .i64 K, .slice so sn sc, .slice ao an ac, .slice uo tn tc, .slice bo bn bc, .int .i64 N, .int .i64 I, .slice lo ln lc], .pointer (some ⟨hb, 0, none⟩), .pointer (some ⟨gb, 0, none⟩)] w fun e w' => e = .returned (.bool true) ∧ ∃ r0 r1 q0 q1, (∃ m0 m1, Hx w' B hb r0 m0 r1 m1) ∧ (∃ m0 m1, Hx w' B gb q0 m0 q1 m1) ∧ Dis hb gb r0 r1 q0 q1 ∧ Below B w w' := by
  have bb := box_below w (.cells #[.int .i64 K, .slice so sn sc, .slice ao an ac, .slice uo tn tc, .slice bo bn bc, .int .i64 N, .int .i64 I, .slice lo ln lc] 57)
  have A0 : Ar (w.alloc (.cells #[.int .i64 K, .slice so sn sc, .slice ao an ac, .slice uo tn tc, .slice bo bn bc, .int .i64 N, .int .i64 I, .slice lo ln lc] 57)) B w.heap.size K N I so sn sc ao an ac uo tn tc bo bn bc lo ln lc s a t b l := ⟨allocNew _ _, rs.below bb (Nat.le_refl _), ra.below bb (Nat.le_refl _), rt.below bb (Nat.le_refl _), rb.below bb (Nat.le_refl _), rl.below bb (Nat.le_refl _), ls, la, lt, lb, ll, Nat.le_trans hB bb.size⟩
  have h0 : Hx (w.alloc (.cells #[.int .i64 K, .slice so sn sc, .slice ao an ac, .slice uo tn tc, .slice bo bn bc, .int .i64 N, .int .i64 I, .slice lo ln lc] 57)) B hb go0 n0 go1 n1 := h.kept (S := fun _ => False) (Kp.ofBelow bb) (fun _ e => e.elim)
  have g0 : Hx (w.alloc (.cells #[.int .i64 K, .slice so sn sc, .slice ao an ac, .slice uo tn tc, .slice bo bn bc, .int .i64 N, .int .i64 I, .slice lo ln lc] 57)) B gb ho0 m0 ho1 m1 := g.kept (S := fun _ => False) (Kp.ofBelow bb) (fun _ e => e.elim)
  have c1 := call_lay1 A0 h0 g0 d ss sa
  have B0 := A0.szB
  have bw : Below B w (w.alloc (.cells #[.int .i64 K, .slice so sn sc, .slice ao an ac, .slice uo tn tc, .slice bo bn bc, .int .i64 N, .int .i64 I, .slice lo ln lc] 57)) := ⟨bb.os, bb.tape, bb.output, bb.size, fun j hj => bb.block j (by omega)⟩
  clear A0 h0 g0 h g rs ra rt rb rl ls la lt lb ll
  have t1 : (K == 1) = false := by simp; omega
  have t2 : (K == 2) = false := by simp; omega
  have t3 : (K == 3) = true := by simp; omega
  have t4 : (K == 4) = false := by simp; omega
  have t5 : (K == 5) = false := by simp; omega
  have t6 : (K == 6) = false := by simp; omega
  have t7 : (K == 7) = false := by simp; omega
  have t8 : (K == 8) = false := by simp; omega
  clear hk
  go_enter Try.func19, Try.ntmps19
  go_wp2_with (first
    | (go_at_call 69; (with_reducible refine c1.mono ?_); rintro e w1 ⟨xo, xc, yo, yc, r0, r1, rfl, T1⟩; have T1' := T1.below B0 (box_below w1 (.cells #[.slice xo sn xc, .slice yo an yc] 55)); obtain ⟨_, _, _, z3, z4, _, _, _⟩ := box8 T1'.ar.op; have c2 := call_lay2 T1' (allocNew w1 (.cells #[.slice xo sn xc, .slice yo an yc] 55)) st sb; clear T1 T1')
    | (go_at_call 69; (with_reducible refine c2.mono ?_); rintro e w2 ⟨zo, zc, vo, vc, q0, q1, rfl, F2, A2⟩; obtain ⟨P, bP⟩ := F2 w2.heap.size _ (box_below w2 (.cells #[.slice zo tn zc, .slice vo bn vc] 55)) (allocNew w2 (.cells #[.slice zo tn zc, .slice vo bn vc] 55)); obtain ⟨k0, k1, k2, k3, k4, k5, k6, k7, k8, k9, k10, k11, _⟩ := P.all; have M : Pm (w.alloc (.cells #[.int .i64 K, .slice so sn sc, .slice ao an ac, .slice uo tn tc, .slice bo bn bc, .int .i64 N, .int .i64 I, .slice lo ln lc] 57)) (w1.alloc (.cells #[.slice xo sn xc, .slice yo an yc] 55)) (w2.alloc (.cells #[.slice zo tn zc, .slice vo bn vc] 55)) B hb gb w.heap.size w1.heap.size w2.heap.size K N I so sn sc ao an ac uo tn tc bo bn bc lo ln lc s a t b l go0 go1 ho0 ho1 xo xc yo yc zo zc vo vc r0 r1 q0 q1 := ⟨P, bP⟩; clear F2 A2)
    | fail)
  · obtain ⟨n, hn, nl, n5, n4⟩ : ∃ n : Nat, (5000 : Int) = (n : Int) ∧ n ≤ ln ∧ n ≤ 5000 ∧ 4096 < n := ⟨5000, rfl, by omega, by omega, by omega⟩
    rw [hn]
    clear hn
    have wn : IntKind.i64.wrap ((n : Int) + 9) = (n : Int) + 9 := wrapIn _ (by omega)
    have nlc := sl.le
    have i0 : (0 : Int) ≤ (n : Int) := by omega
    have i1 : (n : Int) ≤ (lc : Int) := by omega
    have hmk : ∀ X : World, (Instr.makeSlice 50 (.int .i64 0) (.int .i64 ((n : Int) + 9))).run Try.prog X = .ok (.slice (some ⟨X.heap.size, 0, none⟩) 0 (n + 9)) (X.alloc (.cells (madeCells #[.int .i64 0] (n + 9)) 2)) := fun X => by
      have := run_make_room (P := Try.prog) 50 2 (.int .i64 0) 8 Try.underlying50 infoL3 rfl .i64 .i64 (n + 9) (by omega) (by omega) X
      simpa using this
    obtain ⟨W, hW⟩ : ∃ W, W = w2.alloc (.cells #[.slice zo tn zc, .slice vo bn vc] 55) := ⟨_, rfl⟩
    obtain ⟨pb, hpb⟩ : ∃ pb, pb = w2.heap.size := ⟨_, rfl⟩
    rw [← hW, ← hpb] at M
    rw [← hW] at k0 k1 k2 k3 k4 k5 k6 k7 k8 k9
    rw [← hW, ← hpb] at k10 k11
    rw [← hW, ← hpb]
    clear hW hpb P bP c1 c2
    have bA : Below W.heap.size W (W.drew.alloc (.cells (madeCells #[.int .i64 0] (n + 9)) 2)) := (Below.refl _ W).drew.alloc (Nat.le_refl _) _
    have bB : Below W.heap.size W ((W.drew.alloc (.cells (madeCells #[.int .i64 0] (n + 9)) 2)).alloc (.cells #[.int .i64 (-7), .int .i64 (-7)] 2)) := bA.alloc (by simp) _
    have bL : Below W.heap.size W (W.drew.alloc (.cells #[.int .i64 (-7), .int .i64 (-7)] 2)) := (Below.refl _ W).drew.alloc (Nat.le_refl _) _
    have bC : Below W.heap.size W ((W.drew.alloc (.cells #[.int .i64 (-7), .int .i64 (-7)] 2)).alloc (.cells (madeCells #[.int .i64 0] (n + 9)) 2)) := bL.alloc (by simp) _
    have fA : Ft 2 (W.drew.alloc (.cells (madeCells #[.int .i64 0] (n + 9)) 2)) W.heap.size (some ⟨W.heap.size, 0, none⟩) 0 (n + 9) [] := mk_ft W.drew _ _ _ (by simp) (by simp) (by omega)
    have fB := fA.below (box_below (W.drew.alloc (.cells (madeCells #[.int .i64 0] (n + 9)) 2)) (.cells #[.int .i64 (-7), .int .i64 (-7)] 2)) (Nat.le_refl _)
    have fC : Ft 2 ((W.drew.alloc (.cells #[.int .i64 (-7), .int .i64 (-7)] 2)).alloc (.cells (madeCells #[.int .i64 0] (n + 9)) 2)) W.heap.size (some ⟨W.heap.size + 1, 0, none⟩) 0 (n + 9) [] := mk_ft (W.drew.alloc (.cells #[.int .i64 (-7), .int .i64 (-7)] 2)) _ _ _ (by simp) (by simp) (by omega)
    have MA := M.below bA
    have MB := M.below bB
    have ML0 := M.below bL
    have MC := M.below bC
    have MD := M.drew
    have gB : Rd ((W.drew.alloc (.cells (madeCells #[.int .i64 0] (n + 9)) 2)).alloc (.cells #[.int .i64 (-7), .int .i64 (-7)] 2)) (some ⟨W.heap.size + 1, 0, none⟩) 2 sev := (sev_ft (W.drew.alloc (.cells (madeCells #[.int .i64 0] (n + 9)) 2)) _ (by simp)).rd
    have gC : Rd ((W.drew.alloc (.cells #[.int .i64 (-7), .int .i64 (-7)] 2)).alloc (.cells (madeCells #[.int .i64 0] (n + 9)) 2)) (some ⟨W.heap.size, 0, none⟩) 2 sev := (sev_ft W.drew _ (by simp)).rd.below (box_below _ _) (Nat.le_refl _)
    have slt : Sl lo n lc := ⟨fun e => by have := sl.nil e; exact ⟨by omega, this.2⟩, by omega, sl.max⟩
    go_cut [11] (fun s11 V => ∃ g9 c9, s11 = .slice (some ⟨g9, 0, none⟩) (n + 2) c9 ∧ Nz V g9 n c9 l ∧ Pm (w.alloc (.cells #[.int .i64 K, .slice so sn sc, .slice ao an ac, .slice uo tn tc, .slice bo bn bc, .int .i64 N, .int .i64 I, .slice lo ln lc] 57)) (w1.alloc (.cells #[.slice xo sn xc, .slice yo an yc] 55)) V B hb gb w.heap.size w1.heap.size pb K N I so sn sc ao an ac uo tn tc bo bn bc lo ln lc s a t b l go0 go1 ho0 ho1 xo xc yo yc zo zc vo vc r0 r1 q0 q1)
    case first =>
      go_region_held3 (fun V => V.cell? ⟨w.heap.size, 0, none⟩ = some (.int .i64 K) ∧ V.cell? ⟨w.heap.size, 1, none⟩ = some (.slice so sn sc) ∧ V.cell? ⟨w.heap.size, 2, none⟩ = some (.slice ao an ac) ∧ V.cell? ⟨w.heap.size, 3, none⟩ = some (.slice uo tn tc) ∧ V.cell? ⟨w.heap.size, 4, none⟩ = some (.slice bo bn bc) ∧ V.cell? ⟨w.heap.size, 5, none⟩ = some (.int .i64 N) ∧ V.cell? ⟨w.heap.size, 6, none⟩ = some (.int .i64 I) ∧ V.cell? ⟨w.heap.size, 7, none⟩ = some (.slice lo ln lc) ∧ V.cell? ⟨w1.heap.size, 0, none⟩ = some (.slice xo sn xc) ∧ V.cell? ⟨w1.heap.size, 1, none⟩ = some (.slice yo an yc) ∧ V.cell? ⟨pb, 0, none⟩ = some (.slice zo tn zc) ∧ V.cell? ⟨pb, 1, none⟩ = some (.slice vo bn vc) ∧ Pm (w.alloc (.cells #[.int .i64 K, .slice so sn sc, .slice ao an ac, .slice uo tn tc, .slice bo bn bc, .int .i64 N, .int .i64 I, .slice lo ln lc] 57)) (w1.alloc (.cells #[.slice xo sn xc, .slice yo an yc] 55)) V B hb gb w.heap.size w1.heap.size pb K N I so sn sc ao an ac uo tn tc bo bn bc lo ln lc s a t b l go0 go1 ho0 ho1 xo xc yo yc zo zc vo vc r0 r1 q0 q1) (first | exact Pm.all (by assumption) | exact Pm.all (Pm.below (by assumption) (box_below _ _)))
        (first
          | (refine step_joinW tyL rfl (.tmp 61) (.tmp 65) rfl W.heap.size n _ _ _ _ _ _ [] (l.take n) (Nat.zero_add _) rfl rfl fA (MA.p.ar.rl.take n nl) slt (by omega) bA.size ?_; intro co7 c7 w7 f7 gr7 ow7; rw [List.nil_append] at f7; have b7 := grow_below bA fA gr7 bA.size; have M7 := M.below b7; clear ow7)
          | (refine step_joinW tyL rfl (.tmp 61) (.tmp 65) rfl W.heap.size n _ _ _ _ _ _ [] (l.take n) (Nat.zero_add _) rfl rfl fB (MB.p.ar.rl.take n nl) slt (by omega) bB.size ?_; intro co7 c7 w7 f7 gr7 ow7; rw [List.nil_append] at f7; have b7 := grow_below bB fB gr7 bB.size; have M7 := M.below b7; have g7 := gB.keep1 gr7 (fun b off hb hc => by cases hb; rw [own_slice] at hc; have h2 : W.heap.size + 1 = W.heap.size := Option.some.inj hc; omega); clear ow7)
          | (refine step_joinW tyL rfl (.tmp 61) (.tmp 65) rfl W.heap.size n _ _ _ _ _ _ [] (l.take n) (Nat.zero_add _) rfl rfl fC (MC.p.ar.rl.take n nl) slt (by omega) bC.size ?_; intro co7 c7 w7 f7 gr7 ow7; rw [List.nil_append] at f7; have b7 := grow_below bC fC gr7 bC.size; have M7 := M.below b7; have g7 := gC.keep1 gr7 (fun b off hb hc => by cases hb; rw [own_slice] at hc; have h2 : W.heap.size = W.heap.size + 1 := Option.some.inj hc; omega); clear ow7)
          | (refine step_joinW tyL rfl (.tmp 66) (.tmp 67) rfl W.heap.size (n + 2) _ _ _ _ _ _ (l.take n) sev rfl rfl rfl f7 g7 (lit_sl _) (by omega) b7.size ?_; intro co9 c9 w9 f9 gr9 ow9; have b9 := grow_below b7 f7 gr9 b7.size; have M9 := M.below b9; clear ow9)
          | (refine step_joinW tyL rfl (.tmp 66) (.tmp 67) rfl W.heap.size (n + 2) _ _ _ _ _ _ (l.take n) sev rfl rfl rfl (f7.below (box_below w7 (.cells #[.int .i64 (-7), .int .i64 (-7)] 2)) (Nat.le_refl _)) (sev_ft w7 _ rfl).rd (lit_sl _) (by omega) (Nat.le_trans b7.size (box_below w7 (.cells #[.int .i64 (-7), .int .i64 (-7)] 2)).size) ?_; intro co9 c9 w9 f9 gr9 ow9; have b9 := grow_below (below_to b7 (box_below w7 (.cells #[.int .i64 (-7), .int .i64 (-7)] 2)) (Nat.le_refl _)) (f7.below (box_below w7 (.cells #[.int .i64 (-7), .int .i64 (-7)] 2)) (Nat.le_refl _)) gr9 (Nat.le_trans b7.size (box_below w7 (.cells #[.int .i64 (-7), .int .i64 (-7)] 2)).size); have M9 := M.below b9; clear ow9))
      all_goals
        rename_i TL
        go_wp2
        go_meet
        case rel =>
          obtain ⟨k0, k1, k2, k3, k4, k5, k6, k7, k8, k9, k10, k11, M⟩ := TL
          obtain ⟨g9, hg9⟩ := ft_at f9
          subst hg9
          exact ⟨g9, c9, rfl, ⟨f9.rd, by rw [M.p.ar.rl.len]; exact nl, f9.sl⟩, M⟩
    case rest =>
      clear bA bB bL bC fA fB fC MA MB ML0 MC MD gB gC hmk k0 k1 k2 k3 k4 k5 k6 k7 k8 k9 k10 k11 M wn
      obtain ⟨g9, c9, rfl, Z, M⟩ := hcut
      obtain ⟨k0, k1, k2, k3, k4, k5, k6, k7, k8, k9, k10, k11, _⟩ := M.all
      have wn1 : IntKind.i64.wrap ((n : Int) + 1) = (n : Int) + 1 := wrapIn _ (by omega)
      have zle := Z.sl.le
      have j0 : (n : Int) ≤ (c9 : Int) := by omega
      have j1 : (n : Int) < (n : Int) + 2 := by omega
      have j2 : (n : Int) + 1 < (n : Int) + 2 := by omega
      have j3 : (0 : Int) ≤ (n : Int) + 1 := by omega
      have j4 : (n : Int) + 1 < ((n + 2 : Nat) : Int) := by omega
      have j5 : ((n : Int) + 1).toNat = n + 1 := by omega
      · go_wp2_with (first
          | (go_at_call 62; (with_reducible refine (list_long (some ⟨g9, 0, none⟩) n c9 _ (by omega) (by omega)).mono ?_); rintro e w5 ⟨rfl, b5⟩; have a5 := box_below w5 (.cells #[.slice none 0 0, .slice none 0 0] 55); have M5 := (M.below b5).below a5; have Z5 := (Z.below b5).below a5; have x5 := allocNew w5 (.cells #[.slice none 0 0, .slice none 0 0] 55); clear k0 k1 k2 k3 k4 k5 k6 k7 k8 k9 k10 k11; obtain ⟨k0, k1, k2, k3, k4, k5, k6, k7, k8, k9, k10, k11, _⟩ :=  M5.all)
          | (go_at_call 72; (with_reducible refine (refList_long lo n lc _ (by omega) (by omega)).mono ?_); rintro e w6 ⟨rfl, b6⟩; have a6 := box_below w6 (.cells #[.slice none 0 0, .slice none 0 0] 55); have M6 := (M5.below b6).below a6; have Z6 := (Z5.below b6).below a6; have lx := (Array.getElem?_eq_some_iff.1 x5).1; have x6 := (a6.block _ (Nat.lt_of_lt_of_le lx b6.size)).trans ((b6.block _ lx).trans x5); have y6 := allocNew w6 (.cells #[.slice none 0 0, .slice none 0 0] 55); clear lx x5; clear k0 k1 k2 k3 k4 k5 k6 k7 k8 k9 k10 k11; obtain ⟨k0, k1, k2, k3, k4, k5, k6, k7, k8, k9, k10, k11, _⟩ :=  M6.all; obtain ⟨xx0, xx1, _, _⟩ := box2 x6; obtain ⟨yy0, yy1, _, _⟩ := box2 y6; obtain ⟨z0, z1⟩ := Z6.at)
          | fail)
        have al : ∀ V, Below (w6.alloc (.cells #[.slice none 0 0, .slice none 0 0] 55)).heap.size (w6.alloc (.cells #[.slice none 0 0, .slice none 0 0] 55)) V → (V.cell? ⟨w5.heap.size, 0, none⟩ = some (.slice none 0 0) ∧ V.cell? ⟨w5.heap.size, 1, none⟩ = some (.slice none 0 0) ∧ V.cell? ⟨w6.heap.size, 0, none⟩ = some (.slice none 0 0) ∧ V.cell? ⟨w6.heap.size, 1, none⟩ = some (.slice none 0 0) ∧ (V.cell? ⟨g9, n, none⟩ = some (.int .i64 (-7))) ∧ V.cell? ⟨g9, n + 1, none⟩ = some (.int .i64 (-7)) ∧ V.cell? ⟨w.heap.size, 7, none⟩ = some (.slice lo ln lc) ∧ Below (w6.alloc (.cells #[.slice none 0 0, .slice none 0 0] 55)).heap.size (w6.alloc (.cells #[.slice none 0 0, .slice none 0 0] 55)) V) := fun V k => ⟨cellB k xx0, cellB k xx1, cellB k yy0, cellB k yy1, cellB k z0, cellB k z1, cellB k k7, k⟩
        have e1 : ∀ V, (V.cell? ⟨w5.heap.size, 0, none⟩ = some (.slice none 0 0) ∧ V.cell? ⟨w5.heap.size, 1, none⟩ = some (.slice none 0 0) ∧ V.cell? ⟨w6.heap.size, 0, none⟩ = some (.slice none 0 0) ∧ V.cell? ⟨w6.heap.size, 1, none⟩ = some (.slice none 0 0) ∧ (V.cell? ⟨g9, n, none⟩ = some (.int .i64 (-7))) ∧ V.cell? ⟨g9, n + 1, none⟩ = some (.int .i64 (-7)) ∧ V.cell? ⟨w.heap.size, 7, none⟩ = some (.slice lo ln lc) ∧ Below (w6.alloc (.cells #[.slice none 0 0, .slice none 0 0] 55)).heap.size (w6.alloc (.cells #[.slice none 0 0, .slice none 0 0] 55)) V) → Calls Try.prog 25 #[.agg #[.slice none 0 0, .slice none 0 0], .agg #[.slice none 0 0, .slice none 0 0]] V fun e w' => e = .returned (.bool true) ∧ Below (w6.alloc (.cells #[.slice none 0 0, .slice none 0 0] 55)).heap.size (w6.alloc (.cells #[.slice none 0 0, .slice none 0 0] 55)) w' := fun V h => (eq_same V none none none none 0 0 0 0 0 0 0 0 [] [] (Rd.nil _) (Rd.nil _) (Rd.nil _) (Rd.nil _)).mono fun e w' ⟨h1, h2⟩ => ⟨h1, below_to h.2.2.2.2.2.2.2 h2 (Nat.le_refl _)⟩
        have e2 : ∀ V, (V.cell? ⟨w5.heap.size, 0, none⟩ = some (.slice none 0 0) ∧ V.cell? ⟨w5.heap.size, 1, none⟩ = some (.slice none 0 0) ∧ V.cell? ⟨w6.heap.size, 0, none⟩ = some (.slice none 0 0) ∧ V.cell? ⟨w6.heap.size, 1, none⟩ = some (.slice none 0 0) ∧ (V.cell? ⟨g9, n, none⟩ = some (.int .i64 (-7))) ∧ V.cell? ⟨g9, n + 1, none⟩ = some (.int .i64 (-7)) ∧ V.cell? ⟨w.heap.size, 7, none⟩ = some (.slice lo ln lc) ∧ Below (w6.alloc (.cells #[.slice none 0 0, .slice none 0 0] 55)).heap.size (w6.alloc (.cells #[.slice none 0 0, .slice none 0 0] 55)) V) → Calls Try.prog 25 #[.agg #[.slice none 0 0, .slice (some ⟨g9, 0, none⟩) n c9], .agg #[.slice none 0 0, .slice lo n lc]] V fun e w' => e = .returned (.bool true) ∧ Below (w6.alloc (.cells #[.slice none 0 0, .slice none 0 0] 55)).heap.size (w6.alloc (.cells #[.slice none 0 0, .slice none 0 0] 55)) w' := fun V h => (eq_same V none (some ⟨g9, 0, none⟩) none lo 0 0 n c9 0 0 n lc [] (l.take n) (Rd.nil _) (Z6.pre.below h.2.2.2.2.2.2.2 (Nat.le_refl _)) (Rd.nil _) ((M6.p.ar.rl.take n nl).below h.2.2.2.2.2.2.2 (Nat.le_refl _))).mono fun e w' ⟨h1, h2⟩ => ⟨h1, below_to h.2.2.2.2.2.2.2 h2 (Nat.le_refl _)⟩
        go_region_held3 (fun V => V.cell? ⟨w5.heap.size, 0, none⟩ = some (.slice none 0 0) ∧ V.cell? ⟨w5.heap.size, 1, none⟩ = some (.slice none 0 0) ∧ V.cell? ⟨w6.heap.size, 0, none⟩ = some (.slice none 0 0) ∧ V.cell? ⟨w6.heap.size, 1, none⟩ = some (.slice none 0 0) ∧ (V.cell? ⟨g9, n, none⟩ = some (.int .i64 (-7))) ∧ V.cell? ⟨g9, n + 1, none⟩ = some (.int .i64 (-7)) ∧ V.cell? ⟨w.heap.size, 7, none⟩ = some (.slice lo ln lc) ∧ Below (w6.alloc (.cells #[.slice none 0 0, .slice none 0 0] 55)).heap.size (w6.alloc (.cells #[.slice none 0 0, .slice none 0 0] 55)) V) (first | exact al _ (by assumption) | exact al _ (Below.refl _ _) | exact al _ (Below.refl _ _).drew)
          (first
            | (go_at_call 25; (with_reducible refine (e1 _ (by assumption)).mono ?_); rintro e w7 ⟨rfl, b7⟩)
            | (go_at_call 25; (with_reducible refine (e2 _ (by assumption)).mono ?_); rintro e w8 ⟨rfl, b8⟩))
        all_goals
          rename_i TL
          have M8 := M6.below TL.2.2.2.2.2.2.2
          have P := M8.p
          have bP := M8.bl
          clear k0 k1 k2 k3 k4 k5 k6 k7 k8 k9 k10 k11
          obtain ⟨k0, k1, k2, k3, k4, k5, k6, k7, k8, k9, k10, k11, _⟩ :=  M8.all
          go_wp2_with (first
            | (go_at_call 79; (with_reducible refine (call_kept1 P).mono ?_); rintro e w3 ⟨rfl, T3, b3⟩; obtain ⟨y0, y1, y2, y3, y4, _, _, _⟩ := box8 T3.ar.op)
            | (go_at_call 79; (with_reducible refine (call_kept2 T3).mono ?_); rintro e w4 ⟨rfl, hx, gx, dx, b4⟩)
            | fail)
          go_returns
          exact ⟨rfl, _, _, _, _, hx, gx, dx, below_tr bw (below_tr bP (below_tr b3 b4))⟩
  · obtain ⟨n, hn, nl, n5⟩ : ∃ n : Nat, (ln : Int) = (n : Int) ∧ n ≤ ln ∧ n ≤ 5000 := ⟨ln, rfl, by omega, by omega⟩
    rw [hn]
    clear hn
    have wn : IntKind.i64.wrap ((n : Int) + 9) = (n : Int) + 9 := wrapIn _ (by omega)
    have nlc := sl.le
    have i0 : (0 : Int) ≤ (n : Int) := by omega
    have i1 : (n : Int) ≤ (lc : Int) := by omega
    have hmk : ∀ X : World, (Instr.makeSlice 50 (.int .i64 0) (.int .i64 ((n : Int) + 9))).run Try.prog X = .ok (.slice (some ⟨X.heap.size, 0, none⟩) 0 (n + 9)) (X.alloc (.cells (madeCells #[.int .i64 0] (n + 9)) 2)) := fun X => by
      have := run_make_room (P := Try.prog) 50 2 (.int .i64 0) 8 Try.underlying50 infoL3 rfl .i64 .i64 (n + 9) (by omega) (by omega) X
      simpa using this
    obtain ⟨W, hW⟩ : ∃ W, W = w2.alloc (.cells #[.slice zo tn zc, .slice vo bn vc] 55) := ⟨_, rfl⟩
    obtain ⟨pb, hpb⟩ : ∃ pb, pb = w2.heap.size := ⟨_, rfl⟩
    rw [← hW, ← hpb] at M
    rw [← hW] at k0 k1 k2 k3 k4 k5 k6 k7 k8 k9
    rw [← hW, ← hpb] at k10 k11
    rw [← hW, ← hpb]
    clear hW hpb P bP c1 c2
    have bA : Below W.heap.size W (W.drew.alloc (.cells (madeCells #[.int .i64 0] (n + 9)) 2)) := (Below.refl _ W).drew.alloc (Nat.le_refl _) _
    have bB : Below W.heap.size W ((W.drew.alloc (.cells (madeCells #[.int .i64 0] (n + 9)) 2)).alloc (.cells #[.int .i64 (-7), .int .i64 (-7)] 2)) := bA.alloc (by simp) _
    have bL : Below W.heap.size W (W.drew.alloc (.cells #[.int .i64 (-7), .int .i64 (-7)] 2)) := (Below.refl _ W).drew.alloc (Nat.le_refl _) _
    have bC : Below W.heap.size W ((W.drew.alloc (.cells #[.int .i64 (-7), .int .i64 (-7)] 2)).alloc (.cells (madeCells #[.int .i64 0] (n + 9)) 2)) := bL.alloc (by simp) _
    have fA : Ft 2 (W.drew.alloc (.cells (madeCells #[.int .i64 0] (n + 9)) 2)) W.heap.size (some ⟨W.heap.size, 0, none⟩) 0 (n + 9) [] := mk_ft W.drew _ _ _ (by simp) (by simp) (by omega)
    have fB := fA.below (box_below (W.drew.alloc (.cells (madeCells #[.int .i64 0] (n + 9)) 2)) (.cells #[.int .i64 (-7), .int .i64 (-7)] 2)) (Nat.le_refl _)
    have fC : Ft 2 ((W.drew.alloc (.cells #[.int .i64 (-7), .int .i64 (-7)] 2)).alloc (.cells (madeCells #[.int .i64 0] (n + 9)) 2)) W.heap.size (some ⟨W.heap.size + 1, 0, none⟩) 0 (n + 9) [] := mk_ft (W.drew.alloc (.cells #[.int .i64 (-7), .int .i64 (-7)] 2)) _ _ _ (by simp) (by simp) (by omega)
    have MA := M.below bA
    have MB := M.below bB
    have ML0 := M.below bL
    have MC := M.below bC
    have MD := M.drew
    have gB : Rd ((W.drew.alloc (.cells (madeCells #[.int .i64 0] (n + 9)) 2)).alloc (.cells #[.int .i64 (-7), .int .i64 (-7)] 2)) (some ⟨W.heap.size + 1, 0, none⟩) 2 sev := (sev_ft (W.drew.alloc (.cells (madeCells #[.int .i64 0] (n + 9)) 2)) _ (by simp)).rd
    have gC : Rd ((W.drew.alloc (.cells #[.int .i64 (-7), .int .i64 (-7)] 2)).alloc (.cells (madeCells #[.int .i64 0] (n + 9)) 2)) (some ⟨W.heap.size, 0, none⟩) 2 sev := (sev_ft W.drew _ (by simp)).rd.below (box_below _ _) (Nat.le_refl _)
    have slt : Sl lo n lc := ⟨fun e => by have := sl.nil e; exact ⟨by omega, this.2⟩, by omega, sl.max⟩
    go_cut [11] (fun s11 V => ∃ g9 c9, s11 = .slice (some ⟨g9, 0, none⟩) (n + 2) c9 ∧ Nz V g9 n c9 l ∧ Pm (w.alloc (.cells #[.int .i64 K, .slice so sn sc, .slice ao an ac, .slice uo tn tc, .slice bo bn bc, .int .i64 N, .int .i64 I, .slice lo ln lc] 57)) (w1.alloc (.cells #[.slice xo sn xc, .slice yo an yc] 55)) V B hb gb w.heap.size w1.heap.size pb K N I so sn sc ao an ac uo tn tc bo bn bc lo ln lc s a t b l go0 go1 ho0 ho1 xo xc yo yc zo zc vo vc r0 r1 q0 q1)
    case first =>
      go_region_held3 (fun V => V.cell? ⟨w.heap.size, 0, none⟩ = some (.int .i64 K) ∧ V.cell? ⟨w.heap.size, 1, none⟩ = some (.slice so sn sc) ∧ V.cell? ⟨w.heap.size, 2, none⟩ = some (.slice ao an ac) ∧ V.cell? ⟨w.heap.size, 3, none⟩ = some (.slice uo tn tc) ∧ V.cell? ⟨w.heap.size, 4, none⟩ = some (.slice bo bn bc) ∧ V.cell? ⟨w.heap.size, 5, none⟩ = some (.int .i64 N) ∧ V.cell? ⟨w.heap.size, 6, none⟩ = some (.int .i64 I) ∧ V.cell? ⟨w.heap.size, 7, none⟩ = some (.slice lo ln lc) ∧ V.cell? ⟨w1.heap.size, 0, none⟩ = some (.slice xo sn xc) ∧ V.cell? ⟨w1.heap.size, 1, none⟩ = some (.slice yo an yc) ∧ V.cell? ⟨pb, 0, none⟩ = some (.slice zo tn zc) ∧ V.cell? ⟨pb, 1, none⟩ = some (.slice vo bn vc) ∧ Pm (w.alloc (.cells #[.int .i64 K, .slice so sn sc, .slice ao an ac, .slice uo tn tc, .slice bo bn bc, .int .i64 N, .int .i64 I, .slice lo ln lc] 57)) (w1.alloc (.cells #[.slice xo sn xc, .slice yo an yc] 55)) V B hb gb w.heap.size w1.heap.size pb K N I so sn sc ao an ac uo tn tc bo bn bc lo ln lc s a t b l go0 go1 ho0 ho1 xo xc yo yc zo zc vo vc r0 r1 q0 q1) (first | exact Pm.all (by assumption) | exact Pm.all (Pm.below (by assumption) (box_below _ _)))
        (first
          | (refine step_joinW tyL rfl (.tmp 61) (.tmp 65) rfl W.heap.size n _ _ _ _ _ _ [] (l.take n) (Nat.zero_add _) rfl rfl fA (MA.p.ar.rl.take n nl) slt (by omega) bA.size ?_; intro co7 c7 w7 f7 gr7 ow7; rw [List.nil_append] at f7; have b7 := grow_below bA fA gr7 bA.size; have M7 := M.below b7; clear ow7)
          | (refine step_joinW tyL rfl (.tmp 61) (.tmp 65) rfl W.heap.size n _ _ _ _ _ _ [] (l.take n) (Nat.zero_add _) rfl rfl fB (MB.p.ar.rl.take n nl) slt (by omega) bB.size ?_; intro co7 c7 w7 f7 gr7 ow7; rw [List.nil_append] at f7; have b7 := grow_below bB fB gr7 bB.size; have M7 := M.below b7; have g7 := gB.keep1 gr7 (fun b off hb hc => by cases hb; rw [own_slice] at hc; have h2 : W.heap.size + 1 = W.heap.size := Option.some.inj hc; omega); clear ow7)
          | (refine step_joinW tyL rfl (.tmp 61) (.tmp 65) rfl W.heap.size n _ _ _ _ _ _ [] (l.take n) (Nat.zero_add _) rfl rfl fC (MC.p.ar.rl.take n nl) slt (by omega) bC.size ?_; intro co7 c7 w7 f7 gr7 ow7; rw [List.nil_append] at f7; have b7 := grow_below bC fC gr7 bC.size; have M7 := M.below b7; have g7 := gC.keep1 gr7 (fun b off hb hc => by cases hb; rw [own_slice] at hc; have h2 : W.heap.size = W.heap.size + 1 := Option.some.inj hc; omega); clear ow7)
          | (refine step_joinW tyL rfl (.tmp 66) (.tmp 67) rfl W.heap.size (n + 2) _ _ _ _ _ _ (l.take n) sev rfl rfl rfl f7 g7 (lit_sl _) (by omega) b7.size ?_; intro co9 c9 w9 f9 gr9 ow9; have b9 := grow_below b7 f7 gr9 b7.size; have M9 := M.below b9; clear ow9)
          | (refine step_joinW tyL rfl (.tmp 66) (.tmp 67) rfl W.heap.size (n + 2) _ _ _ _ _ _ (l.take n) sev rfl rfl rfl (f7.below (box_below w7 (.cells #[.int .i64 (-7), .int .i64 (-7)] 2)) (Nat.le_refl _)) (sev_ft w7 _ rfl).rd (lit_sl _) (by omega) (Nat.le_trans b7.size (box_below w7 (.cells #[.int .i64 (-7), .int .i64 (-7)] 2)).size) ?_; intro co9 c9 w9 f9 gr9 ow9; have b9 := grow_below (below_to b7 (box_below w7 (.cells #[.int .i64 (-7), .int .i64 (-7)] 2)) (Nat.le_refl _)) (f7.below (box_below w7 (.cells #[.int .i64 (-7), .int .i64 (-7)] 2)) (Nat.le_refl _)) gr9 (Nat.le_trans b7.size (box_below w7 (.cells #[.int .i64 (-7), .int .i64 (-7)] 2)).size); have M9 := M.below b9; clear ow9))
      all_goals
        rename_i TL
        go_wp2
        go_meet
        case rel =>
          obtain ⟨k0, k1, k2, k3, k4, k5, k6, k7, k8, k9, k10, k11, M⟩ := TL
          obtain ⟨g9, hg9⟩ := ft_at f9
          subst hg9
          exact ⟨g9, c9, rfl, ⟨f9.rd, by rw [M.p.ar.rl.len]; exact nl, f9.sl⟩, M⟩
    case rest =>
      clear bA bB bL bC fA fB fC MA MB ML0 MC MD gB gC hmk k0 k1 k2 k3 k4 k5 k6 k7 k8 k9 k10 k11 M wn
      obtain ⟨g9, c9, rfl, Z, M⟩ := hcut
      obtain ⟨k0, k1, k2, k3, k4, k5, k6, k7, k8, k9, k10, k11, _⟩ := M.all
      have wn1 : IntKind.i64.wrap ((n : Int) + 1) = (n : Int) + 1 := wrapIn _ (by omega)
      have zle := Z.sl.le
      have j0 : (n : Int) ≤ (c9 : Int) := by omega
      have j1 : (n : Int) < (n : Int) + 2 := by omega
      have j2 : (n : Int) + 1 < (n : Int) + 2 := by omega
      have j3 : (0 : Int) ≤ (n : Int) + 1 := by omega
      have j4 : (n : Int) + 1 < ((n + 2 : Nat) : Int) := by omega
      have j5 : ((n : Int) + 1).toNat = n + 1 := by omega
      by_cases n4 : n ≤ 4096
      · go_wp2_with (first
          | (go_at_call 62; (with_reducible refine (list_any (some ⟨g9, 0, none⟩) n c9 (l.take n) _ Z.pre Z.ps n4).mono ?_); rintro e w5 ⟨o1, c1', o2, c2', rfl, F1, F2, _, b5⟩; have a5 := box_below w5 (.cells #[.slice o1 1 c1', .slice o2 n c2'] 55); have M5 := (M.below b5).below a5; have Z5 := (Z.below b5).below a5; have x5 := allocNew w5 (.cells #[.slice o1 1 c1', .slice o2 n c2'] 55); have R1 := F1.rd.below a5 (Nat.le_refl _); have R2 := F2.rd.below a5 (Nat.le_refl _); clear F1 F2; clear k0 k1 k2 k3 k4 k5 k6 k7 k8 k9 k10 k11; obtain ⟨k0, k1, k2, k3, k4, k5, k6, k7, k8, k9, k10, k11, _⟩ :=  M5.all)
          | (go_at_call 72; (with_reducible refine (refList_any lo n lc (l.take n) _ (M5.p.ar.rl.take n nl) slt n4).mono ?_); rintro e w6 ⟨p1, d1, p2, d2, rfl, G1, G2, b6⟩; have a6 := box_below w6 (.cells #[.slice p1 1 d1, .slice p2 n d2] 55); have M6 := (M5.below b6).below a6; have Z6 := (Z5.below b6).below a6; have lx := (Array.getElem?_eq_some_iff.1 x5).1; have x6 := (a6.block _ (Nat.lt_of_lt_of_le lx b6.size)).trans ((b6.block _ lx).trans x5); have y6 := allocNew w6 (.cells #[.slice p1 1 d1, .slice p2 n d2] 55); have R3 := (R1.below b6 (Nat.le_refl _)).below a6 (Nat.le_refl _); have R4 := (R2.below b6 (Nat.le_refl _)).below a6 (Nat.le_refl _); have R5 := G1.below a6 (Nat.le_refl _); have R6 := G2.below a6 (Nat.le_refl _); clear R1 R2 G1 G2; clear lx x5; clear k0 k1 k2 k3 k4 k5 k6 k7 k8 k9 k10 k11; obtain ⟨k0, k1, k2, k3, k4, k5, k6, k7, k8, k9, k10, k11, _⟩ :=  M6.all; obtain ⟨xx0, xx1, _, _⟩ := box2 x6; obtain ⟨yy0, yy1, _, _⟩ := box2 y6; obtain ⟨z0, z1⟩ := Z6.at)
          | fail)
        have al : ∀ V, Below (w6.alloc (.cells #[.slice p1 1 d1, .slice p2 n d2] 55)).heap.size (w6.alloc (.cells #[.slice p1 1 d1, .slice p2 n d2] 55)) V → (V.cell? ⟨w5.heap.size, 0, none⟩ = some (.slice o1 1 c1') ∧ V.cell? ⟨w5.heap.size, 1, none⟩ = some (.slice o2 n c2') ∧ V.cell? ⟨w6.heap.size, 0, none⟩ = some (.slice p1 1 d1) ∧ V.cell? ⟨w6.heap.size, 1, none⟩ = some (.slice p2 n d2) ∧ (V.cell? ⟨g9, n, none⟩ = some (.int .i64 (-7))) ∧ V.cell? ⟨g9, n + 1, none⟩ = some (.int .i64 (-7)) ∧ V.cell? ⟨w.heap.size, 7, none⟩ = some (.slice lo ln lc) ∧ Below (w6.alloc (.cells #[.slice p1 1 d1, .slice p2 n d2] 55)).heap.size (w6.alloc (.cells #[.slice p1 1 d1, .slice p2 n d2] 55)) V) := fun V k => ⟨cellB k xx0, cellB k xx1, cellB k yy0, cellB k yy1, cellB k z0, cellB k z1, cellB k k7, k⟩
        have e1 : ∀ V, (V.cell? ⟨w5.heap.size, 0, none⟩ = some (.slice o1 1 c1') ∧ V.cell? ⟨w5.heap.size, 1, none⟩ = some (.slice o2 n c2') ∧ V.cell? ⟨w6.heap.size, 0, none⟩ = some (.slice p1 1 d1) ∧ V.cell? ⟨w6.heap.size, 1, none⟩ = some (.slice p2 n d2) ∧ (V.cell? ⟨g9, n, none⟩ = some (.int .i64 (-7))) ∧ V.cell? ⟨g9, n + 1, none⟩ = some (.int .i64 (-7)) ∧ V.cell? ⟨w.heap.size, 7, none⟩ = some (.slice lo ln lc) ∧ Below (w6.alloc (.cells #[.slice p1 1 d1, .slice p2 n d2] 55)).heap.size (w6.alloc (.cells #[.slice p1 1 d1, .slice p2 n d2] 55)) V) → Calls Try.prog 25 #[.agg #[.slice o1 1 c1', .slice o2 n c2'], .agg #[.slice p1 1 d1, .slice p2 n d2]] V fun e w' => e = .returned (.bool true) ∧ Below (w6.alloc (.cells #[.slice p1 1 d1, .slice p2 n d2] 55)).heap.size (w6.alloc (.cells #[.slice p1 1 d1, .slice p2 n d2] 55)) w' := fun V h => (eq_same V o1 o2 p1 p2 1 c1' n c2' 1 d1 n d2 [(n : Int)] (l.take n) (R3.below h.2.2.2.2.2.2.2 (Nat.le_refl _)) (R4.below h.2.2.2.2.2.2.2 (Nat.le_refl _)) (R5.below h.2.2.2.2.2.2.2 (Nat.le_refl _)) (R6.below h.2.2.2.2.2.2.2 (Nat.le_refl _))).mono fun e w' ⟨h1, h2⟩ => ⟨h1, below_to h.2.2.2.2.2.2.2 h2 (Nat.le_refl _)⟩
        have e2 : ∀ V, (V.cell? ⟨w5.heap.size, 0, none⟩ = some (.slice o1 1 c1') ∧ V.cell? ⟨w5.heap.size, 1, none⟩ = some (.slice o2 n c2') ∧ V.cell? ⟨w6.heap.size, 0, none⟩ = some (.slice p1 1 d1) ∧ V.cell? ⟨w6.heap.size, 1, none⟩ = some (.slice p2 n d2) ∧ (V.cell? ⟨g9, n, none⟩ = some (.int .i64 (-7))) ∧ V.cell? ⟨g9, n + 1, none⟩ = some (.int .i64 (-7)) ∧ V.cell? ⟨w.heap.size, 7, none⟩ = some (.slice lo ln lc) ∧ Below (w6.alloc (.cells #[.slice p1 1 d1, .slice p2 n d2] 55)).heap.size (w6.alloc (.cells #[.slice p1 1 d1, .slice p2 n d2] 55)) V) → Calls Try.prog 25 #[.agg #[.slice none 0 0, .slice (some ⟨g9, 0, none⟩) n c9], .agg #[.slice none 0 0, .slice lo n lc]] V fun e w' => e = .returned (.bool true) ∧ Below (w6.alloc (.cells #[.slice p1 1 d1, .slice p2 n d2] 55)).heap.size (w6.alloc (.cells #[.slice p1 1 d1, .slice p2 n d2] 55)) w' := fun V h => (eq_same V none (some ⟨g9, 0, none⟩) none lo 0 0 n c9 0 0 n lc [] (l.take n) (Rd.nil _) (Z6.pre.below h.2.2.2.2.2.2.2 (Nat.le_refl _)) (Rd.nil _) ((M6.p.ar.rl.take n nl).below h.2.2.2.2.2.2.2 (Nat.le_refl _))).mono fun e w' ⟨h1, h2⟩ => ⟨h1, below_to h.2.2.2.2.2.2.2 h2 (Nat.le_refl _)⟩
        go_region_held3 (fun V => V.cell? ⟨w5.heap.size, 0, none⟩ = some (.slice o1 1 c1') ∧ V.cell? ⟨w5.heap.size, 1, none⟩ = some (.slice o2 n c2') ∧ V.cell? ⟨w6.heap.size, 0, none⟩ = some (.slice p1 1 d1) ∧ V.cell? ⟨w6.heap.size, 1, none⟩ = some (.slice p2 n d2) ∧ (V.cell? ⟨g9, n, none⟩ = some (.int .i64 (-7))) ∧ V.cell? ⟨g9, n + 1, none⟩ = some (.int .i64 (-7)) ∧ V.cell? ⟨w.heap.size, 7, none⟩ = some (.slice lo ln lc) ∧ Below (w6.alloc (.cells #[.slice p1 1 d1, .slice p2 n d2] 55)).heap.size (w6.alloc (.cells #[.slice p1 1 d1, .slice p2 n d2] 55)) V) (first | exact al _ (by assumption) | exact al _ (Below.refl _ _) | exact al _ (Below.refl _ _).drew)
          (first
            | (go_at_call 25; (with_reducible refine (e1 _ (by assumption)).mono ?_); rintro e w7 ⟨rfl, b7⟩)
            | (go_at_call 25; (with_reducible refine (e2 _ (by assumption)).mono ?_); rintro e w8 ⟨rfl, b8⟩))
        all_goals
          rename_i TL
          have M8 := M6.below TL.2.2.2.2.2.2.2
          have P := M8.p
          have bP := M8.bl
          clear k0 k1 k2 k3 k4 k5 k6 k7 k8 k9 k10 k11
          obtain ⟨k0, k1, k2, k3, k4, k5, k6, k7, k8, k9, k10, k11, _⟩ :=  M8.all
          go_wp2_with (first
            | (go_at_call 79; (with_reducible refine (call_kept1 P).mono ?_); rintro e w3 ⟨rfl, T3, b3⟩; obtain ⟨y0, y1, y2, y3, y4, _, _, _⟩ := box8 T3.ar.op)
            | (go_at_call 79; (with_reducible refine (call_kept2 T3).mono ?_); rintro e w4 ⟨rfl, hx, gx, dx, b4⟩)
            | fail)
          go_returns
          exact ⟨rfl, _, _, _, _, hx, gx, dx, below_tr bw (below_tr bP (below_tr b3 b4))⟩
      · go_wp2_with (first
          | (go_at_call 62; (with_reducible refine (list_long (some ⟨g9, 0, none⟩) n c9 _ (by omega) (by omega)).mono ?_); rintro e w5 ⟨rfl, b5⟩; have a5 := box_below w5 (.cells #[.slice none 0 0, .slice none 0 0] 55); have M5 := (M.below b5).below a5; have Z5 := (Z.below b5).below a5; have x5 := allocNew w5 (.cells #[.slice none 0 0, .slice none 0 0] 55); clear k0 k1 k2 k3 k4 k5 k6 k7 k8 k9 k10 k11; obtain ⟨k0, k1, k2, k3, k4, k5, k6, k7, k8, k9, k10, k11, _⟩ :=  M5.all)
          | (go_at_call 72; (with_reducible refine (refList_long lo n lc _ (by omega) (by omega)).mono ?_); rintro e w6 ⟨rfl, b6⟩; have a6 := box_below w6 (.cells #[.slice none 0 0, .slice none 0 0] 55); have M6 := (M5.below b6).below a6; have Z6 := (Z5.below b6).below a6; have lx := (Array.getElem?_eq_some_iff.1 x5).1; have x6 := (a6.block _ (Nat.lt_of_lt_of_le lx b6.size)).trans ((b6.block _ lx).trans x5); have y6 := allocNew w6 (.cells #[.slice none 0 0, .slice none 0 0] 55); clear lx x5; clear k0 k1 k2 k3 k4 k5 k6 k7 k8 k9 k10 k11; obtain ⟨k0, k1, k2, k3, k4, k5, k6, k7, k8, k9, k10, k11, _⟩ :=  M6.all; obtain ⟨xx0, xx1, _, _⟩ := box2 x6; obtain ⟨yy0, yy1, _, _⟩ := box2 y6; obtain ⟨z0, z1⟩ := Z6.at)
          | fail)
        have al : ∀ V, Below (w6.alloc (.cells #[.slice none 0 0, .slice none 0 0] 55)).heap.size (w6.alloc (.cells #[.slice none 0 0, .slice none 0 0] 55)) V → (V.cell? ⟨w5.heap.size, 0, none⟩ = some (.slice none 0 0) ∧ V.cell? ⟨w5.heap.size, 1, none⟩ = some (.slice none 0 0) ∧ V.cell? ⟨w6.heap.size, 0, none⟩ = some (.slice none 0 0) ∧ V.cell? ⟨w6.heap.size, 1, none⟩ = some (.slice none 0 0) ∧ (V.cell? ⟨g9, n, none⟩ = some (.int .i64 (-7))) ∧ V.cell? ⟨g9, n + 1, none⟩ = some (.int .i64 (-7)) ∧ V.cell? ⟨w.heap.size, 7, none⟩ = some (.slice lo ln lc) ∧ Below (w6.alloc (.cells #[.slice none 0 0, .slice none 0 0] 55)).heap.size (w6.alloc (.cells #[.slice none 0 0, .slice none 0 0] 55)) V) := fun V k => ⟨cellB k xx0, cellB k xx1, cellB k yy0, cellB k yy1, cellB k z0, cellB k z1, cellB k k7, k⟩
        have e1 : ∀ V, (V.cell? ⟨w5.heap.size, 0, none⟩ = some (.slice none 0 0) ∧ V.cell? ⟨w5.heap.size, 1, none⟩ = some (.slice none 0 0) ∧ V.cell? ⟨w6.heap.size, 0, none⟩ = some (.slice none 0 0) ∧ V.cell? ⟨w6.heap.size, 1, none⟩ = some (.slice none 0 0) ∧ (V.cell? ⟨g9, n, none⟩ = some (.int .i64 (-7))) ∧ V.cell? ⟨g9, n + 1, none⟩ = some (.int .i64 (-7)) ∧ V.cell? ⟨w.heap.size, 7, none⟩ = some (.slice lo ln lc) ∧ Below (w6.alloc (.cells #[.slice none 0 0, .slice none 0 0] 55)).heap.size (w6.alloc (.cells #[.slice none 0 0, .slice none 0 0] 55)) V) → Calls Try.prog 25 #[.agg #[.slice none 0 0, .slice none 0 0], .agg #[.slice none 0 0, .slice none 0 0]] V fun e w' => e = .returned (.bool true) ∧ Below (w6.alloc (.cells #[.slice none 0 0, .slice none 0 0] 55)).heap.size (w6.alloc (.cells #[.slice none 0 0, .slice none 0 0] 55)) w' := fun V h => (eq_same V none none none none 0 0 0 0 0 0 0 0 [] [] (Rd.nil _) (Rd.nil _) (Rd.nil _) (Rd.nil _)).mono fun e w' ⟨h1, h2⟩ => ⟨h1, below_to h.2.2.2.2.2.2.2 h2 (Nat.le_refl _)⟩
        have e2 : ∀ V, (V.cell? ⟨w5.heap.size, 0, none⟩ = some (.slice none 0 0) ∧ V.cell? ⟨w5.heap.size, 1, none⟩ = some (.slice none 0 0) ∧ V.cell? ⟨w6.heap.size, 0, none⟩ = some (.slice none 0 0) ∧ V.cell? ⟨w6.heap.size, 1, none⟩ = some (.slice none 0 0) ∧ (V.cell? ⟨g9, n, none⟩ = some (.int .i64 (-7))) ∧ V.cell? ⟨g9, n + 1, none⟩ = some (.int .i64 (-7)) ∧ V.cell? ⟨w.heap.size, 7, none⟩ = some (.slice lo ln lc) ∧ Below (w6.alloc (.cells #[.slice none 0 0, .slice none 0 0] 55)).heap.size (w6.alloc (.cells #[.slice none 0 0, .slice none 0 0] 55)) V) → Calls Try.prog 25 #[.agg #[.slice none 0 0, .slice (some ⟨g9, 0, none⟩) n c9], .agg #[.slice none 0 0, .slice lo n lc]] V fun e w' => e = .returned (.bool true) ∧ Below (w6.alloc (.cells #[.slice none 0 0, .slice none 0 0] 55)).heap.size (w6.alloc (.cells #[.slice none 0 0, .slice none 0 0] 55)) w' := fun V h => (eq_same V none (some ⟨g9, 0, none⟩) none lo 0 0 n c9 0 0 n lc [] (l.take n) (Rd.nil _) (Z6.pre.below h.2.2.2.2.2.2.2 (Nat.le_refl _)) (Rd.nil _) ((M6.p.ar.rl.take n nl).below h.2.2.2.2.2.2.2 (Nat.le_refl _))).mono fun e w' ⟨h1, h2⟩ => ⟨h1, below_to h.2.2.2.2.2.2.2 h2 (Nat.le_refl _)⟩
        go_region_held3 (fun V => V.cell? ⟨w5.heap.size, 0, none⟩ = some (.slice none 0 0) ∧ V.cell? ⟨w5.heap.size, 1, none⟩ = some (.slice none 0 0) ∧ V.cell? ⟨w6.heap.size, 0, none⟩ = some (.slice none 0 0) ∧ V.cell? ⟨w6.heap.size, 1, none⟩ = some (.slice none 0 0) ∧ (V.cell? ⟨g9, n, none⟩ = some (.int .i64 (-7))) ∧ V.cell? ⟨g9, n + 1, none⟩ = some (.int .i64 (-7)) ∧ V.cell? ⟨w.heap.size, 7, none⟩ = some (.slice lo ln lc) ∧ Below (w6.alloc (.cells #[.slice none 0 0, .slice none 0 0] 55)).heap.size (w6.alloc (.cells #[.slice none 0 0, .slice none 0 0] 55)) V) (first | exact al _ (by assumption) | exact al _ (Below.refl _ _) | exact al _ (Below.refl _ _).drew)
          (first
            | (go_at_call 25; (with_reducible refine (e1 _ (by assumption)).mono ?_); rintro e w7 ⟨rfl, b7⟩)
            | (go_at_call 25; (with_reducible refine (e2 _ (by assumption)).mono ?_); rintro e w8 ⟨rfl, b8⟩))
        all_goals
          rename_i TL
          have M8 := M6.below TL.2.2.2.2.2.2.2
          have P := M8.p
          have bP := M8.bl
          clear k0 k1 k2 k3 k4 k5 k6 k7 k8 k9 k10 k11
          obtain ⟨k0, k1, k2, k3, k4, k5, k6, k7, k8, k9, k10, k11, _⟩ :=  M8.all
          go_wp2_with (first
            | (go_at_call 79; (with_reducible refine (call_kept1 P).mono ?_); rintro e w3 ⟨rfl, T3, b3⟩; obtain ⟨y0, y1, y2, y3, y4, _, _, _⟩ := box8 T3.ar.op)
            | (go_at_call 79; (with_reducible refine (call_kept2 T3).mono ?_); rintro e w4 ⟨rfl, hx, gx, dx, b4⟩)
            | fail)
          go_returns
          exact ⟨rfl, _, _, _, _, hx, gx, dx, below_tr bw (below_tr bP (below_tr b3 b4))⟩
end Go.Proofs.Ytkplfnajhinkiaa
