
/- A call of the law of layer 3. -/

import Derived.Test.YtkplfnajhinkiaaP4
import Derived.Test.YtkplfnajhinkiaaQ0


namespace Go.Proofs.Ytkplfnajhinkiaa

open Go.RowKit

set_option linter.unusedVariables false

structure OpQ where
  K : Int
  N : Int
  I : Int
  so : Option Addr
  sn : Nat
  sc : Nat
  ao : Option Addr
  an : Nat
  ac : Nat
  uo : Option Addr
  tn : Nat
  tc : Nat
  bo : Option Addr
  bn : Nat
  bc : Nat
  lo : Option Addr
  ln : Nat
  lc : Nat
  s : List Int
  a : List Int
  t : List Int
  b : List Int
  l : List Int
structure OkQ (w : World) (x : OpQ) : Prop where
  rs : Rd w x.so x.sn x.s
  ra : Rd w x.ao x.an x.a
  rt : Rd w x.uo x.tn x.t
  rb : Rd w x.bo x.bn x.b
  rl : Rd w x.lo x.ln x.l
  ss : Sl x.so x.sn x.sc
  sa : Sl x.ao x.an x.ac
  st : Sl x.uo x.tn x.tc
  sb : Sl x.bo x.bn x.bc
  sl : Sl x.lo x.ln x.lc
  hN1 : -9223372036854775808 ≤ x.N
  hN2 : x.N ≤ 9223372036854775807
  hI1 : -9223372036854775808 ≤ x.I
  hI2 : x.I ≤ 9223372036854775807
theorem Rd.lowB {w : World} {o : Option Addr} {n : Nat} {zs : List Int} (h : Rd w o n zs) : 0 < n → ∀ b off, o = some ⟨b, off, none⟩ → b < w.heap.size := by
  intro hn b off e
  obtain ⟨b', off', e', hb, _⟩ := h.cells hn
  rw [e] at e'; cases e'; exact hb
theorem bcell {W w1 : World} {B : Nat} (hb : Below B W w1) : (∀ b o, b < B → w1.cell? ⟨b, o, none⟩ = W.cell? ⟨b, o, none⟩) :=
  fun b o h => hb.cell (p := ⟨b, o, none⟩) h
/-- Between two calls of a script. -/
structure Inv (w W : World) (hb gb : Nat) : Prop where
  bl : Below w.heap.size w W
  ha : ∃ go0 go1 ho0 ho1, (∃ m0 m1, Hx W w.heap.size hb go0 m0 go1 m1) ∧ (∃ m0 m1, Hx W w.heap.size gb ho0 m0 ho1 m1) ∧ Dis hb gb go0 go1 ho0 ho1
theorem play_inv (PA : ∀ (hb gb B : Nat) (K N I : Int) (so : Option Addr) (sn sc : Nat) (ao : Option Addr) (an ac : Nat) (uo : Option Addr) (tn tc : Nat) (bo : Option Addr) (bn bc : Nat) (lo : Option Addr) (ln lc : Nat) (s a t b l : List Int) (go0 go1 ho0 ho1 : Option Addr) (n0 n1 m0 m1 : Nat) (w : World) (rs : Rd w so sn s) (ra : Rd w ao an a) (rt : Rd w uo tn t) (rb : Rd w bo bn b) (rl : Rd w lo ln l) (ls : (0 < sn → ∀ b off, so = some ⟨b, off, none⟩ → b < B)) (la : (0 < an → ∀ b off, ao = some ⟨b, off, none⟩ → b < B)) (lt : (0 < tn → ∀ b off, uo = some ⟨b, off, none⟩ → b < B)) (lb : (0 < bn → ∀ b off, bo = some ⟨b, off, none⟩ → b < B)) (ll : (0 < ln → ∀ b off, lo = some ⟨b, off, none⟩ → b < B)) (hB : B ≤ w.heap.size) (h : Hx w B hb go0 n0 go1 n1) (g : Hx w B gb ho0 m0 ho1 m1) (d : Dis hb gb go0 go1 ho0 ho1) (ss : Sl so sn sc) (sa : Sl ao an ac) (st : Sl uo tn tc) (sb : Sl bo bn bc) (sl : Sl lo ln lc) (hN1 : -9223372036854775808 ≤ N) (hN2 : N ≤ 9223372036854775807) (hI1 : -9223372036854775808 ≤ I) (hI2 : I ≤ 9223372036854775807), Calls Try.prog 19 #[.agg #[.int .i64 K, .slice so sn sc, .slice ao an ac, .slice uo tn tc, .slice bo bn bc, .int .i64 N, .int .i64 I, .slice lo ln lc], .pointer (some ⟨hb, 0, none⟩), .pointer (some ⟨gb, 0, none⟩)] w fun e w' => e = .returned (.bool true) ∧ ∃ r0 r1 q0 q1, (∃ m0 m1, Hx w' B hb r0 m0 r1 m1) ∧ (∃ m0 m1, Hx w' B gb q0 m0 q1 m1) ∧ Dis hb gb r0 r1 q0 q1 ∧ Below B w w') {w W : World} {hb gb : Nat} {x : OpQ} (O : OkQ w x) (IV : Inv w W hb gb) : Calls Try.prog 19 #[.agg #[.int .i64 x.K, .slice x.so x.sn x.sc, .slice x.ao x.an x.ac, .slice x.uo x.tn x.tc, .slice x.bo x.bn x.bc, .int .i64 x.N, .int .i64 x.I, .slice x.lo x.ln x.lc], .pointer (some ⟨hb, 0, none⟩), .pointer (some ⟨gb, 0, none⟩)] W fun e w' => e = .returned (.bool true) ∧ Inv w w' hb gb := by
  obtain ⟨go0, go1, ho0, ho1, ⟨n0, n1, hx⟩, ⟨m0, m1, gx⟩, d⟩ := IV.ha
  have k := IV.bl
  refine (PA hb gb w.heap.size x.K x.N x.I x.so x.sn x.sc x.ao x.an x.ac x.uo x.tn x.tc x.bo x.bn x.bc x.lo x.ln x.lc x.s x.a x.t x.b x.l go0 go1 ho0 ho1 n0 n1 m0 m1 W (O.rs.below k (Nat.le_refl _)) (O.ra.below k (Nat.le_refl _)) (O.rt.below k (Nat.le_refl _)) (O.rb.below k (Nat.le_refl _)) (O.rl.below k (Nat.le_refl _)) O.rs.lowB O.ra.lowB O.rt.lowB O.rb.lowB O.rl.lowB k.size hx gx d O.ss O.sa O.st O.sb O.sl O.hN1 O.hN2 O.hI1 O.hI2).mono fun e w' ⟨e1, r0, r1, q0, q1, h1, h2, h3, h4⟩ => ⟨e1, below_tr k h4, r0, r1, q0, q1, h1, h2, h3⟩

set_option maxHeartbeats 20000000 in
set_option maxRecDepth 20000 in
theorem allA_walk (PA : ∀ (hb gb B : Nat) (K N I : Int) (so : Option Addr) (sn sc : Nat) (ao : Option Addr) (an ac : Nat) (uo : Option Addr) (tn tc : Nat) (bo : Option Addr) (bn bc : Nat) (lo : Option Addr) (ln lc : Nat) (s a t b l : List Int) (go0 go1 ho0 ho1 : Option Addr) (n0 n1 m0 m1 : Nat) (w : World) (rs : Rd w so sn s) (ra : Rd w ao an a) (rt : Rd w uo tn t) (rb : Rd w bo bn b) (rl : Rd w lo ln l) (ls : (0 < sn → ∀ b off, so = some ⟨b, off, none⟩ → b < B)) (la : (0 < an → ∀ b off, ao = some ⟨b, off, none⟩ → b < B)) (lt : (0 < tn → ∀ b off, uo = some ⟨b, off, none⟩ → b < B)) (lb : (0 < bn → ∀ b off, bo = some ⟨b, off, none⟩ → b < B)) (ll : (0 < ln → ∀ b off, lo = some ⟨b, off, none⟩ → b < B)) (hB : B ≤ w.heap.size) (h : Hx w B hb go0 n0 go1 n1) (g : Hx w B gb ho0 m0 ho1 m1) (d : Dis hb gb go0 go1 ho0 ho1) (ss : Sl so sn sc) (sa : Sl ao an ac) (st : Sl uo tn tc) (sb : Sl bo bn bc) (sl : Sl lo ln lc) (hN1 : -9223372036854775808 ≤ N) (hN2 : N ≤ 9223372036854775807) (hI1 : -9223372036854775808 ≤ I) (hI2 : I ≤ 9223372036854775807), Calls Try.prog 19 #[.agg #[.int .i64 K, .slice so sn sc, .slice ao an ac, .slice uo tn tc, .slice bo bn bc, .int .i64 N, .int .i64 I, .slice lo ln lc], .pointer (some ⟨hb, 0, none⟩), .pointer (some ⟨gb, 0, none⟩)] w fun e w' => e = .returned (.bool true) ∧ ∃ r0 r1 q0 q1, (∃ m0 m1, Hx w' B hb r0 m0 r1 m1) ∧ (∃ m0 m1, Hx w' B gb q0 m0 q1 m1) ∧ Dis hb gb r0 r1 q0 q1 ∧ Below B w w') (b off len cap : Nat) (q : Nat → OpQ) (w : World) (hb : b < w.heap.size) (hlen : len ≤ 9223372036854775807)
    (hc : ∀ i, i < len → w.cell? ⟨b, off + i * 8, none⟩ = some (.int .i64 (q i).K) ∧ w.cell? ⟨b, off + i * 8 + 1, none⟩ = some (.slice (q i).so (q i).sn (q i).sc) ∧ w.cell? ⟨b, off + i * 8 + 2, none⟩ = some (.slice (q i).ao (q i).an (q i).ac) ∧ w.cell? ⟨b, off + i * 8 + 3, none⟩ = some (.slice (q i).uo (q i).tn (q i).tc) ∧ w.cell? ⟨b, off + i * 8 + 4, none⟩ = some (.slice (q i).bo (q i).bn (q i).bc) ∧ w.cell? ⟨b, off + i * 8 + 5, none⟩ = some (.int .i64 (q i).N) ∧ w.cell? ⟨b, off + i * 8 + 6, none⟩ = some (.int .i64 (q i).I) ∧ w.cell? ⟨b, off + i * 8 + 7, none⟩ = some (.slice (q i).lo (q i).ln (q i).lc))
    (hr : ∀ i, i < len → OkQ w (q i)) :
    Calls Try.prog 5 #[.slice (some ⟨b, off, none⟩) len cap] w fun e w' => e = .returned (.bool true) ∧ Below w.heap.size w w' := by
  go_enter Try.func5, Try.ntmps5
  go_wp2_with (go_at_call 18; refine (begun3_any _).mono ?_; rintro e w1 ⟨rfl, hb1⟩)
  have a1 := box_below w1 (.cells #[.slice none 0 0, .slice none 0 0] 52)
  have a2 := box_below (w1.alloc (.cells #[.slice none 0 0, .slice none 0 0] 52)) (.cells #[.slice none 0 0, .slice none 0 0] 52)
  have n1 := allocNew w1 (.cells #[.slice none 0 0, .slice none 0 0] 52)
  have n2 := allocNew (w1.alloc (.cells #[.slice none 0 0, .slice none 0 0] 52)) (.cells #[.slice none 0 0, .slice none 0 0] 52)
  have s1 := hb1.size
  rw [World.size_alloc] at n2
  have n1' := (a2.block _ (Array.getElem?_eq_some_iff.1 n1).1).trans n1
  have start : Inv w ((w1.alloc (.cells #[.slice none 0 0, .slice none 0 0] 52)).alloc (.cells #[.slice none 0 0, .slice none 0 0] 52)) w1.heap.size (w1.heap.size + 1) :=
    ⟨below_to (below_to hb1 a1 (Nat.le_refl _)) a2 (Nat.le_refl _), none, none, none, none, ⟨0, 0, ⟨n1', s1, Rw.nil _ _ _, Rw.nil _ _ _⟩⟩, ⟨0, 0, ⟨n2, by omega, Rw.nil _ _ _, Rw.nil _ _ _⟩⟩, ⟨by omega, fun g e => (by cases e), fun g e => (by cases e)⟩⟩
  clear a1 a2 n1 n2 n1' s1
  go_loopw [5] (fun i wr => ∃ k : Nat, k ≤ len ∧ i = .int .i64 (k : Nat) ∧ Inv w wr w1.heap.size (w1.heap.size + 1)) (fun i _ => len - (intOf i).toNat)
  case atStart => exact ⟨0, by omega, rfl, start⟩
  case round =>
    obtain ⟨k, hk, rfl, IV⟩ := hrel
    clear start
    by_cases hlt : k < len
    · obtain ⟨h0, h1, h2, h3, h4, h5, h6, h7⟩ := hc k hlt
      have O := hr k hlt
      have bc := bcell IV.bl
      rw [← bc b _ hb] at h0 h1 h2 h3 h4 h5 h6 h7
      have hp := play_inv PA O IV
      clear bc hc hr PA O
      go_wp2_with (go_at_call 19; refine hp.mono ?_; rintro e w2 ⟨rfl, IV2⟩; clear h0 h1 h2 h3 h4 h5 h6 h7)
      go_roundw
      case rel => exact ⟨k + 1, by omega, by go_num, IV2⟩
      case measure => simp [intOf]; omega
    · go_wp2
      go_returns
      exact ⟨rfl, IV.bl⟩
end Go.Proofs.Ytkplfnajhinkiaa
