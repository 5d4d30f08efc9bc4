
/- Contracts: pieces one behind the other; all pieces. -/

import Derived.Test.YtjllmfahmlfljaaC5

namespace Go.Proofs.Ytjllmfahmlfljaa

open Go.RowKit

set_option linter.unusedVariables false

/-- The j-th piece of n of N items, one behind the other. -/
def chk (N n : Nat) (j : Nat) : Int × Int := (((j * n : Nat) : Int), ((min n (N - j * n) : Nat) : Int))

set_option maxHeartbeats 2000000 in
theorem chunks_any (N n : Nat) (w : World) (hN : N ≤ 4096) (hn : n ≤ N) (hn0 : 0 < N → 0 < n) :
    Calls Try.prog 91 #[.int .i64 (N : Nat), .int .i64 (n : Nat)] w fun e w' => ∃ K ao c, e = .returned (.slice ao K c) ∧ Pf w' w.heap.size ao K c (chk N n) ∧ Below w.heap.size w w' ∧ ∀ j, j < K ↔ j * n < N := by
  go_enter Try.func91, Try.ntmps91
  go_wp2
  go_loopw [5, 6] (fun s i wr => ∃ (k f : Nat) (ao : Option Addr) (c : Nat), s = .slice ao k c ∧ i = .int .i64 (f : Nat) ∧ Hid (f = k * n) ∧ k ≤ f ∧ f ≤ N + n ∧ Hid (∀ j, j < k → j * n < N) ∧ Pf wr w.heap.size ao k c (chk N n) ∧ Below w.heap.size w wr) (fun _ i _ => N - (intOf i).toNat)
  case atStart => exact ⟨0, 0, none, 0, rfl, rfl, (by show 0 = 0 * n; omega), Nat.le_refl _, Nat.zero_le _, fun j hj => by omega, Pf.nil _ _ _, Below.refl _ _⟩
  case round =>
    obtain ⟨k, f, ao, c, rfl, rfl, HF, hkf, hfN, HJ, P, hb⟩ := hrel
    by_cases hlt : f < N
    · have hn1 : 0 < n := hn0 (by omega)
      have t1 : decide ((f : Int) < (N : Int)) = true := by simp; omega
      have w1 : IntKind.i64.wrap ((N : Int) - (f : Int)) = (N : Int) - (f : Int) := wrapIn _ (by omega)
      have w2 : IntKind.i64.wrap ((f : Int) + (n : Int)) = (f : Int) + (n : Int) := wrapIn _ (by omega)
      obtain ⟨m, hm⟩ : ∃ m : Nat, m = min n (N - f) := ⟨_, rfl⟩
      have hmi : min (n : Int) ((N : Int) - (f : Int)) = (m : Int) := by omega
      have HP : Hid (chk N n k = ((f : Int), (m : Int))) := by show _ = _; unfold chk; rw [← HF.out, hm]
      have P1 := P.below (box_below wr (.cells #[.int .i64 (f : Int), .int .i64 (m : Int)] 57)) (Nat.le_refl _)
      have hv := allocNew wr (.cells #[.int .i64 (f : Int), .int .i64 (m : Int)] 57)
      have hv' : (wr.alloc (.cells #[.int .i64 (f : Int), .int .i64 (m : Int)] 57)).heap[wr.heap.size]? = some (.cells #[.int .i64 (chk N n k).1, .int .i64 (chk N n k).2] 57 (0, 0)) := by rw [HP.out]; exact hv
      have HV : Hid ((wr.alloc (.cells #[.int .i64 (f : Int), .int .i64 (m : Int)] 57)).heap[wr.heap.size]? = some (.cells #[.int .i64 (chk N n k).1, .int .i64 (chk N n k).2] 57 (0, 0))) := hv'
      have HM : Hid (m = min n (N - f)) := hm
      have hsz := hb.size
      clear hv hv' hm
      by_cases hc : (n : Int) ≤ (N : Int) - (f : Int)
      · have e : (m : Int) = (n : Int) := by omega
        rw [e] at P1 HV
        clear hmi HP HM e
        go_wp2_with (at_builtin; refine wpList_joinP rfl _ _ rfl w.heap.size wr.heap.size ao k c (chk N n) rfl rfl P1 HV.out (by omega) (by simp; omega) ?_; intro co c2 w3 P3 b3)
        go_roundw
        case rel => exact ⟨k + 1, f + n, co, c2, rfl, by go_num, by show f + n = (k + 1) * n; rw [Nat.add_mul, Nat.one_mul, ← HF.out], by omega, by omega, fun j hj => by by_cases e : j = k; (· subst e; rw [← HF.out]; exact hlt); exact HJ.out j (by omega), P3, (hb.alloc hsz _).trans b3⟩
        case measure => simp [intOf]; omega
      · have e : (m : Int) = (N : Int) - (f : Int) := by omega
        rw [e] at P1 HV
        clear hmi HP HM e
        go_wp2_with (at_builtin; refine wpList_joinP rfl _ _ rfl w.heap.size wr.heap.size ao k c (chk N n) rfl rfl P1 HV.out (by omega) (by simp; omega) ?_; intro co c2 w3 P3 b3)
        go_roundw
        case rel => exact ⟨k + 1, f + n, co, c2, rfl, by go_num, by show f + n = (k + 1) * n; rw [Nat.add_mul, Nat.one_mul, ← HF.out], by omega, by omega, fun j hj => by by_cases e : j = k; (· subst e; rw [← HF.out]; exact hlt); exact HJ.out j (by omega), P3, (hb.alloc hsz _).trans b3⟩
        case measure => simp [intOf]; omega
    · have t1 : decide ((f : Int) < (N : Int)) = false := by simp; omega
      go_wp2
      go_ret
      refine ⟨k, ao, c, rfl, P, hb, fun j => ⟨HJ.out j, fun hj => ?_⟩⟩
      by_cases e : j < k
      · exact e
      · have := Nat.mul_le_mul_right n (show k ≤ j by omega)
        rw [← HF.out] at this
        omega

theorem magnitude_any (n : Int) (w : World) (h1 : -9223372036854775808 ≤ n) (h2 : n ≤ 9223372036854775807) :
    Calls Try.prog 54 #[.int .i64 n] w fun e w' => e = .returned (.int .u64 (n.natAbs : Nat)) ∧ w' = w := by
  by_cases h : n < 0
  · have t1 : decide (n < 0) = true := by simpa using h
    go_enter Try.func54, Try.ntmps54
    go_wp2
    go_ret
    refine ⟨ret_int ?_, rfl⟩
    first
      | omega
      | (simp only [IntKind.wrap_u64]; omega)
  · have t1 : decide (n < 0) = false := by simpa using h
    go_enter Try.func54, Try.ntmps54
    go_wp2
    go_ret
    refine ⟨ret_int ?_, rfl⟩
    first
      | omega
      | (simp only [IntKind.wrap_u64]; omega)

/-- What the pieces of n of N items are, n being above or below 0. -/
structure Pcs (N : Nat) (n : Int) (K : Nat) (p : Nat → Int × Int) : Prop where
  pos : 0 < n → K = ((N : Int) - n + 1).toNat ∧ p = fun (j : Nat) => ((j : Int), n)
  neg : n < 0 → ∃ m : Nat, m = min n.natAbs N ∧ (∀ j, j < K ↔ j * m < N) ∧ p = chk N m

set_option maxHeartbeats 1000000 in
theorem piecesOf_any (N : Nat) (n : Int) (w : World) (hN : N ≤ 4096) (h0 : n ≠ 0) (h1 : -9223372036854775808 ≤ n) (h2 : n ≤ 9223372036854775807) :
    Calls Try.prog 53 #[.int .i64 (N : Nat), .int .i64 n] w fun e w' => ∃ K p ao c, e = .returned (.slice ao K c) ∧ Pf w' w.heap.size ao K c p ∧ Below w.heap.size w w' ∧ Pcs N n K p := by
  by_cases h : 0 < n
  · have t1 : decide (0 < n) = true := by simpa using h
    have hw := windows_any N n w hN (by omega) h2
    go_enter Try.func53, Try.ntmps53
    go_wp2_with (go_at_call 90; refine hw.mono ?_; rintro e w1 ⟨ao, c, rfl, P, hb⟩)
    go_ret
    exact ⟨_, _, _, _, rfl, P, hb, fun _ => ⟨rfl, rfl⟩, fun h' => by omega⟩
  · have t1 : decide (0 < n) = false := by simpa using h
    have hm := magnitude_any n w h1 h2
    obtain ⟨m, hmm⟩ : ∃ m : Nat, m = min n.natAbs N := ⟨_, rfl⟩
    have hc := chunks_any N m w hN (by omega) (by omega)
    have HM : Hid (m = min n.natAbs N) := hmm
    have u1 : IntKind.u64.wrap (N : Int) = (N : Int) := wrapNn N (by omega)
    obtain ⟨q, hq⟩ : ∃ q, n.natAbs = q := ⟨_, rfl⟩
    rw [hq] at hm hmm
    have i1 : IntKind.i64.wrap (m : Int) = (m : Int) := wrapIn _ (by omega)
    clear hq
    by_cases hle : (q : Int) ≤ (N : Int)
    · have e : (m : Int) = (q : Int) := by omega
      rw [e] at hc i1
      clear hmm e
      go_enter Try.func53, Try.ntmps53
      go_wp2_with (first
        | (go_at_call 54; refine hm.mono ?_; rintro e w' ⟨rfl, hw⟩; rw [hw]; clear hw w')
        | (go_at_call 91; refine hc.mono ?_; rintro e w1 ⟨K, ao, c, rfl, P, hb, hj⟩))
      go_ret
      exact ⟨_, _, _, _, rfl, P, hb, fun h' => by omega, fun _ => ⟨m, HM.out, hj, rfl⟩⟩
    · have e : (m : Int) = (N : Int) := by omega
      rw [e] at hc i1
      clear hmm e
      go_enter Try.func53, Try.ntmps53
      go_wp2_with (first
        | (go_at_call 54; refine hm.mono ?_; rintro e w' ⟨rfl, hw⟩; rw [hw]; clear hw w')
        | (go_at_call 91; refine hc.mono ?_; rintro e w1 ⟨K, ao, c, rfl, P, hb, hj⟩))
      go_ret
      exact ⟨_, _, _, _, rfl, P, hb, fun h' => by omega, fun _ => ⟨m, HM.out, hj, rfl⟩⟩
end Go.Proofs.Ytjllmfahmlfljaa
