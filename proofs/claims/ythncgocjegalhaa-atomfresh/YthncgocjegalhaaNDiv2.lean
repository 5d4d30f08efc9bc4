
/- Contracts of math/bits.Div64 at the divisors 10 to 17: the quotient of two words by a small number, the library's own text walked. -/

import Derived.Test.YthncgocjegalhaaNDiv0

namespace Go.Proofs.Ythncgocjegalhaa.Nm

open Go.RowKit

set_option linter.unusedVariables false

set_option maxRecDepth 20000 in
theorem bitsDiv_10 (hi lo : Nat) (hh1 : 0 < hi) (hh : hi < 10) (hl : lo < 18446744073709551616) (w : World) :
    Calls Try.prog 80 #[.int .u64 (hi : Nat), .int .u64 (lo : Nat), .int .u64 ((10 : Nat) : Int)] w fun e w' => (∃ r : Int, e = .returned (.tuple #[.int .u64 (((hi * 18446744073709551616 + lo) / 10 : Nat) : Int), .int .u64 r])) ∧ ∃ n, w' = w.drewN n := by
  have hz := fun w => bitsLead 10 4 (by omega) (by decide +kernel) (by omega) (by omega) w
  have hy0 : bits BinOp.and IntKind.u64 11529215046068469760 4294967295 = 0 := by
    have h := and_mod 11529215046068469760 (by omega)
    simpa using h
  obtain ⟨U, hU⟩ : ∃ U, U = hi * 1152921504606846976 + lo / 16 := ⟨_, rfl⟩
  obtain ⟨T, hT⟩ : ∃ T, T = lo * 1152921504606846976 % 18446744073709551616 := ⟨_, rfl⟩
  have hor : bits BinOp.or IntKind.u64 ((hi : Int) * 1152921504606846976) ((lo : Int) / 16) = (U : Int) := by
    have h := or_plus hi (lo / 16) 60 (by omega) (by omega) (by omega)
    rw [hU]
    simpa using h
  have hw : IntKind.u64.wrap ((lo : Int) * 1152921504606846976) = (T : Int) := by
    rw [IntKind.wrap_u64, hT]; omega
  have hand : bits BinOp.and IntKind.u64 (T : Int) 4294967295 = (T : Int) % 4294967296 := and_mod T (by omega)
  have hUb : U < 11529215046068469760 := by omega
  have hTb : T < 18446744073709551616 := by omega
  have hfin : Hid ((hi * 18446744073709551616 + lo) / 10 = (U * 4294967296 + T / 4294967296) / 2684354560) := by
    show _ = _
    omega
  clear hU hT
  obtain ⟨M1, hM1, bM1, dM1⟩ := wrapU ((U : Int) * 4294967296)
  obtain ⟨M2, hM2, bM2, dM2⟩ := wrapU ((M1 : Int) + (T : Int) / 4294967296)
  obtain ⟨M3, hM3, bM3, dM3⟩ := wrapU ((U : Int) / 2684354560 * 11529215046068469760)
  obtain ⟨V, hV, bV, dV⟩ := wrapU ((M2 : Int) - (M3 : Int))
  have eV : Hid ((V : Int) = ((U : Int) - (U : Int) / 2684354560 * 2684354560) * 4294967296 + (T : Int) / 4294967296) := by
    show _ = _
    omega
  have hVb : V < 11529215046068469760 := by have := eV.out; omega
  clear dM1 dM2 dM3 dV
  obtain ⟨N1, hN1, bN1, dN1⟩ := wrapU ((V : Int) * 4294967296)
  obtain ⟨N2, hN2, bN2, dN2⟩ := wrapU ((N1 : Int) + (T : Int) % 4294967296)
  obtain ⟨N3, hN3, bN3, dN3⟩ := wrapU ((V : Int) / 2684354560 * 11529215046068469760)
  obtain ⟨R, hR, bR, dR⟩ := wrapU ((N2 : Int) - (N3 : Int))
  clear dN1 dN2 dN3 dR
  have g1 : decide ((4294967296 : Int) ≤ (U : Int) / 2684354560) = false := by simp only [decide_eq_false_iff_not]; omega
  have g2 : decide ((4294967296 : Int) ≤ (V : Int) / 2684354560) = false := by simp only [decide_eq_false_iff_not]; omega
  go_enter Try.func80, Try.ntmps80
  go_wp2_with (go_at_call 81; refine (hz _).mono ?_; rintro e w' ⟨rfl, rfl⟩)
  go_loop [15, 16] (fun q r => q = .int .u64 ((U : Int) / 2684354560) ∧ r = .int .u64 ((U : Int) - (U : Int) / 2684354560 * 2684354560)) (fun _ _ => 0)
  case atStart => exact ⟨rfl, rfl⟩
  case round =>
    obtain ⟨rfl, rfl⟩ := hrel
    go_wp2
    go_loop [18, 16] (fun q r => q = .int .u64 ((V : Int) / 2684354560) ∧ r = .int .u64 ((V : Int) - (V : Int) / 2684354560 * 2684354560)) (fun _ _ => 0)
    case atStart => exact ⟨rfl, rfl⟩
    case round =>
      obtain ⟨rfl, rfl⟩ := hrel
      go_wp2
      go_ret2
      refine ⟨ret_tup ?_, 0, rfl⟩
      have h1 := hfin.out
      have h2 := eV.out
      omega

set_option maxRecDepth 20000 in
theorem bitsDiv_11 (hi lo : Nat) (hh1 : 0 < hi) (hh : hi < 11) (hl : lo < 18446744073709551616) (w : World) :
    Calls Try.prog 80 #[.int .u64 (hi : Nat), .int .u64 (lo : Nat), .int .u64 ((11 : Nat) : Int)] w fun e w' => (∃ r : Int, e = .returned (.tuple #[.int .u64 (((hi * 18446744073709551616 + lo) / 11 : Nat) : Int), .int .u64 r])) ∧ ∃ n, w' = w.drewN n := by
  have hz := fun w => bitsLead 11 4 (by omega) (by decide +kernel) (by omega) (by omega) w
  have hy0 : bits BinOp.and IntKind.u64 12682136550675316736 4294967295 = 0 := by
    have h := and_mod 12682136550675316736 (by omega)
    simpa using h
  obtain ⟨U, hU⟩ : ∃ U, U = hi * 1152921504606846976 + lo / 16 := ⟨_, rfl⟩
  obtain ⟨T, hT⟩ : ∃ T, T = lo * 1152921504606846976 % 18446744073709551616 := ⟨_, rfl⟩
  have hor : bits BinOp.or IntKind.u64 ((hi : Int) * 1152921504606846976) ((lo : Int) / 16) = (U : Int) := by
    have h := or_plus hi (lo / 16) 60 (by omega) (by omega) (by omega)
    rw [hU]
    simpa using h
  have hw : IntKind.u64.wrap ((lo : Int) * 1152921504606846976) = (T : Int) := by
    rw [IntKind.wrap_u64, hT]; omega
  have hand : bits BinOp.and IntKind.u64 (T : Int) 4294967295 = (T : Int) % 4294967296 := and_mod T (by omega)
  have hUb : U < 12682136550675316736 := by omega
  have hTb : T < 18446744073709551616 := by omega
  have hfin : Hid ((hi * 18446744073709551616 + lo) / 11 = (U * 4294967296 + T / 4294967296) / 2952790016) := by
    show _ = _
    omega
  clear hU hT
  obtain ⟨M1, hM1, bM1, dM1⟩ := wrapU ((U : Int) * 4294967296)
  obtain ⟨M2, hM2, bM2, dM2⟩ := wrapU ((M1 : Int) + (T : Int) / 4294967296)
  obtain ⟨M3, hM3, bM3, dM3⟩ := wrapU ((U : Int) / 2952790016 * 12682136550675316736)
  obtain ⟨V, hV, bV, dV⟩ := wrapU ((M2 : Int) - (M3 : Int))
  have eV : Hid ((V : Int) = ((U : Int) - (U : Int) / 2952790016 * 2952790016) * 4294967296 + (T : Int) / 4294967296) := by
    show _ = _
    omega
  have hVb : V < 12682136550675316736 := by have := eV.out; omega
  clear dM1 dM2 dM3 dV
  obtain ⟨N1, hN1, bN1, dN1⟩ := wrapU ((V : Int) * 4294967296)
  obtain ⟨N2, hN2, bN2, dN2⟩ := wrapU ((N1 : Int) + (T : Int) % 4294967296)
  obtain ⟨N3, hN3, bN3, dN3⟩ := wrapU ((V : Int) / 2952790016 * 12682136550675316736)
  obtain ⟨R, hR, bR, dR⟩ := wrapU ((N2 : Int) - (N3 : Int))
  clear dN1 dN2 dN3 dR
  have g1 : decide ((4294967296 : Int) ≤ (U : Int) / 2952790016) = false := by simp only [decide_eq_false_iff_not]; omega
  have g2 : decide ((4294967296 : Int) ≤ (V : Int) / 2952790016) = false := by simp only [decide_eq_false_iff_not]; omega
  go_enter Try.func80, Try.ntmps80
  go_wp2_with (go_at_call 81; refine (hz _).mono ?_; rintro e w' ⟨rfl, rfl⟩)
  go_loop [15, 16] (fun q r => q = .int .u64 ((U : Int) / 2952790016) ∧ r = .int .u64 ((U : Int) - (U : Int) / 2952790016 * 2952790016)) (fun _ _ => 0)
  case atStart => exact ⟨rfl, rfl⟩
  case round =>
    obtain ⟨rfl, rfl⟩ := hrel
    go_wp2
    go_loop [18, 16] (fun q r => q = .int .u64 ((V : Int) / 2952790016) ∧ r = .int .u64 ((V : Int) - (V : Int) / 2952790016 * 2952790016)) (fun _ _ => 0)
    case atStart => exact ⟨rfl, rfl⟩
    case round =>
      obtain ⟨rfl, rfl⟩ := hrel
      go_wp2
      go_ret2
      refine ⟨ret_tup ?_, 0, rfl⟩
      have h1 := hfin.out
      have h2 := eV.out
      omega

set_option maxRecDepth 20000 in
theorem bitsDiv_12 (hi lo : Nat) (hh1 : 0 < hi) (hh : hi < 12) (hl : lo < 18446744073709551616) (w : World) :
    Calls Try.prog 80 #[.int .u64 (hi : Nat), .int .u64 (lo : Nat), .int .u64 ((12 : Nat) : Int)] w fun e w' => (∃ r : Int, e = .returned (.tuple #[.int .u64 (((hi * 18446744073709551616 + lo) / 12 : Nat) : Int), .int .u64 r])) ∧ ∃ n, w' = w.drewN n := by
  have hz := fun w => bitsLead 12 4 (by omega) (by decide +kernel) (by omega) (by omega) w
  have hy0 : bits BinOp.and IntKind.u64 13835058055282163712 4294967295 = 0 := by
    have h := and_mod 13835058055282163712 (by omega)
    simpa using h
  obtain ⟨U, hU⟩ : ∃ U, U = hi * 1152921504606846976 + lo / 16 := ⟨_, rfl⟩
  obtain ⟨T, hT⟩ : ∃ T, T = lo * 1152921504606846976 % 18446744073709551616 := ⟨_, rfl⟩
  have hor : bits BinOp.or IntKind.u64 ((hi : Int) * 1152921504606846976) ((lo : Int) / 16) = (U : Int) := by
    have h := or_plus hi (lo / 16) 60 (by omega) (by omega) (by omega)
    rw [hU]
    simpa using h
  have hw : IntKind.u64.wrap ((lo : Int) * 1152921504606846976) = (T : Int) := by
    rw [IntKind.wrap_u64, hT]; omega
  have hand : bits BinOp.and IntKind.u64 (T : Int) 4294967295 = (T : Int) % 4294967296 := and_mod T (by omega)
  have hUb : U < 13835058055282163712 := by omega
  have hTb : T < 18446744073709551616 := by omega
  have hfin : Hid ((hi * 18446744073709551616 + lo) / 12 = (U * 4294967296 + T / 4294967296) / 3221225472) := by
    show _ = _
    omega
  clear hU hT
  obtain ⟨M1, hM1, bM1, dM1⟩ := wrapU ((U : Int) * 4294967296)
  obtain ⟨M2, hM2, bM2, dM2⟩ := wrapU ((M1 : Int) + (T : Int) / 4294967296)
  obtain ⟨M3, hM3, bM3, dM3⟩ := wrapU ((U : Int) / 3221225472 * 13835058055282163712)
  obtain ⟨V, hV, bV, dV⟩ := wrapU ((M2 : Int) - (M3 : Int))
  have eV : Hid ((V : Int) = ((U : Int) - (U : Int) / 3221225472 * 3221225472) * 4294967296 + (T : Int) / 4294967296) := by
    show _ = _
    omega
  have hVb : V < 13835058055282163712 := by have := eV.out; omega
  clear dM1 dM2 dM3 dV
  obtain ⟨N1, hN1, bN1, dN1⟩ := wrapU ((V : Int) * 4294967296)
  obtain ⟨N2, hN2, bN2, dN2⟩ := wrapU ((N1 : Int) + (T : Int) % 4294967296)
  obtain ⟨N3, hN3, bN3, dN3⟩ := wrapU ((V : Int) / 3221225472 * 13835058055282163712)
  obtain ⟨R, hR, bR, dR⟩ := wrapU ((N2 : Int) - (N3 : Int))
  clear dN1 dN2 dN3 dR
  have g1 : decide ((4294967296 : Int) ≤ (U : Int) / 3221225472) = false := by simp only [decide_eq_false_iff_not]; omega
  have g2 : decide ((4294967296 : Int) ≤ (V : Int) / 3221225472) = false := by simp only [decide_eq_false_iff_not]; omega
  go_enter Try.func80, Try.ntmps80
  go_wp2_with (go_at_call 81; refine (hz _).mono ?_; rintro e w' ⟨rfl, rfl⟩)
  go_loop [15, 16] (fun q r => q = .int .u64 ((U : Int) / 3221225472) ∧ r = .int .u64 ((U : Int) - (U : Int) / 3221225472 * 3221225472)) (fun _ _ => 0)
  case atStart => exact ⟨rfl, rfl⟩
  case round =>
    obtain ⟨rfl, rfl⟩ := hrel
    go_wp2
    go_loop [18, 16] (fun q r => q = .int .u64 ((V : Int) / 3221225472) ∧ r = .int .u64 ((V : Int) - (V : Int) / 3221225472 * 3221225472)) (fun _ _ => 0)
    case atStart => exact ⟨rfl, rfl⟩
    case round =>
      obtain ⟨rfl, rfl⟩ := hrel
      go_wp2
      go_ret2
      refine ⟨ret_tup ?_, 0, rfl⟩
      have h1 := hfin.out
      have h2 := eV.out
      omega

set_option maxRecDepth 20000 in
theorem bitsDiv_13 (hi lo : Nat) (hh1 : 0 < hi) (hh : hi < 13) (hl : lo < 18446744073709551616) (w : World) :
    Calls Try.prog 80 #[.int .u64 (hi : Nat), .int .u64 (lo : Nat), .int .u64 ((13 : Nat) : Int)] w fun e w' => (∃ r : Int, e = .returned (.tuple #[.int .u64 (((hi * 18446744073709551616 + lo) / 13 : Nat) : Int), .int .u64 r])) ∧ ∃ n, w' = w.drewN n := by
  have hz := fun w => bitsLead 13 4 (by omega) (by decide +kernel) (by omega) (by omega) w
  have hy0 : bits BinOp.and IntKind.u64 14987979559889010688 4294967295 = 0 := by
    have h := and_mod 14987979559889010688 (by omega)
    simpa using h
  obtain ⟨U, hU⟩ : ∃ U, U = hi * 1152921504606846976 + lo / 16 := ⟨_, rfl⟩
  obtain ⟨T, hT⟩ : ∃ T, T = lo * 1152921504606846976 % 18446744073709551616 := ⟨_, rfl⟩
  have hor : bits BinOp.or IntKind.u64 ((hi : Int) * 1152921504606846976) ((lo : Int) / 16) = (U : Int) := by
    have h := or_plus hi (lo / 16) 60 (by omega) (by omega) (by omega)
    rw [hU]
    simpa using h
  have hw : IntKind.u64.wrap ((lo : Int) * 1152921504606846976) = (T : Int) := by
    rw [IntKind.wrap_u64, hT]; omega
  have hand : bits BinOp.and IntKind.u64 (T : Int) 4294967295 = (T : Int) % 4294967296 := and_mod T (by omega)
  have hUb : U < 14987979559889010688 := by omega
  have hTb : T < 18446744073709551616 := by omega
  have hfin : Hid ((hi * 18446744073709551616 + lo) / 13 = (U * 4294967296 + T / 4294967296) / 3489660928) := by
    show _ = _
    omega
  clear hU hT
  obtain ⟨M1, hM1, bM1, dM1⟩ := wrapU ((U : Int) * 4294967296)
  obtain ⟨M2, hM2, bM2, dM2⟩ := wrapU ((M1 : Int) + (T : Int) / 4294967296)
  obtain ⟨M3, hM3, bM3, dM3⟩ := wrapU ((U : Int) / 3489660928 * 14987979559889010688)
  obtain ⟨V, hV, bV, dV⟩ := wrapU ((M2 : Int) - (M3 : Int))
  have eV : Hid ((V : Int) = ((U : Int) - (U : Int) / 3489660928 * 3489660928) * 4294967296 + (T : Int) / 4294967296) := by
    show _ = _
    omega
  have hVb : V < 14987979559889010688 := by have := eV.out; omega
  clear dM1 dM2 dM3 dV
  obtain ⟨N1, hN1, bN1, dN1⟩ := wrapU ((V : Int) * 4294967296)
  obtain ⟨N2, hN2, bN2, dN2⟩ := wrapU ((N1 : Int) + (T : Int) % 4294967296)
  obtain ⟨N3, hN3, bN3, dN3⟩ := wrapU ((V : Int) / 3489660928 * 14987979559889010688)
  obtain ⟨R, hR, bR, dR⟩ := wrapU ((N2 : Int) - (N3 : Int))
  clear dN1 dN2 dN3 dR
  have g1 : decide ((4294967296 : Int) ≤ (U : Int) / 3489660928) = false := by simp only [decide_eq_false_iff_not]; omega
  have g2 : decide ((4294967296 : Int) ≤ (V : Int) / 3489660928) = false := by simp only [decide_eq_false_iff_not]; omega
  go_enter Try.func80, Try.ntmps80
  go_wp2_with (go_at_call 81; refine (hz _).mono ?_; rintro e w' ⟨rfl, rfl⟩)
  go_loop [15, 16] (fun q r => q = .int .u64 ((U : Int) / 3489660928) ∧ r = .int .u64 ((U : Int) - (U : Int) / 3489660928 * 3489660928)) (fun _ _ => 0)
  case atStart => exact ⟨rfl, rfl⟩
  case round =>
    obtain ⟨rfl, rfl⟩ := hrel
    go_wp2
    go_loop [18, 16] (fun q r => q = .int .u64 ((V : Int) / 3489660928) ∧ r = .int .u64 ((V : Int) - (V : Int) / 3489660928 * 3489660928)) (fun _ _ => 0)
    case atStart => exact ⟨rfl, rfl⟩
    case round =>
      obtain ⟨rfl, rfl⟩ := hrel
      go_wp2
      go_ret2
      refine ⟨ret_tup ?_, 0, rfl⟩
      have h1 := hfin.out
      have h2 := eV.out
      omega

set_option maxRecDepth 20000 in
theorem bitsDiv_14 (hi lo : Nat) (hh1 : 0 < hi) (hh : hi < 14) (hl : lo < 18446744073709551616) (w : World) :
    Calls Try.prog 80 #[.int .u64 (hi : Nat), .int .u64 (lo : Nat), .int .u64 ((14 : Nat) : Int)] w fun e w' => (∃ r : Int, e = .returned (.tuple #[.int .u64 (((hi * 18446744073709551616 + lo) / 14 : Nat) : Int), .int .u64 r])) ∧ ∃ n, w' = w.drewN n := by
  have hz := fun w => bitsLead 14 4 (by omega) (by decide +kernel) (by omega) (by omega) w
  have hy0 : bits BinOp.and IntKind.u64 16140901064495857664 4294967295 = 0 := by
    have h := and_mod 16140901064495857664 (by omega)
    simpa using h
  obtain ⟨U, hU⟩ : ∃ U, U = hi * 1152921504606846976 + lo / 16 := ⟨_, rfl⟩
  obtain ⟨T, hT⟩ : ∃ T, T = lo * 1152921504606846976 % 18446744073709551616 := ⟨_, rfl⟩
  have hor : bits BinOp.or IntKind.u64 ((hi : Int) * 1152921504606846976) ((lo : Int) / 16) = (U : Int) := by
    have h := or_plus hi (lo / 16) 60 (by omega) (by omega) (by omega)
    rw [hU]
    simpa using h
  have hw : IntKind.u64.wrap ((lo : Int) * 1152921504606846976) = (T : Int) := by
    rw [IntKind.wrap_u64, hT]; omega
  have hand : bits BinOp.and IntKind.u64 (T : Int) 4294967295 = (T : Int) % 4294967296 := and_mod T (by omega)
  have hUb : U < 16140901064495857664 := by omega
  have hTb : T < 18446744073709551616 := by omega
  have hfin : Hid ((hi * 18446744073709551616 + lo) / 14 = (U * 4294967296 + T / 4294967296) / 3758096384) := by
    show _ = _
    omega
  clear hU hT
  obtain ⟨M1, hM1, bM1, dM1⟩ := wrapU ((U : Int) * 4294967296)
  obtain ⟨M2, hM2, bM2, dM2⟩ := wrapU ((M1 : Int) + (T : Int) / 4294967296)
  obtain ⟨M3, hM3, bM3, dM3⟩ := wrapU ((U : Int) / 3758096384 * 16140901064495857664)
  obtain ⟨V, hV, bV, dV⟩ := wrapU ((M2 : Int) - (M3 : Int))
  have eV : Hid ((V : Int) = ((U : Int) - (U : Int) / 3758096384 * 3758096384) * 4294967296 + (T : Int) / 4294967296) := by
    show _ = _
    omega
  have hVb : V < 16140901064495857664 := by have := eV.out; omega
  clear dM1 dM2 dM3 dV
  obtain ⟨N1, hN1, bN1, dN1⟩ := wrapU ((V : Int) * 4294967296)
  obtain ⟨N2, hN2, bN2, dN2⟩ := wrapU ((N1 : Int) + (T : Int) % 4294967296)
  obtain ⟨N3, hN3, bN3, dN3⟩ := wrapU ((V : Int) / 3758096384 * 16140901064495857664)
  obtain ⟨R, hR, bR, dR⟩ := wrapU ((N2 : Int) - (N3 : Int))
  clear dN1 dN2 dN3 dR
  have g1 : decide ((4294967296 : Int) ≤ (U : Int) / 3758096384) = false := by simp only [decide_eq_false_iff_not]; omega
  have g2 : decide ((4294967296 : Int) ≤ (V : Int) / 3758096384) = false := by simp only [decide_eq_false_iff_not]; omega
  go_enter Try.func80, Try.ntmps80
  go_wp2_with (go_at_call 81; refine (hz _).mono ?_; rintro e w' ⟨rfl, rfl⟩)
  go_loop [15, 16] (fun q r => q = .int .u64 ((U : Int) / 3758096384) ∧ r = .int .u64 ((U : Int) - (U : Int) / 3758096384 * 3758096384)) (fun _ _ => 0)
  case atStart => exact ⟨rfl, rfl⟩
  case round =>
    obtain ⟨rfl, rfl⟩ := hrel
    go_wp2
    go_loop [18, 16] (fun q r => q = .int .u64 ((V : Int) / 3758096384) ∧ r = .int .u64 ((V : Int) - (V : Int) / 3758096384 * 3758096384)) (fun _ _ => 0)
    case atStart => exact ⟨rfl, rfl⟩
    case round =>
      obtain ⟨rfl, rfl⟩ := hrel
      go_wp2
      go_ret2
      refine ⟨ret_tup ?_, 0, rfl⟩
      have h1 := hfin.out
      have h2 := eV.out
      omega

set_option maxRecDepth 20000 in
theorem bitsDiv_15 (hi lo : Nat) (hh1 : 0 < hi) (hh : hi < 15) (hl : lo < 18446744073709551616) (w : World) :
    Calls Try.prog 80 #[.int .u64 (hi : Nat), .int .u64 (lo : Nat), .int .u64 ((15 : Nat) : Int)] w fun e w' => (∃ r : Int, e = .returned (.tuple #[.int .u64 (((hi * 18446744073709551616 + lo) / 15 : Nat) : Int), .int .u64 r])) ∧ ∃ n, w' = w.drewN n := by
  have hz := fun w => bitsLead 15 4 (by omega) (by decide +kernel) (by omega) (by omega) w
  have hy0 : bits BinOp.and IntKind.u64 17293822569102704640 4294967295 = 0 := by
    have h := and_mod 17293822569102704640 (by omega)
    simpa using h
  obtain ⟨U, hU⟩ : ∃ U, U = hi * 1152921504606846976 + lo / 16 := ⟨_, rfl⟩
  obtain ⟨T, hT⟩ : ∃ T, T = lo * 1152921504606846976 % 18446744073709551616 := ⟨_, rfl⟩
  have hor : bits BinOp.or IntKind.u64 ((hi : Int) * 1152921504606846976) ((lo : Int) / 16) = (U : Int) := by
    have h := or_plus hi (lo / 16) 60 (by omega) (by omega) (by omega)
    rw [hU]
    simpa using h
  have hw : IntKind.u64.wrap ((lo : Int) * 1152921504606846976) = (T : Int) := by
    rw [IntKind.wrap_u64, hT]; omega
  have hand : bits BinOp.and IntKind.u64 (T : Int) 4294967295 = (T : Int) % 4294967296 := and_mod T (by omega)
  have hUb : U < 17293822569102704640 := by omega
  have hTb : T < 18446744073709551616 := by omega
  have hfin : Hid ((hi * 18446744073709551616 + lo) / 15 = (U * 4294967296 + T / 4294967296) / 4026531840) := by
    show _ = _
    omega
  clear hU hT
  obtain ⟨M1, hM1, bM1, dM1⟩ := wrapU ((U : Int) * 4294967296)
  obtain ⟨M2, hM2, bM2, dM2⟩ := wrapU ((M1 : Int) + (T : Int) / 4294967296)
  obtain ⟨M3, hM3, bM3, dM3⟩ := wrapU ((U : Int) / 4026531840 * 17293822569102704640)
  obtain ⟨V, hV, bV, dV⟩ := wrapU ((M2 : Int) - (M3 : Int))
  have eV : Hid ((V : Int) = ((U : Int) - (U : Int) / 4026531840 * 4026531840) * 4294967296 + (T : Int) / 4294967296) := by
    show _ = _
    omega
  have hVb : V < 17293822569102704640 := by have := eV.out; omega
  clear dM1 dM2 dM3 dV
  obtain ⟨N1, hN1, bN1, dN1⟩ := wrapU ((V : Int) * 4294967296)
  obtain ⟨N2, hN2, bN2, dN2⟩ := wrapU ((N1 : Int) + (T : Int) % 4294967296)
  obtain ⟨N3, hN3, bN3, dN3⟩ := wrapU ((V : Int) / 4026531840 * 17293822569102704640)
  obtain ⟨R, hR, bR, dR⟩ := wrapU ((N2 : Int) - (N3 : Int))
  clear dN1 dN2 dN3 dR
  have g1 : decide ((4294967296 : Int) ≤ (U : Int) / 4026531840) = false := by simp only [decide_eq_false_iff_not]; omega
  have g2 : decide ((4294967296 : Int) ≤ (V : Int) / 4026531840) = false := by simp only [decide_eq_false_iff_not]; omega
  go_enter Try.func80, Try.ntmps80
  go_wp2_with (go_at_call 81; refine (hz _).mono ?_; rintro e w' ⟨rfl, rfl⟩)
  go_loop [15, 16] (fun q r => q = .int .u64 ((U : Int) / 4026531840) ∧ r = .int .u64 ((U : Int) - (U : Int) / 4026531840 * 4026531840)) (fun _ _ => 0)
  case atStart => exact ⟨rfl, rfl⟩
  case round =>
    obtain ⟨rfl, rfl⟩ := hrel
    go_wp2
    go_loop [18, 16] (fun q r => q = .int .u64 ((V : Int) / 4026531840) ∧ r = .int .u64 ((V : Int) - (V : Int) / 4026531840 * 4026531840)) (fun _ _ => 0)
    case atStart => exact ⟨rfl, rfl⟩
    case round =>
      obtain ⟨rfl, rfl⟩ := hrel
      go_wp2
      go_ret2
      refine ⟨ret_tup ?_, 0, rfl⟩
      have h1 := hfin.out
      have h2 := eV.out
      omega

set_option maxRecDepth 20000 in
theorem bitsDiv_16 (hi lo : Nat) (hh1 : 0 < hi) (hh : hi < 16) (hl : lo < 18446744073709551616) (w : World) :
    Calls Try.prog 80 #[.int .u64 (hi : Nat), .int .u64 (lo : Nat), .int .u64 ((16 : Nat) : Int)] w fun e w' => (∃ r : Int, e = .returned (.tuple #[.int .u64 (((hi * 18446744073709551616 + lo) / 16 : Nat) : Int), .int .u64 r])) ∧ ∃ n, w' = w.drewN n := by
  have hz := fun w => bitsLead 16 5 (by omega) (by decide +kernel) (by omega) (by omega) w
  have hy0 : bits BinOp.and IntKind.u64 9223372036854775808 4294967295 = 0 := by
    have h := and_mod 9223372036854775808 (by omega)
    simpa using h
  obtain ⟨U, hU⟩ : ∃ U, U = hi * 576460752303423488 + lo / 32 := ⟨_, rfl⟩
  obtain ⟨T, hT⟩ : ∃ T, T = lo * 576460752303423488 % 18446744073709551616 := ⟨_, rfl⟩
  have hor : bits BinOp.or IntKind.u64 ((hi : Int) * 576460752303423488) ((lo : Int) / 32) = (U : Int) := by
    have h := or_plus hi (lo / 32) 59 (by omega) (by omega) (by omega)
    rw [hU]
    simpa using h
  have hw : IntKind.u64.wrap ((lo : Int) * 576460752303423488) = (T : Int) := by
    rw [IntKind.wrap_u64, hT]; omega
  have hand : bits BinOp.and IntKind.u64 (T : Int) 4294967295 = (T : Int) % 4294967296 := and_mod T (by omega)
  have hUb : U < 9223372036854775808 := by omega
  have hTb : T < 18446744073709551616 := by omega
  have hfin : Hid ((hi * 18446744073709551616 + lo) / 16 = (U * 4294967296 + T / 4294967296) / 2147483648) := by
    show _ = _
    omega
  clear hU hT
  obtain ⟨M1, hM1, bM1, dM1⟩ := wrapU ((U : Int) * 4294967296)
  obtain ⟨M2, hM2, bM2, dM2⟩ := wrapU ((M1 : Int) + (T : Int) / 4294967296)
  obtain ⟨M3, hM3, bM3, dM3⟩ := wrapU ((U : Int) / 2147483648 * 9223372036854775808)
  obtain ⟨V, hV, bV, dV⟩ := wrapU ((M2 : Int) - (M3 : Int))
  have eV : Hid ((V : Int) = ((U : Int) - (U : Int) / 2147483648 * 2147483648) * 4294967296 + (T : Int) / 4294967296) := by
    show _ = _
    omega
  have hVb : V < 9223372036854775808 := by have := eV.out; omega
  clear dM1 dM2 dM3 dV
  obtain ⟨N1, hN1, bN1, dN1⟩ := wrapU ((V : Int) * 4294967296)
  obtain ⟨N2, hN2, bN2, dN2⟩ := wrapU ((N1 : Int) + (T : Int) % 4294967296)
  obtain ⟨N3, hN3, bN3, dN3⟩ := wrapU ((V : Int) / 2147483648 * 9223372036854775808)
  obtain ⟨R, hR, bR, dR⟩ := wrapU ((N2 : Int) - (N3 : Int))
  clear dN1 dN2 dN3 dR
  have g1 : decide ((4294967296 : Int) ≤ (U : Int) / 2147483648) = false := by simp only [decide_eq_false_iff_not]; omega
  have g2 : decide ((4294967296 : Int) ≤ (V : Int) / 2147483648) = false := by simp only [decide_eq_false_iff_not]; omega
  go_enter Try.func80, Try.ntmps80
  go_wp2_with (go_at_call 81; refine (hz _).mono ?_; rintro e w' ⟨rfl, rfl⟩)
  go_loop [15, 16] (fun q r => q = .int .u64 ((U : Int) / 2147483648) ∧ r = .int .u64 ((U : Int) - (U : Int) / 2147483648 * 2147483648)) (fun _ _ => 0)
  case atStart => exact ⟨rfl, rfl⟩
  case round =>
    obtain ⟨rfl, rfl⟩ := hrel
    go_wp2
    go_loop [18, 16] (fun q r => q = .int .u64 ((V : Int) / 2147483648) ∧ r = .int .u64 ((V : Int) - (V : Int) / 2147483648 * 2147483648)) (fun _ _ => 0)
    case atStart => exact ⟨rfl, rfl⟩
    case round =>
      obtain ⟨rfl, rfl⟩ := hrel
      go_wp2
      go_ret2
      refine ⟨ret_tup ?_, 0, rfl⟩
      have h1 := hfin.out
      have h2 := eV.out
      omega

set_option maxRecDepth 20000 in
theorem bitsDiv_17 (hi lo : Nat) (hh1 : 0 < hi) (hh : hi < 17) (hl : lo < 18446744073709551616) (w : World) :
    Calls Try.prog 80 #[.int .u64 (hi : Nat), .int .u64 (lo : Nat), .int .u64 ((17 : Nat) : Int)] w fun e w' => (∃ r : Int, e = .returned (.tuple #[.int .u64 (((hi * 18446744073709551616 + lo) / 17 : Nat) : Int), .int .u64 r])) ∧ ∃ n, w' = w.drewN n := by
  have hz := fun w => bitsLead 17 5 (by omega) (by decide +kernel) (by omega) (by omega) w
  have hy0 : bits BinOp.and IntKind.u64 9799832789158199296 4294967295 = 0 := by
    have h := and_mod 9799832789158199296 (by omega)
    simpa using h
  obtain ⟨U, hU⟩ : ∃ U, U = hi * 576460752303423488 + lo / 32 := ⟨_, rfl⟩
  obtain ⟨T, hT⟩ : ∃ T, T = lo * 576460752303423488 % 18446744073709551616 := ⟨_, rfl⟩
  have hor : bits BinOp.or IntKind.u64 ((hi : Int) * 576460752303423488) ((lo : Int) / 32) = (U : Int) := by
    have h := or_plus hi (lo / 32) 59 (by omega) (by omega) (by omega)
    rw [hU]
    simpa using h
  have hw : IntKind.u64.wrap ((lo : Int) * 576460752303423488) = (T : Int) := by
    rw [IntKind.wrap_u64, hT]; omega
  have hand : bits BinOp.and IntKind.u64 (T : Int) 4294967295 = (T : Int) % 4294967296 := and_mod T (by omega)
  have hUb : U < 9799832789158199296 := by omega
  have hTb : T < 18446744073709551616 := by omega
  have hfin : Hid ((hi * 18446744073709551616 + lo) / 17 = (U * 4294967296 + T / 4294967296) / 2281701376) := by
    show _ = _
    omega
  clear hU hT
  obtain ⟨M1, hM1, bM1, dM1⟩ := wrapU ((U : Int) * 4294967296)
  obtain ⟨M2, hM2, bM2, dM2⟩ := wrapU ((M1 : Int) + (T : Int) / 4294967296)
  obtain ⟨M3, hM3, bM3, dM3⟩ := wrapU ((U : Int) / 2281701376 * 9799832789158199296)
  obtain ⟨V, hV, bV, dV⟩ := wrapU ((M2 : Int) - (M3 : Int))
  have eV : Hid ((V : Int) = ((U : Int) - (U : Int) / 2281701376 * 2281701376) * 4294967296 + (T : Int) / 4294967296) := by
    show _ = _
    omega
  have hVb : V < 9799832789158199296 := by have := eV.out; omega
  clear dM1 dM2 dM3 dV
  obtain ⟨N1, hN1, bN1, dN1⟩ := wrapU ((V : Int) * 4294967296)
  obtain ⟨N2, hN2, bN2, dN2⟩ := wrapU ((N1 : Int) + (T : Int) % 4294967296)
  obtain ⟨N3, hN3, bN3, dN3⟩ := wrapU ((V : Int) / 2281701376 * 9799832789158199296)
  obtain ⟨R, hR, bR, dR⟩ := wrapU ((N2 : Int) - (N3 : Int))
  clear dN1 dN2 dN3 dR
  have g1 : decide ((4294967296 : Int) ≤ (U : Int) / 2281701376) = false := by simp only [decide_eq_false_iff_not]; omega
  have g2 : decide ((4294967296 : Int) ≤ (V : Int) / 2281701376) = false := by simp only [decide_eq_false_iff_not]; omega
  go_enter Try.func80, Try.ntmps80
  go_wp2_with (go_at_call 81; refine (hz _).mono ?_; rintro e w' ⟨rfl, rfl⟩)
  go_loop [15, 16] (fun q r => q = .int .u64 ((U : Int) / 2281701376) ∧ r = .int .u64 ((U : Int) - (U : Int) / 2281701376 * 2281701376)) (fun _ _ => 0)
  case atStart => exact ⟨rfl, rfl⟩
  case round =>
    obtain ⟨rfl, rfl⟩ := hrel
    go_wp2
    go_loop [18, 16] (fun q r => q = .int .u64 ((V : Int) / 2281701376) ∧ r = .int .u64 ((V : Int) - (V : Int) / 2281701376 * 2281701376)) (fun _ _ => 0)
    case atStart => exact ⟨rfl, rfl⟩
    case round =>
      obtain ⟨rfl, rfl⟩ := hrel
      go_wp2
      go_ret2
      refine ⟨ret_tup ?_, 0, rfl⟩
      have h1 := hfin.out
      have h2 := eV.out
      omega

end Go.Proofs.Ythncgocjegalhaa.Nm
