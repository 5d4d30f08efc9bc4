
/- Contracts of math/bits.Div64 at the divisors 18 to 25: the quotient of two words by a small number, the library's own text walked. -/

import Derived.Test.YthncgocjegalhaaNDiv0

namespace Go.Proofs.Ythncgocjegalhaa.Nm

open Go.RowKit

set_option linter.unusedVariables false

set_option maxRecDepth 20000 in
theorem bitsDiv_18 (hi lo : Nat) (hh1 : 0 < hi) (hh : hi < 18) (hl : lo < 18446744073709551616) (w : World) :
    Calls Try.prog 80 #[.int .u64 (hi : Nat), .int .u64 (lo : Nat), .int .u64 ((18 : Nat) : Int)] w fun e w' => (∃ r : Int, e = .returned (.tuple #[.int .u64 (((hi * 18446744073709551616 + lo) / 18 : Nat) : Int), .int .u64 r])) ∧ ∃ n, w' = w.drewN n := by
  have hz := fun w => bitsLead 18 5 (by omega) (by decide +kernel) (by omega) (by omega) w
  have hy0 : bits BinOp.and IntKind.u64 10376293541461622784 4294967295 = 0 := by
    have h := and_mod 10376293541461622784 (by omega)
    simpa using h
  obtain ⟨U, hU⟩ : ∃ U, U = hi * 576460752303423488 + lo / 32 := ⟨_, rfl⟩
  obtain ⟨T, hT⟩ : ∃ T, T = lo * 576460752303423488 % 18446744073709551616 := ⟨_, rfl⟩
  have hor : bits BinOp.or IntKind.u64 ((hi : Int) * 576460752303423488) ((lo : Int) / 32) = (U : Int) := by
    have h := or_plus hi (lo / 32) 59 (by omega) (by omega) (by omega)
    rw [hU]
    simpa using h
  have hw : IntKind.u64.wrap ((lo : Int) * 576460752303423488) = (T : Int) := by
    rw [IntKind.wrap_u64, hT]; omega
  have hand : bits BinOp.and IntKind.u64 (T : Int) 4294967295 = (T : Int) % 4294967296 := and_mod T (by omega)
  have hUb : U < 10376293541461622784 := by omega
  have hTb : T < 18446744073709551616 := by omega
  have hfin : Hid ((hi * 18446744073709551616 + lo) / 18 = (U * 4294967296 + T / 4294967296) / 2415919104) := by
    show _ = _
    omega
  clear hU hT
  obtain ⟨M1, hM1, bM1, dM1⟩ := wrapU ((U : Int) * 4294967296)
  obtain ⟨M2, hM2, bM2, dM2⟩ := wrapU ((M1 : Int) + (T : Int) / 4294967296)
  obtain ⟨M3, hM3, bM3, dM3⟩ := wrapU ((U : Int) / 2415919104 * 10376293541461622784)
  obtain ⟨V, hV, bV, dV⟩ := wrapU ((M2 : Int) - (M3 : Int))
  have eV : Hid ((V : Int) = ((U : Int) - (U : Int) / 2415919104 * 2415919104) * 4294967296 + (T : Int) / 4294967296) := by
    show _ = _
    omega
  have hVb : V < 10376293541461622784 := by have := eV.out; omega
  clear dM1 dM2 dM3 dV
  obtain ⟨N1, hN1, bN1, dN1⟩ := wrapU ((V : Int) * 4294967296)
  obtain ⟨N2, hN2, bN2, dN2⟩ := wrapU ((N1 : Int) + (T : Int) % 4294967296)
  obtain ⟨N3, hN3, bN3, dN3⟩ := wrapU ((V : Int) / 2415919104 * 10376293541461622784)
  obtain ⟨R, hR, bR, dR⟩ := wrapU ((N2 : Int) - (N3 : Int))
  clear dN1 dN2 dN3 dR
  have g1 : decide ((4294967296 : Int) ≤ (U : Int) / 2415919104) = false := by simp only [decide_eq_false_iff_not]; omega
  have g2 : decide ((4294967296 : Int) ≤ (V : Int) / 2415919104) = false := by simp only [decide_eq_false_iff_not]; omega
  go_enter Try.func80, Try.ntmps80
  go_wp2_with (go_at_call 81; refine (hz _).mono ?_; rintro e w' ⟨rfl, rfl⟩)
  go_loop [15, 16] (fun q r => q = .int .u64 ((U : Int) / 2415919104) ∧ r = .int .u64 ((U : Int) - (U : Int) / 2415919104 * 2415919104)) (fun _ _ => 0)
  case atStart => exact ⟨rfl, rfl⟩
  case round =>
    obtain ⟨rfl, rfl⟩ := hrel
    go_wp2
    go_loop [18, 16] (fun q r => q = .int .u64 ((V : Int) / 2415919104) ∧ r = .int .u64 ((V : Int) - (V : Int) / 2415919104 * 2415919104)) (fun _ _ => 0)
    case atStart => exact ⟨rfl, rfl⟩
    case round =>
      obtain ⟨rfl, rfl⟩ := hrel
      go_wp2
      go_ret2
      refine ⟨ret_tup ?_, 0, rfl⟩
      have h1 := hfin.out
      have h2 := eV.out
      omega

set_option maxRecDepth 20000 in
theorem bitsDiv_19 (hi lo : Nat) (hh1 : 0 < hi) (hh : hi < 19) (hl : lo < 18446744073709551616) (w : World) :
    Calls Try.prog 80 #[.int .u64 (hi : Nat), .int .u64 (lo : Nat), .int .u64 ((19 : Nat) : Int)] w fun e w' => (∃ r : Int, e = .returned (.tuple #[.int .u64 (((hi * 18446744073709551616 + lo) / 19 : Nat) : Int), .int .u64 r])) ∧ ∃ n, w' = w.drewN n := by
  have hz := fun w => bitsLead 19 5 (by omega) (by decide +kernel) (by omega) (by omega) w
  have hy0 : bits BinOp.and IntKind.u64 10952754293765046272 4294967295 = 0 := by
    have h := and_mod 10952754293765046272 (by omega)
    simpa using h
  obtain ⟨U, hU⟩ : ∃ U, U = hi * 576460752303423488 + lo / 32 := ⟨_, rfl⟩
  obtain ⟨T, hT⟩ : ∃ T, T = lo * 576460752303423488 % 18446744073709551616 := ⟨_, rfl⟩
  have hor : bits BinOp.or IntKind.u64 ((hi : Int) * 576460752303423488) ((lo : Int) / 32) = (U : Int) := by
    have h := or_plus hi (lo / 32) 59 (by omega) (by omega) (by omega)
    rw [hU]
    simpa using h
  have hw : IntKind.u64.wrap ((lo : Int) * 576460752303423488) = (T : Int) := by
    rw [IntKind.wrap_u64, hT]; omega
  have hand : bits BinOp.and IntKind.u64 (T : Int) 4294967295 = (T : Int) % 4294967296 := and_mod T (by omega)
  have hUb : U < 10952754293765046272 := by omega
  have hTb : T < 18446744073709551616 := by omega
  have hfin : Hid ((hi * 18446744073709551616 + lo) / 19 = (U * 4294967296 + T / 4294967296) / 2550136832) := by
    show _ = _
    omega
  clear hU hT
  obtain ⟨M1, hM1, bM1, dM1⟩ := wrapU ((U : Int) * 4294967296)
  obtain ⟨M2, hM2, bM2, dM2⟩ := wrapU ((M1 : Int) + (T : Int) / 4294967296)
  obtain ⟨M3, hM3, bM3, dM3⟩ := wrapU ((U : Int) / 2550136832 * 10952754293765046272)
  obtain ⟨V, hV, bV, dV⟩ := wrapU ((M2 : Int) - (M3 : Int))
  have eV : Hid ((V : Int) = ((U : Int) - (U : Int) / 2550136832 * 2550136832) * 4294967296 + (T : Int) / 4294967296) := by
    show _ = _
    omega
  have hVb : V < 10952754293765046272 := by have := eV.out; omega
  clear dM1 dM2 dM3 dV
  obtain ⟨N1, hN1, bN1, dN1⟩ := wrapU ((V : Int) * 4294967296)
  obtain ⟨N2, hN2, bN2, dN2⟩ := wrapU ((N1 : Int) + (T : Int) % 4294967296)
  obtain ⟨N3, hN3, bN3, dN3⟩ := wrapU ((V : Int) / 2550136832 * 10952754293765046272)
  obtain ⟨R, hR, bR, dR⟩ := wrapU ((N2 : Int) - (N3 : Int))
  clear dN1 dN2 dN3 dR
  have g1 : decide ((4294967296 : Int) ≤ (U : Int) / 2550136832) = false := by simp only [decide_eq_false_iff_not]; omega
  have g2 : decide ((4294967296 : Int) ≤ (V : Int) / 2550136832) = false := by simp only [decide_eq_false_iff_not]; omega
  go_enter Try.func80, Try.ntmps80
  go_wp2_with (go_at_call 81; refine (hz _).mono ?_; rintro e w' ⟨rfl, rfl⟩)
  go_loop [15, 16] (fun q r => q = .int .u64 ((U : Int) / 2550136832) ∧ r = .int .u64 ((U : Int) - (U : Int) / 2550136832 * 2550136832)) (fun _ _ => 0)
  case atStart => exact ⟨rfl, rfl⟩
  case round =>
    obtain ⟨rfl, rfl⟩ := hrel
    go_wp2
    go_loop [18, 16] (fun q r => q = .int .u64 ((V : Int) / 2550136832) ∧ r = .int .u64 ((V : Int) - (V : Int) / 2550136832 * 2550136832)) (fun _ _ => 0)
    case atStart => exact ⟨rfl, rfl⟩
    case round =>
      obtain ⟨rfl, rfl⟩ := hrel
      go_wp2
      go_ret2
      refine ⟨ret_tup ?_, 0, rfl⟩
      have h1 := hfin.out
      have h2 := eV.out
      omega

set_option maxRecDepth 20000 in
theorem bitsDiv_20 (hi lo : Nat) (hh1 : 0 < hi) (hh : hi < 20) (hl : lo < 18446744073709551616) (w : World) :
    Calls Try.prog 80 #[.int .u64 (hi : Nat), .int .u64 (lo : Nat), .int .u64 ((20 : Nat) : Int)] w fun e w' => (∃ r : Int, e = .returned (.tuple #[.int .u64 (((hi * 18446744073709551616 + lo) / 20 : Nat) : Int), .int .u64 r])) ∧ ∃ n, w' = w.drewN n := by
  have hz := fun w => bitsLead 20 5 (by omega) (by decide +kernel) (by omega) (by omega) w
  have hy0 : bits BinOp.and IntKind.u64 11529215046068469760 4294967295 = 0 := by
    have h := and_mod 11529215046068469760 (by omega)
    simpa using h
  obtain ⟨U, hU⟩ : ∃ U, U = hi * 576460752303423488 + lo / 32 := ⟨_, rfl⟩
  obtain ⟨T, hT⟩ : ∃ T, T = lo * 576460752303423488 % 18446744073709551616 := ⟨_, rfl⟩
  have hor : bits BinOp.or IntKind.u64 ((hi : Int) * 576460752303423488) ((lo : Int) / 32) = (U : Int) := by
    have h := or_plus hi (lo / 32) 59 (by omega) (by omega) (by omega)
    rw [hU]
    simpa using h
  have hw : IntKind.u64.wrap ((lo : Int) * 576460752303423488) = (T : Int) := by
    rw [IntKind.wrap_u64, hT]; omega
  have hand : bits BinOp.and IntKind.u64 (T : Int) 4294967295 = (T : Int) % 4294967296 := and_mod T (by omega)
  have hUb : U < 11529215046068469760 := by omega
  have hTb : T < 18446744073709551616 := by omega
  have hfin : Hid ((hi * 18446744073709551616 + lo) / 20 = (U * 4294967296 + T / 4294967296) / 2684354560) := by
    show _ = _
    omega
  clear hU hT
  obtain ⟨M1, hM1, bM1, dM1⟩ := wrapU ((U : Int) * 4294967296)
  obtain ⟨M2, hM2, bM2, dM2⟩ := wrapU ((M1 : Int) + (T : Int) / 4294967296)
  obtain ⟨M3, hM3, bM3, dM3⟩ := wrapU ((U : Int) / 2684354560 * 11529215046068469760)
  obtain ⟨V, hV, bV, dV⟩ := wrapU ((M2 : Int) - (M3 : Int))
  have eV : Hid ((V : Int) = ((U : Int) - (U : Int) / 2684354560 * 2684354560) * 4294967296 + (T : Int) / 4294967296) := by
    show _ = _
    omega
  have hVb : V < 11529215046068469760 := by have := eV.out; omega
  clear dM1 dM2 dM3 dV
  obtain ⟨N1, hN1, bN1, dN1⟩ := wrapU ((V : Int) * 4294967296)
  obtain ⟨N2, hN2, bN2, dN2⟩ := wrapU ((N1 : Int) + (T : Int) % 4294967296)
  obtain ⟨N3, hN3, bN3, dN3⟩ := wrapU ((V : Int) / 2684354560 * 11529215046068469760)
  obtain ⟨R, hR, bR, dR⟩ := wrapU ((N2 : Int) - (N3 : Int))
  clear dN1 dN2 dN3 dR
  have g1 : decide ((4294967296 : Int) ≤ (U : Int) / 2684354560) = false := by simp only [decide_eq_false_iff_not]; omega
  have g2 : decide ((4294967296 : Int) ≤ (V : Int) / 2684354560) = false := by simp only [decide_eq_false_iff_not]; omega
  go_enter Try.func80, Try.ntmps80
  go_wp2_with (go_at_call 81; refine (hz _).mono ?_; rintro e w' ⟨rfl, rfl⟩)
  go_loop [15, 16] (fun q r => q = .int .u64 ((U : Int) / 2684354560) ∧ r = .int .u64 ((U : Int) - (U : Int) / 2684354560 * 2684354560)) (fun _ _ => 0)
  case atStart => exact ⟨rfl, rfl⟩
  case round =>
    obtain ⟨rfl, rfl⟩ := hrel
    go_wp2
    go_loop [18, 16] (fun q r => q = .int .u64 ((V : Int) / 2684354560) ∧ r = .int .u64 ((V : Int) - (V : Int) / 2684354560 * 2684354560)) (fun _ _ => 0)
    case atStart => exact ⟨rfl, rfl⟩
    case round =>
      obtain ⟨rfl, rfl⟩ := hrel
      go_wp2
      go_ret2
      refine ⟨ret_tup ?_, 0, rfl⟩
      have h1 := hfin.out
      have h2 := eV.out
      omega

set_option maxRecDepth 20000 in
theorem bitsDiv_21 (hi lo : Nat) (hh1 : 0 < hi) (hh : hi < 21) (hl : lo < 18446744073709551616) (w : World) :
    Calls Try.prog 80 #[.int .u64 (hi : Nat), .int .u64 (lo : Nat), .int .u64 ((21 : Nat) : Int)] w fun e w' => (∃ r : Int, e = .returned (.tuple #[.int .u64 (((hi * 18446744073709551616 + lo) / 21 : Nat) : Int), .int .u64 r])) ∧ ∃ n, w' = w.drewN n := by
  have hz := fun w => bitsLead 21 5 (by omega) (by decide +kernel) (by omega) (by omega) w
  have hy0 : bits BinOp.and IntKind.u64 12105675798371893248 4294967295 = 0 := by
    have h := and_mod 12105675798371893248 (by omega)
    simpa using h
  obtain ⟨U, hU⟩ : ∃ U, U = hi * 576460752303423488 + lo / 32 := ⟨_, rfl⟩
  obtain ⟨T, hT⟩ : ∃ T, T = lo * 576460752303423488 % 18446744073709551616 := ⟨_, rfl⟩
  have hor : bits BinOp.or IntKind.u64 ((hi : Int) * 576460752303423488) ((lo : Int) / 32) = (U : Int) := by
    have h := or_plus hi (lo / 32) 59 (by omega) (by omega) (by omega)
    rw [hU]
    simpa using h
  have hw : IntKind.u64.wrap ((lo : Int) * 576460752303423488) = (T : Int) := by
    rw [IntKind.wrap_u64, hT]; omega
  have hand : bits BinOp.and IntKind.u64 (T : Int) 4294967295 = (T : Int) % 4294967296 := and_mod T (by omega)
  have hUb : U < 12105675798371893248 := by omega
  have hTb : T < 18446744073709551616 := by omega
  have hfin : Hid ((hi * 18446744073709551616 + lo) / 21 = (U * 4294967296 + T / 4294967296) / 2818572288) := by
    show _ = _
    omega
  clear hU hT
  obtain ⟨M1, hM1, bM1, dM1⟩ := wrapU ((U : Int) * 4294967296)
  obtain ⟨M2, hM2, bM2, dM2⟩ := wrapU ((M1 : Int) + (T : Int) / 4294967296)
  obtain ⟨M3, hM3, bM3, dM3⟩ := wrapU ((U : Int) / 2818572288 * 12105675798371893248)
  obtain ⟨V, hV, bV, dV⟩ := wrapU ((M2 : Int) - (M3 : Int))
  have eV : Hid ((V : Int) = ((U : Int) - (U : Int) / 2818572288 * 2818572288) * 4294967296 + (T : Int) / 4294967296) := by
    show _ = _
    omega
  have hVb : V < 12105675798371893248 := by have := eV.out; omega
  clear dM1 dM2 dM3 dV
  obtain ⟨N1, hN1, bN1, dN1⟩ := wrapU ((V : Int) * 4294967296)
  obtain ⟨N2, hN2, bN2, dN2⟩ := wrapU ((N1 : Int) + (T : Int) % 4294967296)
  obtain ⟨N3, hN3, bN3, dN3⟩ := wrapU ((V : Int) / 2818572288 * 12105675798371893248)
  obtain ⟨R, hR, bR, dR⟩ := wrapU ((N2 : Int) - (N3 : Int))
  clear dN1 dN2 dN3 dR
  have g1 : decide ((4294967296 : Int) ≤ (U : Int) / 2818572288) = false := by simp only [decide_eq_false_iff_not]; omega
  have g2 : decide ((4294967296 : Int) ≤ (V : Int) / 2818572288) = false := by simp only [decide_eq_false_iff_not]; omega
  go_enter Try.func80, Try.ntmps80
  go_wp2_with (go_at_call 81; refine (hz _).mono ?_; rintro e w' ⟨rfl, rfl⟩)
  go_loop [15, 16] (fun q r => q = .int .u64 ((U : Int) / 2818572288) ∧ r = .int .u64 ((U : Int) - (U : Int) / 2818572288 * 2818572288)) (fun _ _ => 0)
  case atStart => exact ⟨rfl, rfl⟩
  case round =>
    obtain ⟨rfl, rfl⟩ := hrel
    go_wp2
    go_loop [18, 16] (fun q r => q = .int .u64 ((V : Int) / 2818572288) ∧ r = .int .u64 ((V : Int) - (V : Int) / 2818572288 * 2818572288)) (fun _ _ => 0)
    case atStart => exact ⟨rfl, rfl⟩
    case round =>
      obtain ⟨rfl, rfl⟩ := hrel
      go_wp2
      go_ret2
      refine ⟨ret_tup ?_, 0, rfl⟩
      have h1 := hfin.out
      have h2 := eV.out
      omega

set_option maxRecDepth 20000 in
theorem bitsDiv_22 (hi lo : Nat) (hh1 : 0 < hi) (hh : hi < 22) (hl : lo < 18446744073709551616) (w : World) :
    Calls Try.prog 80 #[.int .u64 (hi : Nat), .int .u64 (lo : Nat), .int .u64 ((22 : Nat) : Int)] w fun e w' => (∃ r : Int, e = .returned (.tuple #[.int .u64 (((hi * 18446744073709551616 + lo) / 22 : Nat) : Int), .int .u64 r])) ∧ ∃ n, w' = w.drewN n := by
  have hz := fun w => bitsLead 22 5 (by omega) (by decide +kernel) (by omega) (by omega) w
  have hy0 : bits BinOp.and IntKind.u64 12682136550675316736 4294967295 = 0 := by
    have h := and_mod 12682136550675316736 (by omega)
    simpa using h
  obtain ⟨U, hU⟩ : ∃ U, U = hi * 576460752303423488 + lo / 32 := ⟨_, rfl⟩
  obtain ⟨T, hT⟩ : ∃ T, T = lo * 576460752303423488 % 18446744073709551616 := ⟨_, rfl⟩
  have hor : bits BinOp.or IntKind.u64 ((hi : Int) * 576460752303423488) ((lo : Int) / 32) = (U : Int) := by
    have h := or_plus hi (lo / 32) 59 (by omega) (by omega) (by omega)
    rw [hU]
    simpa using h
  have hw : IntKind.u64.wrap ((lo : Int) * 576460752303423488) = (T : Int) := by
    rw [IntKind.wrap_u64, hT]; omega
  have hand : bits BinOp.and IntKind.u64 (T : Int) 4294967295 = (T : Int) % 4294967296 := and_mod T (by omega)
  have hUb : U < 12682136550675316736 := by omega
  have hTb : T < 18446744073709551616 := by omega
  have hfin : Hid ((hi * 18446744073709551616 + lo) / 22 = (U * 4294967296 + T / 4294967296) / 2952790016) := by
    show _ = _
    omega
  clear hU hT
  obtain ⟨M1, hM1, bM1, dM1⟩ := wrapU ((U : Int) * 4294967296)
  obtain ⟨M2, hM2, bM2, dM2⟩ := wrapU ((M1 : Int) + (T : Int) / 4294967296)
  obtain ⟨M3, hM3, bM3, dM3⟩ := wrapU ((U : Int) / 2952790016 * 12682136550675316736)
  obtain ⟨V, hV, bV, dV⟩ := wrapU ((M2 : Int) - (M3 : Int))
  have eV : Hid ((V : Int) = ((U : Int) - (U : Int) / 2952790016 * 2952790016) * 4294967296 + (T : Int) / 4294967296) := by
    show _ = _
    omega
  have hVb : V < 12682136550675316736 := by have := eV.out; omega
  clear dM1 dM2 dM3 dV
  obtain ⟨N1, hN1, bN1, dN1⟩ := wrapU ((V : Int) * 4294967296)
  obtain ⟨N2, hN2, bN2, dN2⟩ := wrapU ((N1 : Int) + (T : Int) % 4294967296)
  obtain ⟨N3, hN3, bN3, dN3⟩ := wrapU ((V : Int) / 2952790016 * 12682136550675316736)
  obtain ⟨R, hR, bR, dR⟩ := wrapU ((N2 : Int) - (N3 : Int))
  clear dN1 dN2 dN3 dR
  have g1 : decide ((4294967296 : Int) ≤ (U : Int) / 2952790016) = false := by simp only [decide_eq_false_iff_not]; omega
  have g2 : decide ((4294967296 : Int) ≤ (V : Int) / 2952790016) = false := by simp only [decide_eq_false_iff_not]; omega
  go_enter Try.func80, Try.ntmps80
  go_wp2_with (go_at_call 81; refine (hz _).mono ?_; rintro e w' ⟨rfl, rfl⟩)
  go_loop [15, 16] (fun q r => q = .int .u64 ((U : Int) / 2952790016) ∧ r = .int .u64 ((U : Int) - (U : Int) / 2952790016 * 2952790016)) (fun _ _ => 0)
  case atStart => exact ⟨rfl, rfl⟩
  case round =>
    obtain ⟨rfl, rfl⟩ := hrel
    go_wp2
    go_loop [18, 16] (fun q r => q = .int .u64 ((V : Int) / 2952790016) ∧ r = .int .u64 ((V : Int) - (V : Int) / 2952790016 * 2952790016)) (fun _ _ => 0)
    case atStart => exact ⟨rfl, rfl⟩
    case round =>
      obtain ⟨rfl, rfl⟩ := hrel
      go_wp2
      go_ret2
      refine ⟨ret_tup ?_, 0, rfl⟩
      have h1 := hfin.out
      have h2 := eV.out
      omega

set_option maxRecDepth 20000 in
theorem bitsDiv_23 (hi lo : Nat) (hh1 : 0 < hi) (hh : hi < 23) (hl : lo < 18446744073709551616) (w : World) :
    Calls Try.prog 80 #[.int .u64 (hi : Nat), .int .u64 (lo : Nat), .int .u64 ((23 : Nat) : Int)] w fun e w' => (∃ r : Int, e = .returned (.tuple #[.int .u64 (((hi * 18446744073709551616 + lo) / 23 : Nat) : Int), .int .u64 r])) ∧ ∃ n, w' = w.drewN n := by
  have hz := fun w => bitsLead 23 5 (by omega) (by decide +kernel) (by omega) (by omega) w
  have hy0 : bits BinOp.and IntKind.u64 13258597302978740224 4294967295 = 0 := by
    have h := and_mod 13258597302978740224 (by omega)
    simpa using h
  obtain ⟨U, hU⟩ : ∃ U, U = hi * 576460752303423488 + lo / 32 := ⟨_, rfl⟩
  obtain ⟨T, hT⟩ : ∃ T, T = lo * 576460752303423488 % 18446744073709551616 := ⟨_, rfl⟩
  have hor : bits BinOp.or IntKind.u64 ((hi : Int) * 576460752303423488) ((lo : Int) / 32) = (U : Int) := by
    have h := or_plus hi (lo / 32) 59 (by omega) (by omega) (by omega)
    rw [hU]
    simpa using h
  have hw : IntKind.u64.wrap ((lo : Int) * 576460752303423488) = (T : Int) := by
    rw [IntKind.wrap_u64, hT]; omega
  have hand : bits BinOp.and IntKind.u64 (T : Int) 4294967295 = (T : Int) % 4294967296 := and_mod T (by omega)
  have hUb : U < 13258597302978740224 := by omega
  have hTb : T < 18446744073709551616 := by omega
  have hfin : Hid ((hi * 18446744073709551616 + lo) / 23 = (U * 4294967296 + T / 4294967296) / 3087007744) := by
    show _ = _
    omega
  clear hU hT
  obtain ⟨M1, hM1, bM1, dM1⟩ := wrapU ((U : Int) * 4294967296)
  obtain ⟨M2, hM2, bM2, dM2⟩ := wrapU ((M1 : Int) + (T : Int) / 4294967296)
  obtain ⟨M3, hM3, bM3, dM3⟩ := wrapU ((U : Int) / 3087007744 * 13258597302978740224)
  obtain ⟨V, hV, bV, dV⟩ := wrapU ((M2 : Int) - (M3 : Int))
  have eV : Hid ((V : Int) = ((U : Int) - (U : Int) / 3087007744 * 3087007744) * 4294967296 + (T : Int) / 4294967296) := by
    show _ = _
    omega
  have hVb : V < 13258597302978740224 := by have := eV.out; omega
  clear dM1 dM2 dM3 dV
  obtain ⟨N1, hN1, bN1, dN1⟩ := wrapU ((V : Int) * 4294967296)
  obtain ⟨N2, hN2, bN2, dN2⟩ := wrapU ((N1 : Int) + (T : Int) % 4294967296)
  obtain ⟨N3, hN3, bN3, dN3⟩ := wrapU ((V : Int) / 3087007744 * 13258597302978740224)
  obtain ⟨R, hR, bR, dR⟩ := wrapU ((N2 : Int) - (N3 : Int))
  clear dN1 dN2 dN3 dR
  have g1 : decide ((4294967296 : Int) ≤ (U : Int) / 3087007744) = false := by simp only [decide_eq_false_iff_not]; omega
  have g2 : decide ((4294967296 : Int) ≤ (V : Int) / 3087007744) = false := by simp only [decide_eq_false_iff_not]; omega
  go_enter Try.func80, Try.ntmps80
  go_wp2_with (go_at_call 81; refine (hz _).mono ?_; rintro e w' ⟨rfl, rfl⟩)
  go_loop [15, 16] (fun q r => q = .int .u64 ((U : Int) / 3087007744) ∧ r = .int .u64 ((U : Int) - (U : Int) / 3087007744 * 3087007744)) (fun _ _ => 0)
  case atStart => exact ⟨rfl, rfl⟩
  case round =>
    obtain ⟨rfl, rfl⟩ := hrel
    go_wp2
    go_loop [18, 16] (fun q r => q = .int .u64 ((V : Int) / 3087007744) ∧ r = .int .u64 ((V : Int) - (V : Int) / 3087007744 * 3087007744)) (fun _ _ => 0)
    case atStart => exact ⟨rfl, rfl⟩
    case round =>
      obtain ⟨rfl, rfl⟩ := hrel
      go_wp2
      go_ret2
      refine ⟨ret_tup ?_, 0, rfl⟩
      have h1 := hfin.out
      have h2 := eV.out
      omega

set_option maxRecDepth 20000 in
theorem bitsDiv_24 (hi lo : Nat) (hh1 : 0 < hi) (hh : hi < 24) (hl : lo < 18446744073709551616) (w : World) :
    Calls Try.prog 80 #[.int .u64 (hi : Nat), .int .u64 (lo : Nat), .int .u64 ((24 : Nat) : Int)] w fun e w' => (∃ r : Int, e = .returned (.tuple #[.int .u64 (((hi * 18446744073709551616 + lo) / 24 : Nat) : Int), .int .u64 r])) ∧ ∃ n, w' = w.drewN n := by
  have hz := fun w => bitsLead 24 5 (by omega) (by decide +kernel) (by omega) (by omega) w
  have hy0 : bits BinOp.and IntKind.u64 13835058055282163712 4294967295 = 0 := by
    have h := and_mod 13835058055282163712 (by omega)
    simpa using h
  obtain ⟨U, hU⟩ : ∃ U, U = hi * 576460752303423488 + lo / 32 := ⟨_, rfl⟩
  obtain ⟨T, hT⟩ : ∃ T, T = lo * 576460752303423488 % 18446744073709551616 := ⟨_, rfl⟩
  have hor : bits BinOp.or IntKind.u64 ((hi : Int) * 576460752303423488) ((lo : Int) / 32) = (U : Int) := by
    have h := or_plus hi (lo / 32) 59 (by omega) (by omega) (by omega)
    rw [hU]
    simpa using h
  have hw : IntKind.u64.wrap ((lo : Int) * 576460752303423488) = (T : Int) := by
    rw [IntKind.wrap_u64, hT]; omega
  have hand : bits BinOp.and IntKind.u64 (T : Int) 4294967295 = (T : Int) % 4294967296 := and_mod T (by omega)
  have hUb : U < 13835058055282163712 := by omega
  have hTb : T < 18446744073709551616 := by omega
  have hfin : Hid ((hi * 18446744073709551616 + lo) / 24 = (U * 4294967296 + T / 4294967296) / 3221225472) := by
    show _ = _
    omega
  clear hU hT
  obtain ⟨M1, hM1, bM1, dM1⟩ := wrapU ((U : Int) * 4294967296)
  obtain ⟨M2, hM2, bM2, dM2⟩ := wrapU ((M1 : Int) + (T : Int) / 4294967296)
  obtain ⟨M3, hM3, bM3, dM3⟩ := wrapU ((U : Int) / 3221225472 * 13835058055282163712)
  obtain ⟨V, hV, bV, dV⟩ := wrapU ((M2 : Int) - (M3 : Int))
  have eV : Hid ((V : Int) = ((U : Int) - (U : Int) / 3221225472 * 3221225472) * 4294967296 + (T : Int) / 4294967296) := by
    show _ = _
    omega
  have hVb : V < 13835058055282163712 := by have := eV.out; omega
  clear dM1 dM2 dM3 dV
  obtain ⟨N1, hN1, bN1, dN1⟩ := wrapU ((V : Int) * 4294967296)
  obtain ⟨N2, hN2, bN2, dN2⟩ := wrapU ((N1 : Int) + (T : Int) % 4294967296)
  obtain ⟨N3, hN3, bN3, dN3⟩ := wrapU ((V : Int) / 3221225472 * 13835058055282163712)
  obtain ⟨R, hR, bR, dR⟩ := wrapU ((N2 : Int) - (N3 : Int))
  clear dN1 dN2 dN3 dR
  have g1 : decide ((4294967296 : Int) ≤ (U : Int) / 3221225472) = false := by simp only [decide_eq_false_iff_not]; omega
  have g2 : decide ((4294967296 : Int) ≤ (V : Int) / 3221225472) = false := by simp only [decide_eq_false_iff_not]; omega
  go_enter Try.func80, Try.ntmps80
  go_wp2_with (go_at_call 81; refine (hz _).mono ?_; rintro e w' ⟨rfl, rfl⟩)
  go_loop [15, 16] (fun q r => q = .int .u64 ((U : Int) / 3221225472) ∧ r = .int .u64 ((U : Int) - (U : Int) / 3221225472 * 3221225472)) (fun _ _ => 0)
  case atStart => exact ⟨rfl, rfl⟩
  case round =>
    obtain ⟨rfl, rfl⟩ := hrel
    go_wp2
    go_loop [18, 16] (fun q r => q = .int .u64 ((V : Int) / 3221225472) ∧ r = .int .u64 ((V : Int) - (V : Int) / 3221225472 * 3221225472)) (fun _ _ => 0)
    case atStart => exact ⟨rfl, rfl⟩
    case round =>
      obtain ⟨rfl, rfl⟩ := hrel
      go_wp2
      go_ret2
      refine ⟨ret_tup ?_, 0, rfl⟩
      have h1 := hfin.out
      have h2 := eV.out
      omega

set_option maxRecDepth 20000 in
theorem bitsDiv_25 (hi lo : Nat) (hh1 : 0 < hi) (hh : hi < 25) (hl : lo < 18446744073709551616) (w : World) :
    Calls Try.prog 80 #[.int .u64 (hi : Nat), .int .u64 (lo : Nat), .int .u64 ((25 : Nat) : Int)] w fun e w' => (∃ r : Int, e = .returned (.tuple #[.int .u64 (((hi * 18446744073709551616 + lo) / 25 : Nat) : Int), .int .u64 r])) ∧ ∃ n, w' = w.drewN n := by
  have hz := fun w => bitsLead 25 5 (by omega) (by decide +kernel) (by omega) (by omega) w
  have hy0 : bits BinOp.and IntKind.u64 14411518807585587200 4294967295 = 0 := by
    have h := and_mod 14411518807585587200 (by omega)
    simpa using h
  obtain ⟨U, hU⟩ : ∃ U, U = hi * 576460752303423488 + lo / 32 := ⟨_, rfl⟩
  obtain ⟨T, hT⟩ : ∃ T, T = lo * 576460752303423488 % 18446744073709551616 := ⟨_, rfl⟩
  have hor : bits BinOp.or IntKind.u64 ((hi : Int) * 576460752303423488) ((lo : Int) / 32) = (U : Int) := by
    have h := or_plus hi (lo / 32) 59 (by omega) (by omega) (by omega)
    rw [hU]
    simpa using h
  have hw : IntKind.u64.wrap ((lo : Int) * 576460752303423488) = (T : Int) := by
    rw [IntKind.wrap_u64, hT]; omega
  have hand : bits BinOp.and IntKind.u64 (T : Int) 4294967295 = (T : Int) % 4294967296 := and_mod T (by omega)
  have hUb : U < 14411518807585587200 := by omega
  have hTb : T < 18446744073709551616 := by omega
  have hfin : Hid ((hi * 18446744073709551616 + lo) / 25 = (U * 4294967296 + T / 4294967296) / 3355443200) := by
    show _ = _
    omega
  clear hU hT
  obtain ⟨M1, hM1, bM1, dM1⟩ := wrapU ((U : Int) * 4294967296)
  obtain ⟨M2, hM2, bM2, dM2⟩ := wrapU ((M1 : Int) + (T : Int) / 4294967296)
  obtain ⟨M3, hM3, bM3, dM3⟩ := wrapU ((U : Int) / 3355443200 * 14411518807585587200)
  obtain ⟨V, hV, bV, dV⟩ := wrapU ((M2 : Int) - (M3 : Int))
  have eV : Hid ((V : Int) = ((U : Int) - (U : Int) / 3355443200 * 3355443200) * 4294967296 + (T : Int) / 4294967296) := by
    show _ = _
    omega
  have hVb : V < 14411518807585587200 := by have := eV.out; omega
  clear dM1 dM2 dM3 dV
  obtain ⟨N1, hN1, bN1, dN1⟩ := wrapU ((V : Int) * 4294967296)
  obtain ⟨N2, hN2, bN2, dN2⟩ := wrapU ((N1 : Int) + (T : Int) % 4294967296)
  obtain ⟨N3, hN3, bN3, dN3⟩ := wrapU ((V : Int) / 3355443200 * 14411518807585587200)
  obtain ⟨R, hR, bR, dR⟩ := wrapU ((N2 : Int) - (N3 : Int))
  clear dN1 dN2 dN3 dR
  have g1 : decide ((4294967296 : Int) ≤ (U : Int) / 3355443200) = false := by simp only [decide_eq_false_iff_not]; omega
  have g2 : decide ((4294967296 : Int) ≤ (V : Int) / 3355443200) = false := by simp only [decide_eq_false_iff_not]; omega
  go_enter Try.func80, Try.ntmps80
  go_wp2_with (go_at_call 81; refine (hz _).mono ?_; rintro e w' ⟨rfl, rfl⟩)
  go_loop [15, 16] (fun q r => q = .int .u64 ((U : Int) / 3355443200) ∧ r = .int .u64 ((U : Int) - (U : Int) / 3355443200 * 3355443200)) (fun _ _ => 0)
  case atStart => exact ⟨rfl, rfl⟩
  case round =>
    obtain ⟨rfl, rfl⟩ := hrel
    go_wp2
    go_loop [18, 16] (fun q r => q = .int .u64 ((V : Int) / 3355443200) ∧ r = .int .u64 ((V : Int) - (V : Int) / 3355443200 * 3355443200)) (fun _ _ => 0)
    case atStart => exact ⟨rfl, rfl⟩
    case round =>
      obtain ⟨rfl, rfl⟩ := hrel
      go_wp2
      go_ret2
      refine ⟨ret_tup ?_, 0, rfl⟩
      have h1 := hfin.out
      have h2 := eV.out
      omega

end Go.Proofs.Ythncgocjegalhaa.Nm
